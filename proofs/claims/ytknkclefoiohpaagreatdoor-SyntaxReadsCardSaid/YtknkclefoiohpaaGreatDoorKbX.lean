/-
  Contracts of the code's functions, part 24.
-/
import Derived.Test.YtknkclefoiohpaaGreatDoorKbK
import Derived.Test.YtknkclefoiohpaaGreatDoorKbS
import Derived.Test.YtknkclefoiohpaaGreatDoorKbI
namespace Go.Proofs.YtknkclefoiohpaaGreatDoor
open Go.RowKit Lx Tx Sx
set_option maxRecDepth 100000
theorem ex8_info:(Tryz.prog.info? 48).map (λi=>(i.zero,i.size,i.bytes))=some (some (.agg #[.int .i64 0,.string ⟨#[]⟩,.bool false,.int .i64 0,.string ⟨#[]⟩,.int .i64 0,.slice none 0 0,.slice none 0 0,.slice none 0 0]),9,136):=by kernel_rfl
def R8w {α:Type}(P:Pc α)(S:Nat->Prop)(B:Nat)(t:TypeId)(w:World)(l:List α)(v:Value):Prop :=
 ∃vs,w.ownsRow B t P.n v l.length vs/\RowG P (λg=>S g\/((B<=g/\g<w.heap.size)/\some g≠v.ownBlock)) w l vs
theorem R8w.next {α:Type} {P:Pc α} {S:Nat->Prop} {B:Nat} {t:TypeId} {w w2 w3:World} {l:List α} {x:α} {v v':Value} {vs cs:List Value}(hS:∀g,S g->g<B)
  (hown:w.ownsRow B t P.n v l.length vs)(hrow:RowG P (λg=>S g\/((B<=g/\g<w.heap.size)/\some g≠v.ownBlock)) w l vs)
  (hx:P.Cs (λg=>S g\/((B<=g/\g<w2.heap.size)/\some g≠v.ownBlock)) w2 x cs)(hB:B<=w.heap.size)(b2:Below w.heap.size w w2)
  (ho:w3.ownsRow B t P.n v' (l.length+1) (vs++cs))(hg:w2.grownBy w3 v.ownBlock)(hat:v'.ownBlock=v.ownBlock\/v'.ownBlock=some w2.heap.size):R8w P S B t w3 (l++[x]) v':=by
 have hlt:=hown.lt
 have s2:=b2.size
 have s3:=hg.size
 have hne:∀g,g<w2.heap.size->some g≠v.ownBlock->some g≠v'.ownBlock:=λg h1 h2=>by
  rcases hat with h|h
  ·rw[h];exact h2
  ·rw[h];intro e;injection e with e;omega
 have hnS:∀g,S g->some g≠v.ownBlock:=λg h e=>by have:=(hlt g e.symm).1;have:=hS g h;omega
 have hk:∀g,g<w2.heap.size->some g≠v.ownBlock->w3.heap[g]? = w2.heap[g]?:=λg h1 h2=>hg.block g h1 h2
 refine⟨vs++cs,by rw[List.length_append];exact ho,RowG.snoc (P.keep (λg h=>?_) (λg h=>?_) hx) l vs (RowG.keep (λg h=>?_) (λg h=>?_) l vs hrow)⟩
 ·exact h.imp id λh=>⟨⟨h.1.1,by have:=h.1.2;omega⟩,hne g h.1.2 h.2⟩
 ·rcases h with h|h
  ·exact hk g (by have:=hS g h;omega) (hnS g h)
  ·exact hk g h.1.2 h.2
 ·exact h.imp id λh=>⟨⟨h.1.1,by have:=h.1.2;omega⟩,hne g (by have:=h.1.2;omega) h.2⟩
 ·have h2:g<w.heap.size/\some g≠v.ownBlock:=by
   rcases h with h|h
   ·exact⟨by have:=hS g h;omega,hnS g h⟩
   ·exact⟨h.1.2,h.2⟩
  exact(hk g (by omega) h2.2).trans (b2.block g h2.1)
theorem R8w.lst {α:Type} {P:Pc α} {S:Nat->Prop} {B:Nat} {t:TypeId} {w:World} {l:List α} {A:Option Addr} {n c:Nat}(h:R8w P S B t w l (.slice A n c)):n=l.length/\n<=c/\LstG P (λg=>S g\/(B<=g/\g<w.heap.size)) w l A:=by
 obtain⟨vs,h1,h2⟩:=h
 have hc:=λg hg=>h1.cells (g:=g) hg
 have hlt:=h1.lt
 rcases h1.2 with⟨h3,h0⟩|⟨g,cap,cur,h3,hh⟩
 ·injection h3 with e1 e2 e3
  subst e1 e2 e3
  have hk:l=[]:=by cases l with|nil=>rfl|cons a b=>simp at h0
  exact⟨by rw[hk];rfl,Nat.le_refl _,λh=>absurd hk h⟩
 ·injection h3 with e1 e2 e3
  subst e1 e2 e3
  refine⟨rfl,hh.2.2.1,λh=>⟨g,rfl,.inr ⟨(hlt g rfl).1,(hlt g rfl).2⟩,RowG.lie l vs 0 (RowG.keep (λ_ h=>h.imp id λh=>h.1) (λ_ _=>rfl) l vs h2) λj u hu=>?_⟩⟩
  have hadd:(⟨g,0,none⟩:Addr).add j=⟨g,j,none⟩:=by unfold Addr.add;split <;> simp_all
  have:=hc g rfl j u hu
  rw[hadd]at this
  rw[Nat.zero_add];exact this
theorem exs_row {S:Nat->Prop} {w:World} {g:Nat} :(l:List Ex)->∀o,ExsAt S w l g o->∃vs,RowG pcE S w l vs/\Lie w g o vs/\vs.length=l.length*9
 | [],o,_=>⟨[],by rw[RowG],λj v hj=>by simp at hj,rfl⟩
 | e::r,o,h=>by
  rw[ExsAt]at h
  obtain⟨⟨P,h1,h2,h3⟩,h4⟩:=h
  obtain⟨vs,k1,k2,k3⟩:=exs_row r (o+9) h4
  have hl:=exC_length e P
  refine⟨exC e P++vs,by rw[RowG];exact⟨_,vs,rfl,⟨P,rfl,h2,h3⟩,k1⟩,λj v hj=>?_,by rw[List.length_append,hl,k3,List.length_cons];omega⟩
  by_cases hlt:j<9
  ·exact h1 j v (by rw[List.getElem?_append_left (by omega)]at hj;exact hj)
  ·rw[List.getElem?_append_right (by omega),hl]at hj
   have:=k2 (j-9) v hj
   rwa [show o+9+(j-9)=o+j by omega]at this
theorem row_one {S:Nat->Prop} {w:World} :(l:List Ex)->∀vs,RowG pcE S w l vs->∀u∈vs,u.oneCell'=true
 | [],vs,h,u,hu=>by rw[RowG]at h;subst h;cases hu
 | e::r,vs,h,u,hu=>by
  rw[RowG]at h
  obtain⟨cs,rest,rfl,⟨P,rfl,-,-⟩,h2⟩:=h
  rcases List.mem_append.1 hu with hu|hu
  ·obtain⟨K,X,Z,B,m,q,hs⟩:=tyC_shape (tyE e) P.A P.a
   rw[exC,hs]at hu
   simp at hu
   rcases hu with rfl|rfl|rfl|rfl|rfl|rfl|rfl|rfl|rfl <;> rfl
  ·exact row_one r rest h2 u hu
theorem run_append_cells {P:Program} {w:World}(base:Nat)(t ty e:TypeId)(i:TypeInfo)(z:Value)(size bytes:Nat)(ht:P.underlying t=some (.slice e))(hi:P.info? e=some i)(hz:i.zero=some z)(hsize:i.size=size)(hby:i.bytes=bytes)(hzs:z.cells.size=size)(hs0:0<size)
  (v:Value)(n:Nat)(xs:List Value)(A:Option Addr)(m c:Nat)(ys:List Value)(hown:w.ownsRow base e size v n xs)(hlen:ys.length=m*size)(hA:m=0\/∃g,A=some ⟨g,0,none⟩/\∀j u,ys[j]? = some u->w.cell? ⟨g,j,none⟩=some u)
  (h1:∀u∈ys,u.oneCell'=true)(h63:n+m<=maxLen)(hbytes:(n+m)*bytes<=140737488355328)(hbase:base<=w.heap.size) :
  ∃A' c' w',(Builtin.append_ #[t,t] ty #[v,.slice A m c]).run P w=.ok (.slice A' (n+m) c') w'/\w'.ownsRow base e size (.slice A' (n+m) c') (n+m) (xs++ys)/\Below base w w':=by
 cases A with
 | none =>
  rcases hA with rfl|⟨g,h,-⟩
  ·have hy:ys=[]:=List.length_eq_zero_iff.1 (by omega)
   subst hy
   obtain⟨A',c',rfl⟩:=own_shape hown
   exact⟨A',c',w,rg_append_none base t ty e i size ht hi _ n xs hown c,by simpa using hown,Below.refl _ _⟩
  ·cases h
 | some ad =>
  have hg:∀j u,ys[j]? = some u->w.cell? (ad.add j)=some u:=by
   rcases hA with rfl|⟨g,h,h2⟩
   ·have hy:ys=[]:=List.length_eq_zero_iff.1 (by omega)
    subst hy
    exact λj u hu=>by simp at hu
   ·injection h with h
    subst h
    exact λj u hu=>by rw[add_zero_addr];exact h2 j u hu
  obtain⟨v',w',hr,h2,h3,-,-⟩:=run_append_own_at (P:=P) (w:=w) base t ty e i z size bytes ht hi hz hsize hby hzs hs0 v n xs hown ad m c ys hlen hg h1 h63 hbytes hbase
  obtain⟨A',c',rfl⟩:=own_shape h2
  exact⟨A',c',w',hr,h2,Below.grown (Below.refl _ w) h3 hbase (λk hk=>(hown.lt k hk).1)⟩
theorem wpList_append_cells {P:Program} {ops:Array Oper} {rest:List Oper} {o:Oper} {a:Act} {w:World} {Q:Exit->Act->World->Prop}(hgd:o.guard=none)(s x:Operand)(t:TypeId)(ho:o.op=.call { callee:=.builtin .append,args:=#[s,x],argTypes:=#[t,t] })
  (base:Nat)(e:TypeId)(i:TypeInfo)(z:Value)(size bytes:Nat)(ht:P.underlying t=some (.slice e))(hi:P.info? e=some i)(hz:i.zero=some z)(hsize:i.size=size)(hby:i.bytes=bytes)(hzs:z.cells.size=size)(hs0:0<size)
  (v:Value)(n:Nat)(xs:List Value)(A:Option Addr)(m c:Nat)(ys:List Value)(hs:a.eval s=v)(hx:a.eval x=.slice A m c)(hown:w.ownsRow base e size v n xs)(hlen:ys.length=m*size)(hA:m=0\/∃g,A=some ⟨g,0,none⟩/\∀j u,ys[j]? = some u->w.cell? ⟨g,j,none⟩=some u)
  (h1:∀u∈ys,u.oneCell'=true)(h63:n+m<=maxLen)(hbytes:(n+m)*bytes<=140737488355328)(hbase:base<=w.heap.size)
  (h:∀A' c' w',w'.ownsRow base e size (.slice A' (n+m) c') (n+m) (xs++ys)->Below base w w'->wpList P ops Q rest (a.put o.dst (.slice A' (n+m) c')) w'):wpList P ops Q (o::rest) a w:=by
 refine wpList_plain hgd λK hK=>?_
 obtain⟨A',c',w',hr,h2,h3⟩:=run_append_cells (P:=P) (w:=w) base t o.type e i z size bytes ht hi hz hsize hby hzs hs0 v n xs A m c ys hown hlen hA h1 h63 hbytes hbase
 unfold Oper.wp execOp
 simp only[ho,resolve,invoke,builtin,Sem.run_bind,Sem.run_pure,Result.andThen_ok,List.map_toArray,List.map_cons,List.map_nil,hs,hx,hr]
 exact hK _ _ (h A' c' w' h2 h3)
end Go.Proofs.YtknkclefoiohpaaGreatDoor

namespace Go.Proofs.YtknkclefoiohpaaGreatDoor
open Go.RowKit Lx Tx Sx
set_option maxRecDepth 100000
def InP(e:Ex)(w:World)(en:Ending)(w':World):Prop :=
 ∃A c,en=.returned (.slice A (parts e).length c)/\LstG pcE (λg=>g<w'.heap.size) w' (parts e) A/\Below w.heap.size w w'
set_option maxHeartbeats 6400000 in
theorem r8_inner(e:Ex)(S:Nat->Prop)(v:Value)(w:World)(hv:RdX S w e v)(hS:∀g,S g->g<w.heap.size)(hsz:(parts e).length<=500000) :
  Calls Tryz.prog 51 #[v] w (InP e w):=by
 obtain⟨i0,hi0,hz0,hz1,hz2⟩:=info_parts ex8_info
 obtain⟨K,X,Z,A0,m,q,KA,kc,LA,lc,rfl,hin⟩:=hv.shape
 obtain⟨kd,hkd⟩:∃x,kdE e=x:=⟨_,rfl⟩
 obtain⟨Y,hY⟩:∃Y:ByteArray,⟨(nmE e).toArray⟩=Y:=⟨_,rfl⟩
 obtain⟨td,htd⟩:∃x,toE e=x:=⟨_,rfl⟩
 obtain⟨kn,hkn⟩:∃x,(kidsE e).length=x:=⟨_,rfl⟩
 obtain⟨ln,hln⟩:∃x,(altsE e).length=x:=⟨_,rfl⟩
 have hpl:(parts e).length=kn+ln:=by rw[parts_len,hkn,hln]
 have hkids:=((kids_at e KA LA).1 hin).1
 have hrow:∃ys,RowG pcE S w (kidsE e) ys/\ys.length=kn*9/\(kn=0\/∃g,KA=some ⟨g,0,none⟩/\S g/\∀j u,ys[j]? = some u->w.cell? ⟨g,j,none⟩=some u):=by
  by_cases h0:kidsE e=[]
  ·rw[h0]at hkn ⊢
   exact⟨[],by rw[RowG],by rw[<-hkn];rfl,.inl hkn.symm⟩
  ·obtain⟨g,h1,h2,h3⟩:=hkids h0
   obtain⟨ys,k1,k2,k3⟩:=exs_row _ 0 h3
   exact⟨ys,k1,by rw[k3,hkn],.inr ⟨g,h1,h2,λj u hu=>by have:=k2 j u hu;rwa [Nat.zero_add]at this⟩⟩
 obtain⟨ys,hys,hyl,hyc⟩:=hrow
 rw[hkd,hY,htd,hkn,hln]
 obtain⟨W0,hW0⟩:∃W,w.alloc (.cells #[.int .i64 (kd:Nat),.string Y,.bool td,.int .i64 K,.string X,.int .i64 Z,.slice A0 m q,.slice KA kn kc,.slice LA ln lc] 48)=W:=⟨_,rfl⟩
 have hlw:Below w.heap.size w W0:=hW0▸(Below.refl _ w).alloc (Nat.le_refl _) _
 have hs0:w.heap.size+1<=W0.heap.size/\W0.heap.size<=w.heap.size+1:=by rw[<-hW0];simp
 have hbk:Blk W0 w.heap.size 48 #[.int .i64 (kd:Nat),.string Y,.bool td,.int .i64 K,.string X,.int .i64 Z,.slice A0 m q,.slice KA kn kc,.slice LA ln lc]:=hW0▸heap_alloc_new _ _
 have HLW:=hidE hlw
 have HBX:=hidE hbk
 have HIN:=hidE hin
 have HS:=hidE hS
 have HLN:=hidE hln
 have HKN:=hidE hkn
 have HONE:=hidE (row_one _ _ hys)
 have HYC:Hid (∀W,Below w.heap.size w W->(kn=0\/∃g,KA=some ⟨g,0,none⟩/\∀j u,ys[j]? = some u->W.cell? ⟨g,j,none⟩=some u)):=hidE λW hb=>hyc.imp id λ⟨g,h1,h2,h3⟩=>⟨g,h1,λj u hu=>(hb.cell (p:=⟨g,j,none⟩) (hS g h2)).trans (h3 j u hu)⟩
 have HYS:=hidE hys
 have HYL:=hidE hyl
 have hkn2:kn<=2:=by rw[<-hkn];cases e <;> simp[kidsE]
 have hln5:ln<=500000:=by omega
 have HPL:=hidE hpl
 obtain⟨⟨f0,f1,f2,f3,f4,f5,f6,f7,f8⟩,-,hlt0⟩:=blk_facts9 hbk
 clear hin hS hkn hln hkd hY htd hv hlw hbk hkids hys hyl hyc hpl hsz
 unfold InP
 rw[HPL.out]
 go_enter Tryz.func51,Tryz.ntmps51
 go_wp2_with (at_builtin;refine wpList_append_cells rfl (.tmp 5) (.tmp 7) 45 rfl W0.heap.size 48 i0 _ 9 136 Tryz.underlying45 hi0 hz0 hz1 hz2 rfl (by decide) (.slice (some ⟨W0.heap.size,0,none⟩) 0 0) 0 [] KA kn kc ys rfl rfl ⟨by simp,.inr ⟨W0.heap.size,0,#[],rfl,Nat.le_refl _,heap_alloc_new _ _,Nat.le_refl _,by unfold maxLen;omega,by simp,by simp⟩⟩ HYL.out (HYC.out _ (HLW.out.alloc (by omega) _)) HONE.out (by unfold maxLen;omega) (by omega) (by simp) ?_;intro A2 c2 w2 hown2 hb2;have HO2:=hidE hown2;have HB2:=hidE (((Below.refl _ W0).alloc (Nat.le_refl _) (.cells #[] 48)).trans hb2);clear hown2 hb2)
 have hz2':=HB2.out.size
 have hst:R8w pcE (λg=>g<w.heap.size) W0.heap.size 48 w2 (kidsE e++((altsE e).take 0).map alB) (.slice A2 kn c2):=by
  rw[List.take_zero,List.map_nil,List.append_nil]
  refine⟨ys,?_,RowG.keep (λg hg=>.inl hg) (λg hg=>(HB2.out.block g (by omega)).trans (HLW.out.block g hg)) _ _ (RowG.keep (S:=S) (λg hg=>HS.out g hg) (λ_ _=>rfl) _ _ HYS.out)⟩
  have:=HO2.out
  rw[List.nil_append,Nat.zero_add]at this
  rw[HKN.out]
  exact this
 have HST:=hidE hst
 clear hst f0 f1 f2 f3 f4 f5 f6 f7 f8 HO2
 go_loopg [3,4] ln (λgg vo vi wr=>∃(j n':Nat) (A:Option Addr) (c:Nat),gg=ln-j/\vo=.slice A n' c/\vi=.int .i64 (j:Nat)/\j<=ln/\n'<=kn+j/\Hid (n'=(kidsE e++((altsE e).take j).map alB).length)/\Hid (R8w pcE (λg=>g<w.heap.size) W0.heap.size 48 wr (kidsE e++((altsE e).take j).map alB) (.slice A n' c))/\Hid (Below W0.heap.size W0 wr))
 case atStart=>exact⟨0,kn,A2,c2,rfl,rfl,rfl,by omega,by omega,hidE (by simp[HKN.out]),HST,HB2⟩
 case round =>
  obtain⟨j,n',A,c,rfl,rfl,rfl,hj,hn'',hnn,hR,hB⟩:=hrel
  have hsr:=hB.out.size
  obtain⟨⟨f0,f1,f2,f3,f4,f5,f6,f7,f8⟩,-,hlw⟩:=blk_facts9 (HBX.out.below hB.out (by omega))
  by_cases hlt:j<ln
  ·obtain⟨x,hx⟩:∃x,(altsE e)[j]? = some x:=⟨_,List.getElem?_eq_getElem (by rw[HLN.out];exact hlt)⟩
   obtain⟨g,rfl,hSg,hat⟩:=HIN.out.alt j x hx
   have hkeep:∀g,S g->wr.heap[g]? = w.heap[g]?:=λg hg=>(hB.out.block g (by have:=HS.out g hg;omega)).trans (HLW.out.block g (HS.out g hg))
   obtain⟨xc,V,vn,vc,-,-,hbody⟩:=(AlIn.keep (λ_ h=>h) hkeep x g _ (hkeep g hSg) hat).cells
   obtain⟨k1,x1,t1,K1,X1,Z1,B1,m1,q1,KA1,kn1,kc1,LA1,ln1,lc1,c0,c1,c2,c3,c4,c5,c6,c7,c8,hrd⟩:=hbody.cells
   have hgl:=lt_cell c0
   have ii0:(0:Int)<=(j:Int):=by omega
   have ii1:(j:Int)<(ln:Int):=by omega
   obtain⟨vs,hown,hrow⟩:=hR.out
   rw[<-hnn.out]at hown
   replace hown:wr.ownsRow W0.heap.size 48 9 (.slice A n' c) n' vs:=hown
   have HOWN:=hidE hown
   have HROW:=hidE hrow
   have HOW:=hidE (hown.alloc (.cells #[.int .i64 k1,.string x1,.bool t1,.int .i64 K1,.string X1,.int .i64 Z1,.slice B1 m1 q1,.slice KA1 kn1 kc1,.slice LA1 ln1 lc1] 48))
   have HRD:Hid (pcE.Cs (λg=>g<w.heap.size) wr (alB x) [.int .i64 k1,.string x1,.bool t1,.int .i64 K1,.string X1,.int .i64 Z1,.slice B1 m1 q1,.slice KA1 kn1 kc1,.slice LA1 ln1 lc1]):=hidE ((rdX_cs (cs:=[.int .i64 k1,.string x1,.bool t1,.int .i64 K1,.string X1,.int .i64 Z1,.slice B1 m1 q1,.slice KA1 kn1 kc1,.slice LA1 ln1 lc1])).1 (hrd.keep (S':=λg=>g<w.heap.size) (λg hg=>HS.out g hg) (λ_ _=>rfl)))
   have HX:Hid ((kidsE e++((altsE e).take (j+1)).map alB)=(kidsE e++((altsE e).take j).map alB)++[alB x]):=hidE (by rw[List.take_add_one,hx];simp)
   clear hx hSg hat hkeep hbody hrd hown hrow hR
   go_wp2_with (at_builtin;refine wpList_append_own_at _ rfl (.tmp 16) (.tmp 23) 45 rfl W0.heap.size 48 i0 _ 9 136 Tryz.underlying45 hi0 hz0 hz1 hz2 rfl (by decide) _ n' vs rfl HOW.out ⟨wr.heap.size,0,none⟩ 1 1 [.int .i64 k1,.string x1,.bool t1,.int .i64 K1,.string X1,.int .i64 Z1,.slice B1 m1 q1,.slice KA1 kn1 kc1,.slice LA1 ln1 lc1] rfl rfl (new_cells' _ _ _ _ rfl) (by intro u hu;simp at hu;rcases hu with rfl|rfl|rfl|rfl|rfl|rfl|rfl|rfl|rfl <;> rfl) (by unfold maxLen;omega) (by omega) (by simp;omega) ?_;intro v2 w5 hown5 hgrow _ hat5;obtain⟨A5,c5,rfl⟩:=own_shape hown5;have HO5:=hidE hown5;have HG5:=hidE hgrow;have HT5:=hidE hat5;clear hown5 hgrow hat5)
   have hs5:=HG5.out.size
   simp at hs5
   have HLT:=HOWN.out.lt
   go_roundg (ln-(j+1))
   case measure=>omega
   case rel =>
    refine⟨j+1,n'+1,A5,c5,rfl,rfl,by go_num,by omega,by omega,hidE (by rw[HX.out,List.length_append,<-hnn.out];rfl),hidE ?_,hidE (((hB.out.alloc hsr _).grown HG5.out (by simp;omega) (λk hk=>by have:=HLT k hk;omega)))⟩
    rw[HX.out]
    refine R8w.next (w:=wr) (w2:=wr.alloc (.cells #[.int .i64 k1,.string x1,.bool t1,.int .i64 K1,.string X1,.int .i64 Z1,.slice B1 m1 q1,.slice KA1 kn1 kc1,.slice LA1 ln1 lc1] 48)) (λg hg=>by omega) (by rw[<-hnn.out];exact HOWN.out) HROW.out (pcE.keep (λg hg=>.inl hg) (λg hg=>Below.heap_alloc _ _ _ (by omega)) HRD.out) hsr ((Below.refl _ wr).alloc (Nat.le_refl _) _) (by rw[<-hnn.out];exact HO5.out) HG5.out HT5.out
  ·have hjl:j=ln:=by omega
   subst hjl
   have HF:Hid (n'=kn+j/\LstG pcE (λg=>g<wr.heap.size) wr (parts e) A):=hidE (by
    obtain⟨h1,-,h2⟩:=hR.out.lst
    rw[List.take_of_length_le (by rw[HLN.out];exact Nat.le_refl _)]at h1 h2
    refine⟨by rw[h1];simp[HKN.out,HLN.out],?_⟩
    exact h2.keep (λg hg=>by rcases hg with h|h <;> omega) (λ_ _=>rfl))
   clear hR
   obtain⟨rfl,hL⟩:=HF.out
   clear HF
   go_wp2_with fail
   go_ret
   exact⟨A,c,rfl,hL,HLW.out.trans (hB.out.mono (by omega))⟩
end Go.Proofs.YtknkclefoiohpaaGreatDoor

namespace Go.Proofs.YtknkclefoiohpaaGreatDoor
open Go.RowKit Lx Tx Sx
set_option maxRecDepth 100000
theorem LstG.exAt {S:Nat->Prop} {w:World} {l:List Ex} {A:Option Addr}(h:LstG pcE S w l A)(i:Nat)(x:Ex)(hx:l[i]? = some x):∃g,A=some ⟨g,0,none⟩/\S g/\ExAt S w x g (i*9):=by
 obtain⟨hi,rfl⟩:=List.getElem?_eq_some_iff.1 hx
 obtain⟨g,h1,h2,h3⟩:=h (by intro e;rw[e]at hi;simp at hi)
 have:=ExsAt.at_ l g 0 i hi ((atG_ex l g 0).1 h3)
 rw[Nat.zero_add]at this
 exact⟨g,h1,h2,this⟩
theorem part_lt(e:Ex)(i:Nat)(x:Ex)(hx:(parts e)[i]? = some x):x.size<e.size:=by
 rw[size_parts e]
 have:x.size<=((parts e).map Ex.size).sum:=by
  have hm:=List.mem_of_getElem? hx
  generalize parts e=l at hm
  induction l with
  | nil=>cases hm
  | cons a r ih =>
   rw[List.map_cons,List.sum_cons]
   rcases List.mem_cons.1 hm with rfl|hm
   ·omega
   ·have:=ih hm;omega
 omega
theorem parts_le(e:Ex):(parts e).length<=e.size:=by
 rw[size_parts e]
 have:∀l:List Ex,l.length<=(l.map Ex.size).sum:=by
  intro l
  induction l with
  | nil=>exact Nat.le_refl _
  | cons a r ih=>have:1<=a.size:=by { cases a <;> simp only[Ex.size] <;> omega };rw[List.map_cons,List.sum_cons,List.length_cons];omega
 have:=this (parts e)
 omega
def dpI(e:Ex)(i:Nat):Nat:=(((parts e).take i).map Ex.depth).foldl max 0
theorem dpI_step(e:Ex)(i:Nat)(x:Ex)(hx:(parts e)[i]? = some x):dpI e (i+1)=max (dpI e i) x.depth:=by
 unfold dpI
 rw[List.take_add_one,hx]
 simp
theorem foldl_max_le:∀(l:List Nat)(a:Nat),a<=l.foldl max a
 | [],_=>Nat.le_refl _
 | x::r,a=>by have:=foldl_max_le r (max a x);rw[List.foldl_cons];omega
theorem dpI_le(e:Ex)(i:Nat):dpI e i+1<=e.depth:=by
 have h1:e.depth=1+((parts e).map Ex.depth).foldl max 0:=depth_parts e
 have h2:((parts e).map Ex.depth).foldl max 0=(((parts e).drop i).map Ex.depth).foldl max (dpI e i):=by
  rw[dpI,<-List.foldl_append,<-List.map_append,List.take_append_drop]
 have:=foldl_max_le (((parts e).drop i).map Ex.depth) (dpI e i)
 omega
theorem dpI_all(e:Ex)(n:Nat)(h:n=(parts e).length):e.depth=dpI e n+1:=by
 rw[depth_parts,dpI,h,List.take_length]
 omega
theorem ex_cells {S:Nat->Prop} {w:World} {e:Ex} {v:Value}(h:RdX S w e v):∃(kd:Int)(Y:ByteArray)(td:Bool)(K:Int)(X:ByteArray)(Z:Int)(A0:Option Addr)(m q:Nat)(KA:Option Addr)(kn kc:Nat)(LA:Option Addr)(ln lc:Nat),v=.agg #[.int .i64 kd,.string Y,.bool td,.int .i64 K,.string X,.int .i64 Z,.slice A0 m q,.slice KA kn kc,.slice LA ln lc]:=by
 obtain⟨K,X,Z,A0,m,q,KA,kc,LA,lc,rfl,-⟩:=h.shape
 exact⟨_,_,_,K,X,Z,A0,m,q,KA,_,kc,LA,_,lc,rfl⟩
set_option maxHeartbeats 6400000 in
theorem r8_depth(n:Nat):∀(e:Ex)(S:Nat->Prop)(v:Value)(w:World),e.size<=n->n<=400000->RdX S w e v->(∀g,S g->g<w.heap.size) ->
  Calls Tryz.prog 19 #[v] w λen w'=>en=.returned (.int .i64 (e.depth:Nat))/\Below w.heap.size w w':=by
 induction n with
 | zero=>intro e S v w h;have:1<=e.size:=by { cases e <;> simp only[Ex.size] <;> omega };omega
 | succ n ih =>
  intro e S v w hn h5 hv hS
  have hpl:=parts_le e
  obtain⟨kd,Y,td,K,X,Z,A0,m,q,KA,kn,kc,LA,ln,lc,rfl⟩:=ex_cells hv
  obtain⟨W0,hW0⟩:∃W,w.alloc (.cells #[.int .i64 kd,.string Y,.bool td,.int .i64 K,.string X,.int .i64 Z,.slice A0 m q,.slice KA kn kc,.slice LA ln lc] 48)=W:=⟨_,rfl⟩
  have hlw:Below w.heap.size w W0:=hW0▸(Below.refl _ w).alloc (Nat.le_refl _) _
  have hs0:w.heap.size+1<=W0.heap.size/\W0.heap.size<=w.heap.size+1:=by rw[<-hW0];simp
  have hbk:Blk W0 w.heap.size 48 #[.int .i64 kd,.string Y,.bool td,.int .i64 K,.string X,.int .i64 Z,.slice A0 m q,.slice KA kn kc,.slice LA ln lc]:=hW0▸heap_alloc_new _ _
  have HIN:=hidE (r8_inner e S _ W0 (hv.keep (λ_ h=>h) (λg hg=>hlw.block g (hS g hg))) (λg hg=>by have:=hS g hg;omega) (by omega))
  obtain⟨L,hL⟩:∃L,parts e=L:=⟨_,rfl⟩
  obtain⟨pn,hpn⟩:∃k,L.length=k:=⟨_,rfl⟩
  unfold InP at HIN
  rw[hL,hpn]at HIN
  rw[hL,hpn]at hpl
  have hpn9:pn<=400000:=by omega
  have HLW:=hidE hlw
  have HIH:=hidE ih
  have HN:=hidE (And.intro hn h5)
  have HL:=hidE hL
  have HPN:=hidE hpn
  obtain⟨R,hR⟩:∃R,e.depth=R:=⟨_,rfl⟩
  have HR:=hidE hR
  have hR6:R<=400001:=by have:=depth_leS e;omega
  have hDI:∀i,i<=pn->dpI e i<=400001:=λi _=>by have:=dpI_le e i;omega
  have HDI:=hidE hDI
  obtain⟨⟨f0,f1,f2,f3,f4,f5,f6,f7,f8⟩,-,hlt0⟩:=blk_facts9 hbk
  rw[hR]
  clear hv hS hn h5 ih hL hpn hlw hbk hR hDI
  go_enter Tryz.func19,Tryz.ntmps19
  go_wp2_with fail
  try rw[hW0]
  refine HIN.out.mono ?_
  rintro en w2 ⟨A,c,rfl,hl,b2⟩
  have hs2:=b2.size
  have HLL:=hidE hl
  have HB2:=hidE (HLW.out.trans (b2.mono (by omega)))
  clear hl b2 HIN hW0 f0 f1 f2 f3 f4 f5 f6 f7 f8
  go_wp2_with fail
  go_loopg [3,5] pn (λgg va vi wr=>∃i a:Nat,gg=pn-i/\va=.int .i64 a/\vi=.int .i64 (i:Nat)/\i<=pn/\a<=400001/\Hid (dpI e i=a)/\Hid (Below w2.heap.size w2 wr))
  case atStart=>exact⟨0,0,rfl,rfl,rfl,by omega,by omega,hidE rfl,hidE (Below.refl _ _)⟩
  case round =>
   obtain⟨i,a,rfl,rfl,rfl,hi,ha,hd,hB⟩:=hrel
   have hsr:=hB.out.size
   by_cases hlt:i<pn
   ·obtain⟨x,hx⟩:∃x,L[i]? = some x:=⟨_,List.getElem?_eq_getElem (by rw[HPN.out];exact hlt)⟩
    obtain⟨g,rfl,hSg,hat⟩:=HLL.out.exAt i x hx
    have hkeep:∀g,g<w2.heap.size->wr.heap[g]? = w2.heap[g]?:=λg hg=>hB.out.block g hg
    obtain⟨k1,x1,t1,K1,X1,Z1,B1,m1,q1,KA1,kn1,kc1,LA1,ln1,lc1,c0,c1,c2,c3,c4,c5,c6,c7,c8,hrd⟩:=(hat.keep (λ_ h=>h) hkeep (hkeep g hSg)).cells
    have hgl:=lt_cell c0
    have ii0:(0:Int)<=(i:Int):=by omega
    have ii1:(i:Int)<(pn:Int):=by omega
    have hxx:(parts e)[i]? = some x:=by rw[HL.out];exact hx
    have hpx:=part_lt e i x hxx
    have hcall:=HIH.out x _ _ wr (by have:=HN.out.1;omega) (by have:=HN.out.2;omega) hrd (λg hg=>by omega)
    obtain⟨D,hD⟩:∃D,x.depth=D:=⟨_,rfl⟩
    have HST:Hid (dpI e (i+1)=max a D):=hidE (by rw[dpI_step e i x hxx,hd.out,hD])
    have hD4:max a D<=400001:=by rw[<-HST.out];exact HDI.out _ (by omega)
    have hDD:D<=400001:=by omega
    rw[hD]at hcall
    have HCALL:=hidE hcall
    clear hx hSg hat hkeep hrd hxx hpx hcall hD
    go_wp2_with (go_at_call 19;refine HCALL.out.mono ?_;rintro en w3 ⟨rfl,b3⟩)
    all_goals
     have HB3:=hidE (hB.out.trans (b3.mono hsr))
     go_roundg (pn-(i+1))
     case measure=>omega
     case rel=>exact⟨i+1,max a D,rfl,congrArg (Value.int .i64) (by omega),by go_num,by omega,hD4,HST,HB3⟩
   ·have hip:i=pn:=by omega
    subst hip
    have hr:Hid (R=a+1):=hidE (by rw[<-HR.out,dpI_all e i (by rw[HL.out,HPN.out]),hd.out])
    go_wp2_with fail
    go_ret
    exact⟨by rw[hr.out];rfl,HB2.out.trans (hB.out.mono (by have:=HB2.out.size;omega))⟩
end Go.Proofs.YtknkclefoiohpaaGreatDoor

namespace Go.Proofs.YtknkclefoiohpaaGreatDoor
open Go.RowKit Lx Tx Sx
set_option maxRecDepth 100000
def szI(e:Ex)(i:Nat):Nat:=1+(((parts e).take i).map Ex.size).sum
theorem szI_step(e:Ex)(i:Nat)(x:Ex)(hx:(parts e)[i]? = some x):szI e (i+1)=szI e i+x.size:=by
 unfold szI
 rw[List.take_add_one,hx]
 simp
 omega
theorem szI_le(e:Ex)(i:Nat):szI e i<=e.size:=by
 rw[size_parts e,szI]
 have h:((parts e).map Ex.size).sum=(((parts e).take i).map Ex.size).sum+(((parts e).drop i).map Ex.size).sum:=by
  rw[<-List.sum_append,<-List.map_append,List.take_append_drop]
 omega
theorem szI_all(e:Ex)(n:Nat)(h:n=(parts e).length):e.size=szI e n:=by
 rw[size_parts,szI,h,List.take_length]
set_option maxHeartbeats 6400000 in
theorem r8_size(n:Nat):∀(e:Ex)(S:Nat->Prop)(v:Value)(w:World),e.size<=n->n<=400000->RdX S w e v->(∀g,S g->g<w.heap.size) ->
  Calls Tryz.prog 18 #[v] w λen w'=>en=.returned (.int .i64 (e.size:Nat))/\Below w.heap.size w w':=by
 induction n with
 | zero=>intro e S v w h;have:1<=e.size:=by { cases e <;> simp only[Ex.size] <;> omega };omega
 | succ n ih =>
  intro e S v w hn h5 hv hS
  have hpl:=parts_le e
  obtain⟨kd,Y,td,K,X,Z,A0,m,q,KA,kn,kc,LA,ln,lc,rfl⟩:=ex_cells hv
  obtain⟨W0,hW0⟩:∃W,w.alloc (.cells #[.int .i64 kd,.string Y,.bool td,.int .i64 K,.string X,.int .i64 Z,.slice A0 m q,.slice KA kn kc,.slice LA ln lc] 48)=W:=⟨_,rfl⟩
  have hlw:Below w.heap.size w W0:=hW0▸(Below.refl _ w).alloc (Nat.le_refl _) _
  have hs0:w.heap.size+1<=W0.heap.size/\W0.heap.size<=w.heap.size+1:=by rw[<-hW0];simp
  have hbk:Blk W0 w.heap.size 48 #[.int .i64 kd,.string Y,.bool td,.int .i64 K,.string X,.int .i64 Z,.slice A0 m q,.slice KA kn kc,.slice LA ln lc]:=hW0▸heap_alloc_new _ _
  have HIN:=hidE (r8_inner e S _ W0 (hv.keep (λ_ h=>h) (λg hg=>hlw.block g (hS g hg))) (λg hg=>by have:=hS g hg;omega) (by omega))
  obtain⟨L,hL⟩:∃L,parts e=L:=⟨_,rfl⟩
  obtain⟨pn,hpn⟩:∃k,L.length=k:=⟨_,rfl⟩
  unfold InP at HIN
  rw[hL,hpn]at HIN
  rw[hL,hpn]at hpl
  have hpn9:pn<=400000:=by omega
  have HLW:=hidE hlw
  have HIH:=hidE ih
  have HN:=hidE (And.intro hn h5)
  have HL:=hidE hL
  have HPN:=hidE hpn
  obtain⟨R,hR⟩:∃R,e.size=R:=⟨_,rfl⟩
  have HR:=hidE hR
  have hR6:R<=400001:=by omega
  have hDI:∀i,i<=pn->szI e i<=400001:=λi _=>by have:=szI_le e i;omega
  have HDI:=hidE hDI
  obtain⟨⟨f0,f1,f2,f3,f4,f5,f6,f7,f8⟩,-,hlt0⟩:=blk_facts9 hbk
  rw[hR]
  clear hv hS hn h5 ih hL hpn hlw hbk hR hDI
  go_enter Tryz.func18,Tryz.ntmps18
  go_wp2_with fail
  try rw[hW0]
  refine HIN.out.mono ?_
  rintro en w2 ⟨A,c,rfl,hl,b2⟩
  have hs2:=b2.size
  have HLL:=hidE hl
  have HB2:=hidE (HLW.out.trans (b2.mono (by omega)))
  clear hl b2 HIN hW0 f0 f1 f2 f3 f4 f5 f6 f7 f8
  go_wp2_with fail
  go_loopg [3,5] pn (λgg va vi wr=>∃i a:Nat,gg=pn-i/\va=.int .i64 a/\vi=.int .i64 (i:Nat)/\i<=pn/\a<=400001/\Hid (szI e i=a)/\Hid (Below w2.heap.size w2 wr))
  case atStart=>exact⟨0,1,rfl,rfl,rfl,by omega,by omega,hidE rfl,hidE (Below.refl _ _)⟩
  case round =>
   obtain⟨i,a,rfl,rfl,rfl,hi,ha,hd,hB⟩:=hrel
   have hsr:=hB.out.size
   by_cases hlt:i<pn
   ·obtain⟨x,hx⟩:∃x,L[i]? = some x:=⟨_,List.getElem?_eq_getElem (by rw[HPN.out];exact hlt)⟩
    obtain⟨g,rfl,hSg,hat⟩:=HLL.out.exAt i x hx
    have hkeep:∀g,g<w2.heap.size->wr.heap[g]? = w2.heap[g]?:=λg hg=>hB.out.block g hg
    obtain⟨k1,x1,t1,K1,X1,Z1,B1,m1,q1,KA1,kn1,kc1,LA1,ln1,lc1,c0,c1,c2,c3,c4,c5,c6,c7,c8,hrd⟩:=(hat.keep (λ_ h=>h) hkeep (hkeep g hSg)).cells
    have hgl:=lt_cell c0
    have ii0:(0:Int)<=(i:Int):=by omega
    have ii1:(i:Int)<(pn:Int):=by omega
    have hxx:(parts e)[i]? = some x:=by rw[HL.out];exact hx
    have hpx:=part_lt e i x hxx
    have hcall:=HIH.out x _ _ wr (by have:=HN.out.1;omega) (by have:=HN.out.2;omega) hrd (λg hg=>by omega)
    obtain⟨D,hD⟩:∃D,x.size=D:=⟨_,rfl⟩
    have HST:Hid (szI e (i+1)=a+D):=hidE (by rw[szI_step e i x hxx,hd.out,hD])
    have hD4:a+D<=400001:=by rw[<-HST.out];exact HDI.out _ (by omega)
    have hDD:D<=400001:=by omega
    rw[hD]at hcall
    have HCALL:=hidE hcall
    clear hx hSg hat hkeep hrd hxx hpx hcall hD
    go_wp2_with (go_at_call 18;refine HCALL.out.mono ?_;rintro en w3 ⟨rfl,b3⟩)
    all_goals
     have HB3:=hidE (hB.out.trans (b3.mono hsr))
     go_roundg (pn-(i+1))
     case measure=>omega
     case rel=>exact⟨i+1,a+D,rfl,by go_num,by go_num,by omega,hD4,HST,HB3⟩
   ·have hip:i=pn:=by omega
    subst hip
    have hr:Hid (R=a):=hidE (by rw[<-HR.out,szI_all e i (by rw[HL.out,HPN.out]),hd.out])
    go_wp2_with fail
    go_ret
    exact⟨by rw[hr.out];rfl,HB2.out.trans (hB.out.mono (by have:=HB2.out.size;omega))⟩
end Go.Proofs.YtknkclefoiohpaaGreatDoor
