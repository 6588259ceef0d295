import Derived.Test.YtfafilmklhnngaaGreatDoorBkAP
import Derived.Laws.OwnMore
set_option maxHeartbeats 12800000
namespace Go.Proofs.YtfafilmklhnngaaGreatDoor
open Go.RowKit Lx Tx Go.Maps Go.WideMaps Go.Shelf
set_option maxRecDepth 100000
def RdN(w:World)(t:Ty)(v:Value):Prop:=RdV (λg=>g<w.heap.size) w t v
theorem RdN.below {w w':World} {t:Ty} {v:Value}(h:RdN w t v)(hb:Below w.heap.size w w'):RdN w' t v:=RdV.keep h (λ_ hg=>As hg hb.size) (λg hg=>hb.block g hg)
theorem zes {w0 w w':World}(h:Below w0.heap.size w0 w)(hb:Below w.heap.size w w'):Below w0.heap.size w0 w':=h.trans (hb.mono h.size)
theorem zgt {P:Program} {ops:Array Oper} {o:Oper} {a:Act} {K:Act->World->Prop} {Q:Exit->Act->World->Prop} {E:Prop} {w:World}(kZ:o.guard=none)(s x:Operand)(t:TypeId)
  (ho:o.op=.call { callee:=.builtin .append,args:=#[s,x],argTypes:=#[t,t] })
  (N:Nat)(e:TypeId)(i:TypeInfo)(z:Value)(bytes:Nat)(ht:P.underlying t=some (.slice e))(hi:P.info? e=some i)(hz:i.zero=some z)
  (wD:i.size=1)(hby:i.bytes=bytes)(hzs:z.cells.size=1)
  (v u:Value)(n m:Nat)(xs ys:List Value)(hs:a.eval s=v)(hx:a.eval x=u)(hv:w.ownsRow N e 1 v n xs)(hu:w.ownsRow N e 1 u m ys)(h1:∀y∈ys,y.oneCell'=true)
  (h63:n+m<=maxLen)(td:(n+m)*bytes<=140737488355328)(hN:N<=w.heap.size)
  (h:∀A c w',w'.ownsRow N e 1 (.slice A (n+m) c) (n+m) (xs++ys)->Below N w w'->K (a.put o.dst (.slice A (n+m) c)) w'):if Region.wanted o (yielded ops a.tmps)=true then Oper.wp P o a w K Q else E:=by
 have hw:Region.wanted o (yielded ops a.tmps)=true:=by simp[Region.wanted,kZ]
 rw[Aq hw]
 rcases hu.2 with⟨rfl,rfl⟩|⟨g,cap,cur,rfl,_⟩
 ·have aA:=run_append_owned_none (P:=P) (w:=w) N t o.type e i 1 ht hi v n xs hv
  have hys:ys=[]:=Cs.1 (by have:=hu.1;omega);subst hys;obtain⟨A,c,rfl⟩:=zam hv;have hk:=h A c w (by rw[AU];exact hv) (Below.refl _ w);unfold Oper.wp execOp;simp only[ho,resolve,invoke,builtin,Sem.run_bind,Sem.run_pure,Result.andThen_ok,List.map_toArray,AH,CR,hs,hx,aA];exact hk
 ·obtain⟨v',w',hr,h2,h3,-,-⟩:=run_append_own_at (P:=P) (w:=w) N t o.type e i z 1 bytes ht hi hz wD hby hzs (by omega) v n xs hv ⟨g,0,none⟩ m cap ys hu.1
   (λj y hy=>hu.cells (g:=g) rfl j y hy) h1 h63 td hN
  obtain⟨A,c,rfl⟩:=zam h2;have hk:=h A c w' h2 (Below.grown (Below.refl _ w) h3 hN (λk hk=>(hv.lt k hk).1));unfold Oper.wp execOp;simp only[ho,resolve,invoke,builtin,Sem.run_bind,Sem.run_pure,Result.andThen_ok,List.map_toArray,AH,CR,hs,hx,hr];exact hk
def MetO(N:Nat)(l:List Nat)(n:Nat)(w:World)(v:Value):Prop:=w.ownsRow N 3 1 v n (intV l)/\n<=2000000
theorem MetO.below {N:Nat} {l:List Nat} {n:Nat} {w w':World} {v:Value}(h:MetO N l n w v)(hb:Below w.heap.size w w'):MetO N l n w' v:=⟨own_below h.1 hb,h.2⟩
def MetsPst(N:Nat)(l:List Nat)(n:Nat)(w:World)(e:Ending)(w':World):Prop :=
 ∃A c,e=.returned (.slice A n c)/\MetO N l n w' (.slice A n c)/\Below w.heap.size w w'
theorem zj2 {w:World} {t:Ty} {v:Value}(hv:RdN w t v)(hn:Nm t)(hs:t.size<=1000000)(N n:Nat)(hN:N<=w.heap.size)(hl:t.metas.length=n):Calls Tryz.prog 25 #[v] w (MetsPst N t.metas n w):=by
 have:=znM t _ _ w hv (λ_ h=>h) hn hs;rw[zl4,hl]at this
 refine this.mono ?_;rintro e w' ⟨A,cp,rfl,ho,h2,hb⟩;exact⟨A,cp,rfl,⟨zcn ho hN,h2⟩,hb⟩
def MetR(w:World)(L:List Nat)(n:Nat)(A:Option Addr):Prop:=L.length=n/\(0<n->∃g,A=some ⟨g,0,none⟩/\∀(k:Nat)(x:Nat),L[k]?=some x->w.cell? ⟨g,k,none⟩=some (.int .i64 x))
theorem MetR.of_own {w:World} {N:Nat} {L:List Nat} {n:Nat} {A:Option Addr} {c:Nat} {e:TypeId}(h:w.ownsRow N e 1 (.slice A n c) n (intV L)):MetR w L n A:=by
 refine⟨by have:=h.1;rw[znw]at this;omega,λh0=>?_⟩;rcases h.2 with⟨q,h1⟩|⟨g,cap,cur,q,_⟩
 ·omega
 ·injection q with q1 q2 q3
  subst q1;refine⟨g,rfl,λk x hx=>?_⟩;have:=h.cells (g:=g) rfl k (.int .i64 x) (by unfold intV;rw[AY,hx];rfl);rwa [zbh]at this
theorem ze1(t:Ty)(k:Nat):k∈t.metas↔MtOcc k (db [] t):=by
 unfold Ty.metas;rw[zdi [] t,zbc]
 simp
structure EqR (g:Nat) (w:World) (ts:List (Ty × Ty)):Prop where
 free:∀j,w.frozen? ⟨g,j,none⟩=false
 lt:g<w.heap.size
 eqs:EqsAt (λb=>b≠g/\b<w.heap.size) w ts (some ⟨g,0,none⟩)
theorem EqR.below {g:Nat} {w w':World} {ts:List (Ty × Ty)}(h:EqR g w ts)(hb:Below w.heap.size w w'):EqR g w' ts where
 free j:=(World.frozen?_of_block (hb.block g h.lt)).trans (h.free j)
 lt:=As h.lt hb.size
 eqs i t u hi:=by
  obtain⟨g',At,ct,Au,cu,e,-,h1,h2,h3,h4⟩:=h.eqs i t u hi;injection e with e;injection e with e;subst e;have hk:∀b,b≠g/\b<w.heap.size->w'.heap[b]?=w.heap[b]?:=λb eC=>hb.block b eC.2;have hS:∀b,b≠g/\b<w.heap.size->b≠g/\b<w'.heap.size:=λb eC=>⟨eC.1,As eC.2 hb.size⟩;exact⟨g,At,ct,Au,cu,rfl,As h.lt hb.size,h1.keep (hb.block g h.lt),h2.keep hS hk,h3.keep (hb.block g h.lt),h4.keep hS hk⟩
theorem EqsV.eqR {B:Nat} {S:Nat->Prop} {w:World} {ts:List (Ty × Ty)} {A:Option Addr} {m c:Nat} {v2:Value}(h:EqsV B S w ts (.slice A m c) v2)(hn:0<ts.length):∃g,A=some ⟨g,0,none⟩/\B<=g/\EqR g w ts:=by
 obtain⟨h1,-⟩:=h.eqsAt;obtain⟨jI,kr,o1,-,-,-,o5⟩:=h;rcases o1.2 with⟨-,h0⟩|⟨g,cap,cur,e,hB,hg,-⟩
 ·omega
 ·injection e with e1 _ _
  subst e1;refine⟨g,rfl,hB,?_,(Aj.1 hg).1,λi t u hi=>?_⟩
  ·intro j
   unfold World.frozen?;simp only[hg];first|rfl|simp
  ·obtain⟨g',At,ct,Au,cu,e',h0,a1,a2,a3,a4⟩:=h1 i t u hi
   have hS:∀b,S b->b≠g/\b<w.heap.size:=λb hb=>by
    obtain⟨-,b2,b3,-⟩:=o5 b hb;exact⟨λe=>b3 (by rw[e];rfl),b2⟩
   exact⟨g',At,ct,Au,cu,e',h0,a1,a2.keep hS (λ_ _=>rfl),a3,a4.keep hS (λ_ _=>rfl)⟩
theorem zj5 {S:Nat->Prop} {w:World} {t:Ty} {k z:Int} {x:ByteArray} {a:Option Addr} {m q:Nat}(hr:RdV S w t (.agg #[.int .i64 k,.string x,.int .i64 z,.slice a m q])):k=(kd t:Nat)/\x=nmB t/\z=(nn t:Nat)/\m=(kids t).length/\Args S w t a:=by
 obtain⟨A,c,hv,ha⟩:=hr;injection hv with hv;have hv:=Az Array.toList hv;simp only[BB,Value.int.injEq,Value.string.injEq,Value.slice.injEq,and_true,true_and]at hv;obtain⟨rfl,rfl,rfl,rfl,rfl,rfl⟩:=hv;exact⟨rfl,rfl,rfl,rfl,ha⟩
theorem zmK {α:Type}(l:List α)(i j:Nat)(p q:α)(h:(l.set i p)[j]?=some q):(j=i/\q=p/\i<l.length)\/(j≠i/\l[j]?=some q):=by
 by_cases e:j=i
 ·subst e
  have hl:j<l.length:=by
   have:=(Aw.1 h).1;rwa [CK]at this
  rw[List.getElem?_set_self hl]at h
  injection h with h;exact .inl ⟨rfl,h.symm,hl⟩
 ·rw[List.getElem?_set_ne (λh=>e h.symm)]at h
  exact .inr ⟨e,h⟩
theorem EqR.setL {g i:Nat} {w:World} {ts:List (Ty × Ty)} {t u t':Ty} {k z:Int} {x:ByteArray} {a:Option Addr} {m q:Nat}(h:EqR g w ts)(hi:ts[i]?=some (t,u))(hr:RdV (λb=>b≠g/\b<w.heap.size) w t' (.agg #[.int .i64 k,.string x,.int .i64 z,.slice a m q])):EqR g (setO w g (i*8) (.int .i64 k) (.string x) (.int .i64 z) (.slice a m q)) (ts.set i (t',u)) where
 free j:=(zdI _ _ _ _ _ _ _ _).trans (h.free j)
 lt:=by rw[zaS];exact h.lt
 eqs j t1 u1 hj:=by
  obtain⟨rfl,rfl,rfl,rfl,ha⟩:=zj5 hr;have hk:∀b,b≠g/\b<w.heap.size->(setO w g (i*8) (.int .i64 (kd t':Nat)) (.string (nmB t')) (.int .i64 (nn t':Nat)) (.slice a (kids t').length q)).heap[b]?=w.heap[b]?:=λb eC=>za7 _ _ _ _ _ _ _ _ eC.1;have hS:∀b,b≠g/\b<w.heap.size->b≠g/\b<(setO w g (i*8) (.int .i64 (kd t':Nat)) (.string (nmB t')) (.int .i64 (nn t':Nat)) (.slice a (kids t').length q)).heap.size:=λb eC=>by rw[zaS];exact eC
  rcases zmK ts i j _ _ hj with⟨rfl,e,hl⟩|⟨af,hj⟩
  ·injection e with e1 e2
   subst e1 e2;obtain⟨g',At,ct,Au,cu,e,-,⟨c0,c1,c2,c3⟩,-,⟨d0,d1,d2,d3⟩,h4⟩:=h.eqs j t u1 hi;injection e with e;injection e with e;subst e;obtain⟨f0,f1,f2,f3⟩:=zeh w g (j*8) (.int .i64 (kd t1:Nat)) (.string (nmB t1)) (.int .i64 (nn t1:Nat)) (.slice a (kids t1).length q) _ _ _ _ c0 c1 c2 c3;exact⟨g,a,q,Au,cu,rfl,by rw[zaS];exact h.lt,⟨f0,f1,f2,f3⟩,ha.keep hS hk,⟨(zaW _ _ _ _ _ _ _ _ (by omega)).trans d0,(zaW _ _ _ _ _ _ _ _ (by omega)).trans d1,(zaW _ _ _ _ _ _ _ _ (by omega)).trans d2,(zaW _ _ _ _ _ _ _ _ (by omega)).trans d3⟩,h4.keep hS hk⟩
  ·obtain⟨g',At,ct,Au,cu,e,-,⟨c0,c1,c2,c3⟩,h2,⟨d0,d1,d2,d3⟩,h4⟩:=h.eqs j t1 u1 hj
   injection e with e;injection e with e;subst e;have far:∀o,o<8->(setO w g (i*8) (.int .i64 (kd t':Nat)) (.string (nmB t')) (.int .i64 (nn t':Nat)) (.slice a (kids t').length q)).cell? ⟨g,j*8+o,none⟩=w.cell? ⟨g,j*8+o,none⟩:=λo ho=>zaW _ _ _ _ _ _ _ _ (by omega);exact⟨g,At,ct,Au,cu,rfl,by rw[zaS];exact h.lt,⟨(far 0 (by omega)).trans c0,(far 1 (by omega)).trans c1,(far 2 (by omega)).trans c2,(far 3 (by omega)).trans c3⟩,h2.keep hS hk,⟨(far 4 (by omega)).trans d0,(far 5 (by omega)).trans d1,(far 6 (by omega)).trans d2,(far 7 (by omega)).trans d3⟩,h4.keep hS hk⟩
theorem EqR.setR {g i:Nat} {w:World} {ts:List (Ty × Ty)} {t u t':Ty} {k z:Int} {x:ByteArray} {a:Option Addr} {m q:Nat}(h:EqR g w ts)(hi:ts[i]?=some (t,u))(hr:RdV (λb=>b≠g/\b<w.heap.size) w t' (.agg #[.int .i64 k,.string x,.int .i64 z,.slice a m q])):EqR g (setO w g (i*8+4) (.int .i64 k) (.string x) (.int .i64 z) (.slice a m q)) (ts.set i (t,t')) where
 free j:=(zdI _ _ _ _ _ _ _ _).trans (h.free j)
 lt:=by rw[zaS];exact h.lt
 eqs j t1 u1 hj:=by
  obtain⟨rfl,rfl,rfl,rfl,ha⟩:=zj5 hr;have hk:∀b,b≠g/\b<w.heap.size->(setO w g (i*8+4) (.int .i64 (kd t':Nat)) (.string (nmB t')) (.int .i64 (nn t':Nat)) (.slice a (kids t').length q)).heap[b]?=w.heap[b]?:=λb eC=>za7 _ _ _ _ _ _ _ _ eC.1;have hS:∀b,b≠g/\b<w.heap.size->b≠g/\b<(setO w g (i*8+4) (.int .i64 (kd t':Nat)) (.string (nmB t')) (.int .i64 (nn t':Nat)) (.slice a (kids t').length q)).heap.size:=λb eC=>by rw[zaS];exact eC
  rcases zmK ts i j _ _ hj with⟨rfl,e,hl⟩|⟨af,hj⟩
  ·injection e with e1 e2
   subst e1 e2;obtain⟨g',At,ct,Au,cu,e,-,⟨c0,c1,c2,c3⟩,h2,⟨d0,d1,d2,d3⟩,-⟩:=h.eqs j t1 u hi;injection e with e;injection e with e;subst e;obtain⟨f0,f1,f2,f3⟩:=zeh w g (j*8+4) (.int .i64 (kd u1:Nat)) (.string (nmB u1)) (.int .i64 (nn u1:Nat)) (.slice a (kids u1).length q) _ _ _ _ d0 d1 d2 d3;exact⟨g,At,ct,a,q,rfl,by rw[zaS];exact h.lt,⟨(zaW _ _ _ _ _ _ _ _ (by omega)).trans c0,(zaW _ _ _ _ _ _ _ _ (by omega)).trans c1,(zaW _ _ _ _ _ _ _ _ (by omega)).trans c2,(zaW _ _ _ _ _ _ _ _ (by omega)).trans c3⟩,h2.keep hS hk,⟨f0,f1,f2,f3⟩,ha.keep hS hk⟩
  ·obtain⟨g',At,ct,Au,cu,e,-,⟨c0,c1,c2,c3⟩,h2,⟨d0,d1,d2,d3⟩,h4⟩:=h.eqs j t1 u1 hj
   injection e with e;injection e with e;subst e;have far:∀o,o<8->(setO w g (i*8+4) (.int .i64 (kd t':Nat)) (.string (nmB t')) (.int .i64 (nn t':Nat)) (.slice a (kids t').length q)).cell? ⟨g,j*8+o,none⟩=w.cell? ⟨g,j*8+o,none⟩:=λo ho=>zaW _ _ _ _ _ _ _ _ (by omega);exact⟨g,At,ct,Au,cu,rfl,by rw[zaS];exact h.lt,⟨(far 0 (by omega)).trans c0,(far 1 (by omega)).trans c1,(far 2 (by omega)).trans c2,(far 3 (by omega)).trans c3⟩,h2.keep hS hk,⟨(far 4 (by omega)).trans d0,(far 5 (by omega)).trans d1,(far 6 (by omega)).trans d2,(far 7 (by omega)).trans d3⟩,h4.keep hS hk⟩
theorem zgv {g o:Nat} {w0 w:World}(h:Below w0.heap.size w0 w)(hg:w0.heap.size<=g)(b0 b1 b2 b3:Value):Below w0.heap.size w0 (setO w g o b0 b1 b2 b3) :=
 (((h.setCell (p:=⟨g,o,none⟩) hg _).setCell (p:=⟨g,o+1,none⟩) hg _).setCell (p:=⟨g,o+2,none⟩) hg _).setCell (p:=⟨g,o+3,none⟩) hg _
def zbK(m:Nat)(t:Ty):Ty:=putT (isPM (m:Int)) t (conC m)
theorem zjF(m:Nat)(hm:m<=999999)(t:Ty)(hn:Nm t)(hs:t.size<=120):Nm (zbK m t)/\(zbK m t).size<=120/\∀n,MtOcc n (db [] (zbK m t))↔MtOcc n (db [] t)/\n≠m:=by
 refine⟨zpm _ t _ (by omega) (by rw[zdD];omega) hn (zj4 m hm),?_,λn=>?_⟩
 ·have:=zmb (isPM (m:Int)) t (conC m)
  rw[zdD,CH]at this
  exact AB this hs
 ·unfold zbK
  rw[zpn m t _ (by omega) (by rw[zdD];omega)]
  exact zor m n _
def zbz(ms:List Nat)(t:Ty):Ty:=ms.foldl (λt m=>zbK m t) t
theorem zgw(ms:List Nat)(m:Nat)(t:Ty):zbz (ms++[m]) t=zbK m (zbz ms t):=by unfold zbz;rw[List.foldl_append];rfl
theorem zbZ:(ms:List Nat)->(∀m∈ms,m<=999999)->∀(t:Ty),Nm t->t.size<=120->Nm (zbz ms t)/\(zbz ms t).size<=120/\∀n,MtOcc n (db [] (zbz ms t))↔MtOcc n (db [] t)/\n∉ms
 |[],_,t,hn,hs=>⟨hn,hs,λn=>by simp[zbz]⟩
 |m::ms,hm,t,hn,hs=>by
  obtain⟨h1,h2,h3⟩:=zjF m (hm m (by simp)) t hn hs;obtain⟨h4,h5,h6⟩:=zbZ ms (λx hx=>hm x (by simp[hx])) _ h1 h2;refine⟨h4,h5,λn=>?_⟩;show MtOcc n (db [] (zbz ms (zbK m t)))↔_;rw[h6,h3,An]
  simp only[not_or,and_assoc]
theorem zcC {t:Ty}(hn:Nm t):∀m∈t.metas,m<=999999:=λm hm=>zgQ m _ (zdC [] t hn) ((ze1 t m).1 hm)
def zaV(p:Ty × Ty):Ty × Ty:=(zbz (p.1.metas++p.2.metas) p.1,zbz (p.1.metas++p.2.metas) p.2)
theorem ze2 {t u:Ty}(hn:Nm t/\Nm u/\t.size<=120/\u.size<=120):Nm (zaV (t,u)).1/\Nm (zaV (t,u)).2/\(zaV (t,u)).1.size<=120/\(zaV (t,u)).2.size<=120/\Rig (db [] (zaV (t,u)).1)/\Rig (db [] (zaV (t,u)).2):=by
 obtain⟨h1,h2,h3,h4⟩:=hn;have hm:∀m∈t.metas++u.metas,m<=999999:=λm hm=>(AA.1 hm).elim (zcC h1 m) (zcC h2 m);obtain⟨a1,a2,a3⟩:=zbZ _ hm t h1 h3;obtain⟨b1,b2,b3⟩:=zbZ _ hm u h2 h4;refine⟨a1,b1,a2,b2,λn hn=>?_,λn hn=>?_⟩
 ·obtain⟨x,y⟩:=(a3 n).1 hn
  exact y (AA.2 (.inl ((ze1 t n).2 x)))
 ·obtain⟨x,y⟩:=(b3 n).1 hn
  exact y (AA.2 (.inr ((ze1 u n).2 x)))
def mix(i:Nat)(ts:List (Ty × Ty)):List (Ty × Ty):=(ts.take i).map zaV++ts.drop i
theorem zou(ts:List (Ty × Ty)):mix 0 ts=ts:=by simp[mix]
theorem zpG(ts:List (Ty × Ty)):mix ts.length ts=ts.map zaV:=by simp[mix]
theorem zgS(i:Nat)(ts:List (Ty × Ty)):(mix i ts).length=ts.length:=by
 unfold mix;rw[Ap,AR,Bc,Bk]
 omega
theorem zmL {i:Nat} {ts:List (Ty × Ty)} {p:Ty × Ty}(h:ts[i]?=some p):(mix i ts)[i]?=some p:=by
 have hl:=(Aw.1 h).1;unfold mix;rw[AW (by rw[AR,Bc];omega),AR,Bc,List.getElem?_drop]
 rw[show i+(i-min i ts.length)=i by omega]
 exact h
theorem zj6 {i:Nat} {ts:List (Ty × Ty)} {p:Ty × Ty}(h:ts[i]?=some p):(mix i ts).set i (zaV p)=mix (i+1) ts:=by
 obtain⟨hl,e⟩:=Aw.1 h;unfold mix;rw[List.set_append_right _ _ (by rw[AR,Bc];omega),AR,Bc,show i-min i ts.length=0 by omega,BO hl,List.set_cons_zero,Bn hl,Bl,AH,CR,e,Bj,Cy]
def samB(p:Ty × Ty):Bool:=(smT [] [] p.1 p.2 0).1
def allB(i:Nat)(ts:List (Ty × Ty)):Bool:=(ts.take i).all λp=>samB (zaV p)
theorem zmM(ts:List (Ty × Ty)):allB 0 ts=true:=by simp[allB]
theorem zmN {i:Nat} {ts:List (Ty × Ty)} {p:Ty × Ty}(h:ts[i]?=some p):allB (i+1) ts=(allB i ts&&samB (zaV p)):=by
 obtain⟨hl,e⟩:=Aw.1 h;unfold allB;rw[Bn hl,List.all_append,e]
 simp
theorem zi5(ts:List (Ty × Ty)):allB ts.length ts=true↔∀p∈dbQ (ts.map zaV),p.1=p.2:=by
 unfold allB dbQ;rw[List.take_length,CD]
 constructor
 ·intro h p hp
  obtain⟨q,hq,rfl⟩:=AM.1 hp;obtain⟨r,hr,rfl⟩:=AM.1 hq;exact(same_iff _ _).1 (h r hr)
 ·intro h p hp
  exact(same_iff _ _).2 (h _ (AM.2 ⟨_,AM.2 ⟨p,hp,rfl⟩,rfl⟩))
theorem zi6 {ts:List (Ty × Ty)}(h:EqOK ts):EqOK (ts.map zaV)/\∀p∈dbQ (ts.map zaV),Rig p.1/\Rig p.2:=by
 refine⟨λt u ht=>?_,λp hp=>?_⟩
 ·obtain⟨⟨t0,u0⟩,h0,e⟩:=AM.1 ht
  obtain⟨a,b,c,d,-,-⟩:=ze2 (h t0 u0 h0);rw[e]at a b c d
  exact⟨a,b,c,d⟩
 ·unfold dbQ at hp
  obtain⟨⟨t,u⟩,hq,rfl⟩:=AM.1 hp;obtain⟨⟨t0,u0⟩,h0,e⟩:=AM.1 hq;obtain⟨-,-,-,-,a,b⟩:=ze2 (h t0 u0 h0);rw[e]at a b
  exact⟨a,b⟩
def RigPst(q:Bool)(W:World)(e:Ending)(W':World):Prop:=∃A c er,e=.returned (.tuple #[.slice A 0 c,.int .i64 (er:Nat)])/\Below W.heap.size W W'/\((q=true/\er=0)\/(q=false/\er=40))
theorem UnPost.rig {ts:List (Ty × Ty)} {W:World} {e:Ending} {W':World}(fT:EqOK ts)(h:UnPost (ts.map zaV) W e W'):RigPst (allB ts.length ts) W e W':=by
 obtain⟨f,o,hf,hb,hc⟩:=h;rcases zpB f _ _ _ hf (zi6 fT).2 with⟨rfl,h2⟩|⟨rfl,h2⟩
 ·rcases hc with⟨m,h3,-,rfl⟩|⟨k,v,l,T,h3,-⟩
  ·injection h3 with h3
   refine⟨none,0,40,by rw[<-h3],hb,.inr ⟨?_,rfl⟩⟩;cases hq:allB ts.length ts with
   |false=>rfl
   |true=>exact absurd ((zi5 ts).1 hq) h2
  ·cases h3
 ·rcases hc with⟨m,h3,-⟩|⟨k,v,l,T,h3,rfl,hK,hT,-⟩
  ·cases h3
  ·injection h3 with h3
   subst h3;obtain rfl:=hT.none;obtain⟨A,c,e⟩:∃A c,v=.slice A 0 c:=by
    obtain⟨vs,h1,-⟩:=hK;obtain⟨a,q,e⟩:=zam h1;exact⟨a,q,e⟩
   subst e;exact⟨A,c,0,rfl,hb,.inl ⟨(zi5 ts).2 h2,rfl⟩⟩
theorem zp6 {ts:List (Ty × Ty)} {S:Nat->Prop} {A:Option Addr} {c:Nat} {W:World}(h:EqsAt S W (ts.map zaV) A)(hS:∀g,S g->g<W.heap.size)(fT:EqOK ts)(hl:ts.length<=8):Calls Tryz.prog 14 #[.slice A ts.length c] W (RigPst (allB ts.length ts) W):=by
 have h1:=(zi6 fT).1;have kS:(ts.map zaV).length=ts.length:=AR ..;have:=ziU S (ts.map zaV) A c W h hS (λt u ht=>by obtain⟨a,b,d,e⟩:=h1 t u ht;exact⟨a,b,by omega,by omega⟩) (by omega) (by have:=zi1 _ h1;omega) zhD;rw[kS]at this
 exact this.mono λ_ _ h=>h.rig fT
def fil2(L:List Nat)(k:Nat)(p:Ty × Ty):Ty × Ty:=(zbz (L.take k) p.1,zbz (L.take k) p.2)
def FilP(g:Nat)(T:Ty)(W:World)(e:Ending)(W':World):Prop :=
 ∃k x z a m q,e=.returned (.agg #[.int .i64 k,.string x,.int .i64 z,.slice a m q])/\RdV (λb=>b≠g/\b<W'.heap.size) W' T (.agg #[.int .i64 k,.string x,.int .i64 z,.slice a m q])/\Below W.heap.size W W'
theorem zpH(S:Nat->Prop)(W:World)(x:Nat):RdV S W (conC x) (.agg #[.int .i64 3,.string ⟨(67::dec x).toArray⟩,.int .i64 0,.slice none 0 0]):=⟨none,0,rfl,by unfold conC;rw[Args];exact λh=>absurd rfl h⟩
theorem zj7 {g:Nat} {W:World} {t:Ty} {v:Value} {x:Nat}(hv:RdV (λb=>b≠g/\b<W.heap.size) W t v)(hg:g<W.heap.size)(hn:Nm t)(hs:t.size<=120)(hx:x<=999999)(ht:Tab W):Calls Tryz.prog 27 #[v,.int .i64 (x:Nat),.agg #[.int .i64 3,.string ⟨(67::dec x).toArray⟩,.int .i64 0,.slice none 0 0]] W (FilP g (zbK x t) W):=by
 refine(zpk t (conC x) (x:Nat) _ (λ_=>False) v _ W hv (zpH _ W x) (λ_ h=>h.2) (λ_ h=>h.elim) hn (zj4 x hx) (by omega) (by rw[zdD];omega) ht).mono ?_;rintro e w' ⟨k,y,z,a,m,q,rfl,hr,hb⟩;have aD:=hb.size;refine⟨k,y,z,a,m,q,rfl,hr.keep (λb hb=>?_) (λ_ _=>rfl),hb⟩;rcases hb with h|h|h
 ·exact⟨h.1,by have:=h.2;omega⟩
 ·exact h.elim
 ·exact⟨by omega,h.2⟩
theorem EqR.at {g i:Nat} {w:World} {ts:List (Ty × Ty)} {t u:Ty}(h:EqR g w ts)(hi:ts[i]?=some (t,u)):∃K X Z A m c K' X' Z' A' m' c',
  RdV (λb=>b≠g/\b<w.heap.size) w t (.agg #[.int .i64 K,.string X,.int .i64 Z,.slice A m c])/\RdV (λb=>b≠g/\b<w.heap.size) w u (.agg #[.int .i64 K',.string X',.int .i64 Z',.slice A' m' c']) /\
  (∀W:World,W.heap[g]?=w.heap[g]?->W.cell? ⟨g,i*8,none⟩=some (.int .i64 K)/\W.cell? ⟨g,i*8+1,none⟩=some (.string X)/\W.cell? ⟨g,i*8+2,none⟩=some (.int .i64 Z)/\W.cell? ⟨g,i*8+3,none⟩=some (.slice A m c)) /\
  (∀W:World,W.heap[g]?=w.heap[g]?->W.cell? ⟨g,i*8+4,none⟩=some (.int .i64 K')/\W.cell? ⟨g,i*8+4+1,none⟩=some (.string X')/\W.cell? ⟨g,i*8+4+2,none⟩=some (.int .i64 Z')/\W.cell? ⟨g,i*8+4+3,none⟩=some (.slice A' m' c')) /\
  ∀(W:World),W.heap[g]?=w.heap[g]?->∀j,W.frozen? ⟨g,j,none⟩=false:=by
 obtain⟨g',At,ct,Au,cu,e,-,h1,h2,h3,h4⟩:=h.eqs i t u hi;injection e with e;injection e with e;subst e;exact⟨_,_,_,At,_,ct,_,_,_,Au,_,cu,⟨At,ct,rfl,h2⟩,⟨Au,cu,rfl,h4⟩,λW hW=>h1.keep hW,λW hW=>h3.keep hW,λW hW j=>(World.frozen?_of_block hW).trans (h.free j)⟩
def Kb(g:Nat)(w w':World):Prop:=w.heap.size<=w'.heap.size/\∀b,b≠g->b<w.heap.size->w'.heap[b]?=w.heap[b]?
theorem Kb.refl(g:Nat)(w:World):Kb g w w:=⟨Ai _,λ_ _ _=>rfl⟩
theorem Kb.trans {g:Nat} {a b c:World}(h:Kb g a b)(h':Kb g b c):Kb g a c:=⟨AB h.1 h'.1,λk hk hl=>(h'.2 k hk (As hl h.1)).trans (h.2 k hk hl)⟩
theorem Kb.of_below {g:Nat} {a b:World}(h:Below a.heap.size a b):Kb g a b:=⟨h.size,λk _ hl=>h.block k hl⟩
theorem Kb.setO {g:Nat} {a b:World}(h:Kb g a b)(o:Nat)(b0 b1 b2 b3:Value):Kb g a (setO b g o b0 b1 b2 b3):=⟨by rw[zaS];exact h.1,λk hk hl=>(za7 _ _ _ _ _ _ _ _ hk).trans (h.2 k hk hl)⟩
theorem Kb.cell {g:Nat} {a b:World}(h:Kb g a b) {k j:Nat} {v:Value}(hk:k≠g)(hc:a.cell? ⟨k,j,none⟩=some v):b.cell? ⟨k,j,none⟩=some v:=(World.cell?_of_block (w:=a) (a:=⟨k,j,none⟩) (h.2 k hk (World.block_lt_of_cell? _ _ hc))).trans hc
end Go.Proofs.YtfafilmklhnngaaGreatDoor
