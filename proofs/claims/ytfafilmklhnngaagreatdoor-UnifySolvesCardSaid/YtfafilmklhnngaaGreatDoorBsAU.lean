import Derived.Test.YtfafilmklhnngaaGreatDoorBsAP
import Derived.Test.YtfafilmklhnngaaGreatDoorBsAS
set_option maxHeartbeats 12800000
set_option maxRecDepth 100000
namespace Go.Proofs.YtfafilmklhnngaaGreatDoor
open Tryz
section
open Go.RowKit Go.Shelf Lx Tx Go.Maps Go.WideMaps
attribute [local go_sem] Oper.semAt_some
def Hz(S:Nat->Prop)(w:World)(r:List (Nat × Ty))(A:Option Addr):Prop :=
 ∀(i n:Nat) (t:Ty),r[i]?=some (n,t)->∃g At ct,A=some ⟨g,0,none⟩/\g<w.heap.size/\j_ S w t At /\
  w.cell? ⟨g,i*5,none⟩=some (.int .i64 (n:Nat))/\w.cell? ⟨g,i*5+1,none⟩=some (.int .i64 (kd t:Nat))/\w.cell? ⟨g,i*5+2,none⟩=some (.string (ER t))/\w.cell? ⟨g,i*5+3,none⟩=some (.int .i64 (nn t:Nat))/\w.cell? ⟨g,i*5+4,none⟩=some (.slice At (kids t).length ct)
theorem Ij.Wy {S:Nat->Prop} {B:Nat} {w:World} {l:List (Nat × Ty)} {A:Option Addr} {m c:Nat}(h:Ij S B w l (.slice A m c)):Hz S w l A:=λi n t hi=>by
 obtain⟨g,At,ct,e,-,hg,ha,c0,c1,c2,c3,c4⟩:=h.cells.2 i n t hi;exact⟨g,At,ct,e,hg,ha,c0,c1,c2,c3,c4⟩
theorem zk0 {S:Nat->Prop} {w:World} :(r:List (Nat × Ty))->(q:List (Nat × TV))->r.length=q.length->(∀(i n:Nat)(t:Ty)(p:Nat × TV),r[i]?=some (n,t)->q[i]?=some p->n=p.1/\nc S w t p.2.val)->Gs S w r q
 |[],[],_,_=>trivial
 |(x,t)::r,(y,v)::q,hl,h=>by
  rw[Gs];obtain⟨h1,h2⟩:=h 0 x t (y,v) rfl rfl;exact⟨h1,h2,zk0 r q (by simpa using hl) λi n t p h1 h2=>h (i+1) n t p h1 h2⟩
 |[],_::_,hl,_=>by simp at hl
 |_::_,[],hl,_=>by simp at hl
theorem Gs.mem {S:Nat->Prop} {w:World} :(r:List (Nat × Ty))->(q:List (Nat × TV))->Gs S w r q->∀p∈q,∃e∈r,e.1=p.1
 |[],[],_,p,h=>by cases h
 |(x,t)::r,(y,v)::q,h,p,hp=>by
  rw[Gs]at h;rcases Cd.1 hp with e|e
  ·exact⟨(x,t),by simp,by rw[e];exact h.1⟩
  ·obtain⟨e',h1,h2⟩:=Gs.mem r q h.2.2 p e
   exact⟨e',Cf _ h1,h2⟩
 |[],_::_,h,_,_=>h.elim
 |_::_,[],h,_,_=>h.elim
def US(w:World)(p:Nat × TV)(g j:Nat):Prop :=
 w.cell? ⟨g,j*5,none⟩=some (.int .i64 (p.1:Nat))/\w.cell? ⟨g,j*5+1,none⟩=some (.int .i64 p.2.k)/\w.cell? ⟨g,j*5+2,none⟩=some (.string p.2.x)/\w.cell? ⟨g,j*5+3,none⟩=some (.int .i64 p.2.z)/\w.cell? ⟨g,j*5+4,none⟩=some (.slice p.2.a p.2.m p.2.p)
theorem Hz.tv {S:Nat->Prop} {w:World} {r:List (Nat × Ty)} {A:Option Addr}(h:Hz S w r A):∃q:List (Nat × TV),q.length=r.length/\Gs S w r q/\∀(j:Nat)(p:Nat × TV),q[j]?=some p->∃g,A=some ⟨g,0,none⟩/\g<w.heap.size/\US w p g j:=by
 have h1:∀i,∃p:Nat × TV,∀(n:Nat) (t:Ty),r[i]?=some (n,t)->n=p.1/\nc S w t p.2.val/\∃g,A=some ⟨g,0,none⟩/\g<w.heap.size/\US w p g i:=λi=>by
  cases hr:r[i]? with
  |none=>exact⟨(0,TV.zero),λn t h=>by cases h⟩
  |some e =>
   obtain⟨n,t⟩:=e;obtain⟨g,At,ct,e,hg,ha,c0,c1,c2,c3,c4⟩:=h i n t hr;refine⟨(n,⟨(kd t:Nat),ER t,(nn t:Nat),At,(kids t).length,ct⟩),λn' t' h=>?_⟩;injection h with h;injection h with h2 h3;subst h2 h3;exact⟨rfl,⟨At,ct,rfl,ha⟩,g,e,hg,c0,c1,c2,c3,c4⟩
 let f:Nat->Nat × TV:=λi=>(h1 i).choose
 have hf:∀i n t,r[i]?=some (n,t)->n=(f i).1/\nc S w t (f i).2.val/\∃g,A=some ⟨g,0,none⟩/\g<w.heap.size/\US w (f i) g i:=λi=>(h1 i).choose_spec;have hq:∀(j:Nat) (p:Nat × TV),((List.range r.length).map f)[j]?=some p->j<r.length/\p=f j:=λj p hj=>by
  have hl:=(Cj.1 hj).1;rw[CE,List.length_range]at hl;rw[CT,List.getElem?_range hl]at hj;injection hj with hj;exact⟨hl,hj.symm⟩
 refine⟨(List.range r.length).map f,by simp,zk0 _ _ (by simp) λi n t p hr hp=>?_,λj p hj=>?_⟩
 ·obtain⟨-,rfl⟩:=hq i p hp
  obtain⟨a,b,-⟩:=hf i n t hr;exact⟨a,b⟩
 ·obtain⟨hl,rfl⟩:=hq j p hj
  obtain⟨n,t⟩:Nat × Ty:=r[j];obtain⟨⟨n,t⟩,hr⟩:∃e,r[j]?=some e:=⟨_,BY hl⟩;exact(hf j n t hr).2.2
theorem Ia.laid {w:World} {b:Nat}(h:w.heap[b]?=some (.map #[] 0)):Ia w b []:=⟨0,BU _,JB h⟩
theorem Ia.store {w:World} {b:Nat} {r:List (Nat × TV)}(h:Ia w b r)(hn:r.length<100000000000000)(X:Nat)(hX:X<=999999)(v:TV):∃w',(Instr.mapUpdate 109 (.map (some b)) (.int .i64 X) v.val).run prog w=.ok () w'/\Ia w' b ((X,v)::r)/\w.grownBy w' (some b):=by
 obtain⟨n,fh,h⟩:=h;obtain⟨w',h1,h2,h3⟩:=h.update Is underlying109 (by unfold maxLen;omega) (Kd X hX) (zf2 v);exact⟨w',h1,⟨_,ziy ((X,v)::r),zrH (D:=Jr ((X,v)::r)) h2⟩,h3⟩
def KP(q:List (Nat × TV))(tv:Array Value)(A:Option Addr)(c:Nat)(w:World)(k:Nat)(W:World):Prop :=
 ar W w.heap.size 37 tv/\ar W (w.heap.size+1) 37 #[.int .i64 0,.string ⟨#[]⟩,.int .i64 0,.slice none 0 0]/\Ia W (w.heap.size+2) (q.drop k)/\ar W (w.heap.size+3) 109 #[.map (some (w.heap.size+2))] /\
  ar W (w.heap.size+4) 28 #[.slice A q.length c]/\b_ (λ_=>False) w W
theorem KP.al {q:List (Nat × TV)} {tv:Array Value} {A:Option Addr} {c:Nat} {w:World} {k:Nat} {W W':World}(h:KP q tv A c w k W)(hk:∀g,g<w.heap.size+5->W'.heap[g]?=W.heap[g]?)(hC:b_ (λ_=>False) w W'):KP q tv A c w k W':=by
 obtain⟨h1,h2,h3,h4,h5,-⟩:=h;exact⟨h1.same (hk _ (by omega)),h2.same (hk _ (by omega)),h3.al (hk _ (by omega)),h4.same (hk _ (by omega)),h5.same (hk _ (by omega)),hC⟩
theorem KP.F2 {q:List (Nat × TV)} {tv:Array Value} {A:Option Addr} {c:Nat} {w:World} {k lp:Nat}(mM:w.heap.size+5<=lp):Ip lp (KP q tv A c w k):=λW r r' h hl =>
 h.al (λg hg=>CC (by omega)) (by obtain⟨_,_,_,_,_,h6⟩:=h;exact h6.putObj _ _ (by omega))
attribute [local go_sem] Oper.semAt_some
def RF(S:Nat->Prop)(t:Ty)(w:World)(e:Ending)(w':World):Prop :=
 ∃k x z a m q,e=.returned (.agg #[.int .i64 k,.string x,.int .i64 z,.slice a m q])/\nc (λg=>S g\/(w.heap.size<=g/\g<w'.heap.size)) w' t (.agg #[.int .i64 k,.string x,.int .i64 z,.slice a m q])/\Below w.heap.size w w'
theorem znX {r:List (Nat × Ty)}(h:∀e∈r,e.1<=999999/\Nm e.2/\e.2.size<=1000000000000) {n:Nat} {u:Ty}(hu:Iv n r=some u):Nm u/\u.size<=1000000000000:=by
 induction r with
 |nil=>cases hu
 |cons p r ih =>
  rw[Iv]at hu;split at hu
  ·injection hu with hu
   have:=h p (by simp);rw[<-hu];exact this.2
  ·exact ih (λe he=>h e (by simp[he])) hu
theorem znY(S St:Nat->Prop)(r:List (Nat × Ty))(A:Option Addr)(c:Nat)(t:Ty)(v:Value)(w:World)(hk:Hz S w r A)(hS:∀g,S g->g<w.heap.size)(hv:nc St w t v)(TO:∀g,St g->g<w.heap.size)(hr:∀e∈r,e.1<=999999/\Nm e.2/\e.2.size<=1000000000000)(hl:r.length<=1000000000000)(aw:Nm t)(aA:t.size<=1000000000000)(br:t.r_=true->t.size<=1000000/\(p_ (JG r) t).length<=90000000)(ht:FO w):Calls prog 20 #[.slice A r.length c,v] w (RF S (J8 (JG r) t) w):=by
 obtain⟨K,X,Z,At,mt,ct,rfl,-,-,-,-,-⟩:=hv.parts;obtain⟨q,iU,hrel,gh⟩:=hk.tv;rw[<-iU]at hl ⊢;have dU:∀w,(Instr.makeMap 109 none).run prog w=.ok (.map (some w.heap.size)) (w.alloc (.map #[] 0)):=λ_=>rfl;have iZ:∀(fn:Fn) (first cap:Array Value) (w:World),(Instr.makeFunc fn first cap).run prog w=.ok (.func fn first cap) w:=λ_ _ _ _=>rfl;have Bb:=EP hrel;have BH:=EP gh;have HS:=EP hS;have HV:=EP hv;have dv:=EP TO;have HR:=EP hr;have bQ:=EP aw;have ma:=EP br;have HT:=EP ht;clear hrel gh hS hv TO hr aw br ht hk iU;refine(callsIn_wide (n:=10)).1 ?_;refine callsIn_of_wp_marks func20 rfl trivial ?_ rfl;simp only[ntmps20,CY,Ca,CR,Nat.reduceAdd,Nat.reduceSub,Df,De,Dl,Dh,Cu,Co];gi_wp2
 refine⟨trivial,?_⟩;refine(zp0 Fence.wide _ trivial rfl _ _ _ _).mono ?_;rintro e w' ⟨rfl,rfl⟩;gi_wp2;obtain⟨l0,l1,l2,l3,ls,lb⟩:=MS w (.cells #[.int .i64 K,.string X,.int .i64 Z,.slice At mt ct] 37) (.cells #[.int .i64 0,.string ⟨#[]⟩,.int .i64 0,.slice none 0 0] 37) (.map #[] 0) (.cells #[.map (some (w.heap.size+1+1))] 109);obtain⟨W4,jB⟩:∃W,(((w.alloc (.cells #[.int .i64 K,.string X,.int .i64 Z,.slice At mt ct] 37)).alloc (.cells #[.int .i64 0,.string ⟨#[]⟩,.int .i64 0,.slice none 0 0] 37)).alloc (.map #[] 0)).alloc (.cells #[.map (some (w.heap.size+1+1))] 109)=W:=⟨_,rfl⟩;rw[jB]at l0 l1 l2 l3 ls lb ⊢;obtain⟨w2,dw⟩:∃W,W4.alloc (.cells #[.slice A q.length c] 28)=W:=⟨_,rfl⟩;have aZ:w2.heap.size=w.heap.size+5:=by rw[<-dw,size_alloc,ls]
 have bZ:∀g,g<w.heap.size+4->w2.heap[g]?=W4.heap[g]?:=λg hg=>by rw[<-dw];exact BX _ _ _ (by omega)
 have aV:Below w.heap.size w w2:=by rw[<-dw];exact lb.alloc lb.size _
 have h0:KP q #[.int .i64 K,.string X,.int .i64 Z,.slice At mt ct] A c w q.length w2:=by
  refine⟨(bZ _ (by omega)).trans l0,(bZ _ (by omega)).trans l1,?_,(bZ _ (by omega)).trans l3,?_,b_.c_ aV⟩
  ·rw[List.drop_length];exact Ia.laid ((bZ _ (by omega)).trans l2)
  ·have:=BZ W4 (.cells #[.slice A q.length c] 28)
   rw[dw,ls]at this;exact this
 rw[dw];have cE:=EP aZ;have H0:=EP h0;have dN:∀k W,KP q #[.int .i64 K,.string X,.int .i64 Z,.slice At mt ct] A c w k W->∀(j:Nat) (p:Nat × TV),q[j]?=some p->∃g,A=some ⟨g,0,none⟩/\W.cell? ⟨g,j*5,none⟩=some (.int .i64 (p.1:Nat))/\W.cell? ⟨g,j*5+1,none⟩=some (.int .i64 p.2.k)/\W.cell? ⟨g,j*5+2,none⟩=some (.string p.2.x)/\W.cell? ⟨g,j*5+3,none⟩=some (.int .i64 p.2.z)/\W.cell? ⟨g,j*5+4,none⟩=some (.slice p.2.a p.2.m p.2.p):=λk W h j p hp=>by
  obtain⟨_,_,_,_,_,hc⟩:=h;obtain⟨g,e,hg,d0,d1,d2,d3,d4⟩:=BH.o j p hp;have hx:∀i u,w.cell? ⟨g,i,none⟩=some u->W.cell? ⟨g,i,none⟩=some u:=λi u h=>(Ck (w:=w) (a:=⟨g,i,none⟩) (hc.block g hg (λh=>h))).trans h;exact⟨g,e,hx _ _ d0,hx _ _ d1,hx _ _ d2,hx _ _ d3,hx _ _ d4⟩
 have HC:=EP dN;have HQ6:Hid (∀p∈q,p.1<=999999):=EP λp hp=>by
  obtain⟨e,h1,h2⟩:=Gs.mem r q Bb.o p hp;rw[<-h2];exact(HR.o e h1).1
 clear l0 l1 l2 l3 ls lb jB dw aZ bZ aV h0 dN;refine P5 (σ:=Nat ×(Nat × TV)) rfl (by omega) (gf:=99) (fb:=#[]) (lb:=#[.pointer (some ⟨w.heap.size+4,0,none⟩)]) rfl trivial (enters_of func99 (by kernel_rfl) rfl)
  (λs=>#[.int .i64 (s.1:Nat),.agg #[.int .i64 (s.2.1:Nat),.int .i64 s.2.2.k,.string s.2.2.x,.int .i64 s.2.2.z,.slice s.2.2.a s.2.2.m s.2.2.p]]) (λ_=>rfl)
  (λs W=>KP q #[.int .i64 K,.string X,.int .i64 Z,.slice At mt ct] A c w (s.1+1) W/\q[s.1]?=some s.2) (λs W=>KP q #[.int .i64 K,.string X,.int .i64 Z,.slice At mt ct] A c w s.1 W)
  (λs a₁ W=>∃bx,w.heap.size+7<=bx/\KP q #[.int .i64 K,.string X,.int .i64 Z,.slice At mt ct] A c w (s.1+1) W/\q[s.1]?=some s.2/\ar W bx 39 #[.int .i64 (s.2.1:Nat),.int .i64 s.2.2.k,.string s.2.2.x,.int .i64 s.2.2.z,.slice s.2.2.a s.2.2.m s.2.2.p]/\a₁ = { tmps:=#[.slice A q.length c,.agg #[.int .i64 K,.string X,.int .i64 Z,.slice At mt ct],undef,.pointer (some ⟨w.heap.size,0,none⟩),.pointer (some ⟨w.heap.size+1,0,none⟩),.pointer (some ⟨w.heap.size+1+1+1,0,none⟩),undef,.pointer (some ⟨bx,0,none⟩),.map (some (w.heap.size+1+1)),.slice A q.length c,.func (.func 99) #[] #[.pointer (some ⟨w.heap.size+4,0,none⟩)],.int .i64 (s.1:Nat),.agg #[.int .i64 (s.2.1:Nat),.int .i64 s.2.2.k,.string s.2.2.x,.int .i64 s.2.2.z,.slice s.2.2.a s.2.2.m s.2.2.p],undef,undef,undef,undef,undef,undef,undef,undef],defers:=[] })
  (KP q #[.int .i64 K,.string X,.int .i64 Z,.slice At mt ct] A c w 0) (λ_ _=>False) (λs a₁ W r r' h hl=>by obtain⟨bx,h0,h1,h2,h3,h4⟩:=h;exact⟨bx,h0,KP.F2 (by have:=cE.o;omega) W r r' h1 hl,h2,h3.same (Lo hl bx ⟨_,_,h3⟩),h4⟩) (λs=>KP.F2 (by have:=cE.o;omega)) (KP.F2 (by have:=cE.o;omega)) (λ_ _ _ _ h _=>h) ?assign ?body ?iter ?done ?stop
 case assign =>
  intro r s W hj hl;have HJ:=EP hj;have HL:=EP hl;clear hj hl;gi_wp2;obtain⟨hj,hq⟩:=HJ.o;have ez:=cE.o;have cZ:=HL.o.lt;have cJ:Below W.heap.size W (W.alloc (.cells #[.int .i64 (s.2.1:Nat),.int .i64 s.2.2.k,.string s.2.2.x,.int .i64 s.2.2.z,.slice s.2.2.a s.2.2.m s.2.2.p] 39)):=(Cc _ W).alloc (BU _) _;have hC:b_ (λ_=>False) w W:=by obtain⟨_,_,_,_,_,h6⟩:=hj;exact h6
  exact⟨HL.o.below cJ,W.heap.size,by omega,hj.al (λg hg=>cJ.block g (by omega)) (hC.below cJ),hq,BZ W _,rfl⟩
 case iter =>
  intro rec W1 av aH cR hY;refine(zpZ Fence.wide (10-1) trivial rfl (by omega) (w2.heap.size+1) (w.heap.size+4) q A c (λk W=>KP q #[.int .i64 K,.string X,.int .i64 Z,.slice At mt ct] A c w k W/\i_ (rec .ready none) (w2.heap.size+1) w2.heap.size W) (by omega)
   (λk W h=>by obtain⟨⟨_,_,_,_,h5,_⟩,_⟩:=h;exact h5.cell 0) (λk W h=>HC.o k W h.1) (λk p W h hq=>?_) W1 ⟨H0.o.al (λg hg=>av.block g (by have:=cE.o;omega)) (by obtain⟨_,_,_,_,_,h6⟩:=H0.o;exact h6.below av),cR⟩).mono ?_
  ·refine(hY (k,p) W ⟨h.1,hq⟩ h.2).mono ?_
   intro e W' hs;rcases hs with⟨h1,h2,h3⟩|⟨_,_,h2,_⟩
   ·exact⟨h1,h2,h3⟩
   ·exact h2.elim
  ·rintro e W' ⟨hv,hj,hl⟩
   exact⟨hv,.inl ⟨hj,hl⟩⟩
 case stop=>intro c W h;exact h.elim
 case body =>
  rintro rl ⟨k,p⟩ a₁ W ⟨bx,dA,hj,hq,jM,rfl⟩ hl;have kH:=hj;obtain⟨h1,h2,h3,h4,h5,h6⟩:=hj;have wA:=HQ6.o p (CG hq);have hW5:w.heap.size+5<=W.heap.size:=h5.lt;have hlen:(q.drop (k+1)).length<100000000000000:=by rw[Dk];omega
  have il:q.drop k=p::q.drop (k+1):=by
   obtain⟨hk,e⟩:=Cj.1 hq;rw[DL hk,e]
  obtain⟨w5,aC,fA,wL⟩:=h3.store hlen p.1 wA p.2;have x4:W.cell? ⟨w.heap.size+1+1+1,0,none⟩=some (.map (some (w.heap.size+1+1))):=h4.cell 0;have z0:=jM.cell 0;have z1:=jM.cell 1;have z2:=jM.cell 2;have z3:=jM.cell 3;have z4:=jM.cell 4;obtain⟨pn,⟨pk,px,pz,pa,pm,pp⟩⟩:=p;have aM:∀g,g≠w.heap.size+2->g<W.heap.size->w5.heap[g]?=W.heap[g]?:=λg hg hl=>wL.block g hl (λe=>hg (by have:=Dz e;omega));have eI:=wL.size;have aR:Hid (KP q #[.int .i64 K,.string X,.int .i64 Z,.slice At mt ct] A c w k w5/\i_ rl (w2.heap.size+1) w2.heap.size w5):=EP (by
   have ez:=cE.o;have cZ:=hl.lt;refine⟨⟨h1.same (aM _ (by omega) (by omega)),h2.same (aM _ (by omega) (by omega)),by rw[il];exact fA,h4.same (aM _ (by omega) (by omega)),h5.same (aM _ (by omega) (by omega)),h6.grown wL (λg hg=>.inl (by have:=Dz hg;omega))⟩,?_,?_⟩
   ·exact(aM _ (by omega) cZ.1).trans hl.1
   ·exact(aM _ (by omega) cZ.2).trans hl.2)
  unfold TV.val at aC;clear h1 h2 h3 h4 h5 h6 kH fA wL aM il hl;gi_wp2;exact aR.o
 case done =>
  intro W hj hD;have HJ:=EP hj;have HD:=EP hD;clear hj hD;obtain⟨h1,h2,h3,h4,h5,h6⟩:=HJ.o;have hW5:w.heap.size+5<=W.heap.size:=h5.lt;have x0:W.cell? ⟨w.heap.size,0,none⟩=some (.int .i64 K):=h1.cell 0;have x1:W.cell? ⟨w.heap.size,1,none⟩=some (.string X):=h1.cell 1;have x2:W.cell? ⟨w.heap.size,2,none⟩=some (.int .i64 Z):=h1.cell 2;have x3:W.cell? ⟨w.heap.size,3,none⟩=some (.slice At mt ct):=h1.cell 3;have W9:∀g,g<w.heap.size->W.heap[g]?=w.heap[g]?:=λg hg=>h6.block g hg (λh=>h);have Xr:Below w.heap.size w W:=h6.toBelow (BU _) (λ_ _ h=>h);rw[DR]at h3
  have hTJ:TJ S (w.heap.size+1+1+1) (w.heap.size+1+1) r W:=⟨h4,⟨q,h3,Gs.al (λ_ h=>h) (λg hg=>W9 g (HS.o g hg)) _ _ Bb.o⟩,λg hg=>by have:=HS.o g hg;omega⟩;have iV:∀t u,JG r t=some u->Nm u/\u.size<=1000000000000:=λt' u h=>by
   cases t' with
   |mt n=>exact znX HR.o h
   |_=>cases h
  have el:∀args w,(callFunc 58 args).run prog w=.ok (.enter 58 args) w:=enters_of func58 (by kernel_rfl) rfl;have HP:=EP (zor 58 #[.pointer (some ⟨w.heap.size+1+1+1,0,none⟩)] _ _ S (JG r) (TJ.kept S (w.heap.size+1+1+1) (w.heap.size+1+1) r) el (zpY S _ _ r) iV t St _ W hTJ (λg hg=>by have:=HS.o g hg;omega) (HV.o.al (λ_ h=>h) (λg hg=>W9 g (dv.o g hg))) (λg hg=>by have:=dv.o g hg;omega) bQ.o aA ma.o (HT.o.below Xr));have Uk:Hid (ar W (w.heap.size+1) 37 #[.int .i64 0,.string ⟨#[]⟩,.int .i64 0,.slice none 0 0]):=EP h2;have gV:=EP Xr;unfold FL at HP;clear h1 h2 h3 h4 h5 h6 W9 Xr hTJ iV el;gi_wp2;refine⟨trivial,?_⟩;refine((callsIn_wide (n:=_)).2 HP.o).mono ?_;rintro e w5 ⟨k5,y5,s5,a5,m5,p5,rfl,cW,aQ⟩;obtain⟨z0,z1,z2,z3,f0,f1,f2,f3,fl⟩:=n_ (ar.below Uk.o aQ Uk.o.lt);have ei:=EP cW;have lC:=EP aQ;have ZR:=EP (ar.below Uk.o aQ Uk.o.lt);have HD5:Hid (w5.heap[w2.heap.size]?=W.heap[w2.heap.size]?):=EP (aQ.block _ (BV.1 HD.o).1);clear cW aQ HP x0 x1 x2 x3;gi_wp2;obtain⟨V,hV⟩:∃V,((((w5.setCell ⟨w.heap.size+1,0,none⟩ (.int .i64 k5)).setCell ⟨w.heap.size+1,1,none⟩ (.string y5)).setCell ⟨w.heap.size+1,2,none⟩ (.int .i64 s5)).setCell ⟨w.heap.size+1,3,none⟩ (.slice a5 m5 p5))=V:=⟨_,rfl⟩;have hVb:ar V (w.heap.size+1) 37 #[.int .i64 k5,.string y5,.int .i64 s5,.slice a5 m5 p5]:=hV▸Fh _ _ _ _ ZR.o;have hVk:∀g,g≠w.heap.size+1->V.heap[g]?=w5.heap[g]?:=λg hg=>hV▸G3 _ _ _ _ _ _ _ hg;have hVs:V.heap.size=w5.heap.size:=by rw[<-hV];simp
  have z8:Below w.heap.size w V:=hV▸GH (gV.o.trans (lC.o.mono gV.o.size)) _ _ _ _ (by omega);rw[hV];have ez:=cE.o;have eI:=lC.o.size;have hDV:V.heap[w2.heap.size]?=some (.deferred (some [])):=(hVk _ (by omega)).trans (HD5.o.trans HD.o);clear hV;refine⟨by simp,.inl ⟨_,_,rfl,run_takeDeferred hDV,?_⟩⟩;have hPk:∀g,g≠w2.heap.size->(V.putObj w2.heap.size (.deferred none)).heap[g]?=V.heap[g]?:=λg hg=>CC hg;refine⟨_,CW rfl _ _ (w.heap.size+1) 37 _ (0,0) _ rfl ((hPk _ (by omega)).trans hVb) underlying37 rfl (by kernel_rfl),k5,y5,s5,a5,m5,p5,rfl,?_,?_⟩
  ·have hWl:w2.heap.size<W.heap.size:=(BV.1 HD.o).1
   refine ei.o.al (λg hg=>?_) (λg hg=>?_)
   ·rcases hg with h|⟨h,h'⟩
    ·exact .inl h
    ·exact .inr ⟨by omega,by rw[Dq,hVs];exact h'⟩
   ·have ai:g≠w2.heap.size/\g≠w.heap.size+1:=by
     rcases hg with h|⟨h,-⟩
     ·have:=HS.o g h;omega
     ·omega
    exact(hPk g ai.1).trans (hVk g ai.2)
  ·exact⟨z8.os,z8.tape,z8.output,by rw[Dq];exact z8.size,λg hg=>(CC (by omega)).trans (z8.block g hg)⟩
end
end Go.Proofs.YtfafilmklhnngaaGreatDoor
