import Derived.Test.YtfafilmklhnngaaGreatDoorBsU
import Derived.Test.YtfafilmklhnngaaGreatDoorBsJ
import Derived.Test.YtfafilmklhnngaaGreatDoorBsAH
import Derived.Test.YtfafilmklhnngaaGreatDoorBsAJ
import Derived.Test.YtfafilmklhnngaaGreatDoorBsAK
import Derived.Test.YtfafilmklhnngaaGreatDoorBsAS
import Derived.Test.YtfafilmklhnngaaGreatDoorBsAL
import Derived.Test.YtfafilmklhnngaaGreatDoorBsAT
import Derived.Test.YtfafilmklhnngaaGreatDoorBsO
import Derived.Test.YtfafilmklhnngaaGreatDoorBsAE
import Derived.Test.YtfafilmklhnngaaGreatDoorBsAC
set_option maxHeartbeats 12800000
set_option maxRecDepth 100000
namespace Go.Proofs.YtfafilmklhnngaaGreatDoor
open Tryz
section
open Go.RowKit Lx Tx Go.Maps Go.WideMaps Go.Shelf
set_option maxRecDepth 100000
theorem zqW(t:Ty)(S:Nat->Prop)(v:Value)(w:World)(aA:t.size<=1000000)(hv:nc S w t v)(hS:∀g,S g->g<w.heap.size):Calls prog 23 #[v] w λe w'=>e=.returned (.bool t.r_)/\Below w.heap.size w w' :=
 Vo t S v w (by omega) hv hS
end
end Go.Proofs.YtfafilmklhnngaaGreatDoor
namespace Go.Proofs.YtfafilmklhnngaaGreatDoor.Tx
open Go.Proofs.Tryz
open Lx
theorem SC(s:Sb):B_ s .mt:=λn=>Ge s n
theorem zko {s k:Sb} {m:Nat} {t:Dt}(h:B_ s k)(hm:s m=Tx.ap s t):B_ s (GI m t k):=by
 intro n;unfold GI;rw[Qn,Si _ s (k n) (λj _=>?_)]
 ·exact h n
 ·by_cases hj:j=m
  ·rw[hj,KG];exact hm.symm
  ·rw[KH m t j hj,Ge]
theorem znR {s:Sb} {x y:Dt}(h:act x y=.FA):ap s x≠ap s y:=by
 intro bp;cases x <;> cases y;case mt.mt=>simp only[act]at h;split at h <;> first|(cases h;done)|(split at h <;> cases h)
 case fv.fv=>simp only[act]at h;rw[JK,JK]at bp;injection bp with bp;rw[Ch bp]at h;cases h
 case bv.bv=>simp only[act]at h;rw[JX,JX]at bp;injection bp with bp;rw[Ch bp]at h;cases h
 case h_.h_ =>
  simp only[act]at h;rw[Jj,Jj,KL,KL]at bp;injection bp with h1 h2;rw[Ch ⟨h1,by have:=Cp List.length h2;simpa using this⟩]at h
  cases h
 all_goals first|(simp only[act,reduceCtorEq]at h;done)|(simp only[JK,JX,Jj,JJ,Iw,reduceCtorEq]at bp;done)
theorem S9(θ:Sb)(hθ:∀n,Plain (θ n))(f:Nat):∀(E:List (Dt × Dt))(k:Sb)(o:Nat ⊕ Sb),Fc f E k=some o->GX k->B_ θ k->(∀p∈E,ap θ p.1=ap θ p.2)->∃k',o=.inr k'/\B_ θ k':=by
 induction f with
 |zero=>intro E k o h;rw[Fc]at h;cases h
 |succ f ih =>
  intro E k o h hk ha hE;cases E with
  |nil =>
   rw[Fc]at h;injection h with h;exact⟨k,h.symm,ha⟩
  |cons p r =>
   obtain⟨a,b⟩:=p;have bp:ap θ (ap k a)=ap θ (ap k b):=by rw[ha.ap,ha.ap];exact hE (a,b) Cs
   have hr:∀p∈r,ap θ p.1=ap θ p.2:=λp hp=>hE p (Cf _ hp);rw[Fc]at h
   cases hq:act (ap k a) (ap k b) with
   |skip=>rw[hq]at h;exact ih r k o h hk ha hr
   |FA =>
    exact absurd bp (znR hq)
   |push l =>
    rw[hq]at h;refine ih (l++r) k o h hk ha λp hp=>?_;rcases Cr.1 hp with hp|hp
    ·exact(zkX hq).2 bp p hp
    ·exact hr p hp
   |Fs m t =>
    rw[hq]at h;simp only at h;obtain⟨e1,e2,_,_⟩:=OF hk hq;obtain⟨hs,ai⟩:=OH hq;have hm:θ m=ap θ t/\t≠.mt m:=by
     rcases hs with⟨g1,g2⟩|⟨g1,g2⟩
     ·rw[g1,Ge,<-g2]at bp;exact⟨bp,λe=>ai (by rw[g1,<-g2,e])⟩
     ·rw[g1,Ge,<-g2]at bp;exact⟨bp.symm,λe=>ai (by rw[g1,<-g2,e])⟩
    have hb:bad m t=0:=by
     rw[Ot];refine⟨λho=>?_,?_⟩
     ·have:=(znN θ m t ho).2 hm.2;rw[hm.1]at this;exact Nat.lt_irrefl _ this
     ·have:=hθ m;rw[hm.1,Ou]at this;exact this.1
    rw[Ch hb]at h;exact ih r (GI m t k) o h (PV hk e2 ((Ot m t).1 hb).1) (zko ha hm.1) hr
end Go.Proofs.YtfafilmklhnngaaGreatDoor.Tx
namespace Go.Proofs.YtfafilmklhnngaaGreatDoor
open Tryz
section
open Go.RowKit Go.Shelf Lx Tx
attribute [local go_sem] Oper.semAt_some
theorem zpZ(F:Fence)(n:Nat)(hF:F.fn 99)(jo:F.round=none)(hn:1<=n)(l bx:Nat)(ids:List (Nat × TV))(A:Option Addr)(c:Nat)(J:Nat->World->Prop)(hm:ids.length<=100000000000000)
  (hb:∀k W,J k W->W.cell? ⟨bx,0,none⟩=some (.slice A ids.length c))
  (hc:∀k W,J k W->∀(j:Nat)(q:Nat × TV),ids[j]?=some q->∃g,A=some ⟨g,0,none⟩/\W.cell? ⟨g,j*5,none⟩=some (.int .i64 (q.1:Nat))/\W.cell? ⟨g,j*5+1,none⟩=some (.int .i64 q.2.k)/\W.cell? ⟨g,j*5+2,none⟩=some (.string q.2.x)/\W.cell? ⟨g,j*5+3,none⟩=some (.int .i64 q.2.z)/\W.cell? ⟨g,j*5+4,none⟩=some (.slice q.2.a q.2.m q.2.p))
  (hY:∀(k:Nat)(q:Nat × TV)(W:World),J (k+1) W->ids[k]?=some q->YieldAt F (n-1) prog l #[.int .i64 (k:Nat),.agg #[.int .i64 (q.1:Nat),.int .i64 q.2.k,.string q.2.x,.int .i64 q.2.z,.slice q.2.a q.2.m q.2.p]] W λe W'=>e=.returned (.bool true)/\J k W')
  (W:World)(h0:J ids.length W):CallsIn F n prog 99 #[.func (.yield l) #[] #[],.pointer (some ⟨bx,0,none⟩)] W λe W'=>(∃v,e=.returned v)/\J 0 W':=by
 obtain⟨m,dU⟩:∃m,ids.length=m:=⟨_,rfl⟩;have aB:=hb _ _ h0;rw[dU]at aB h0 hm;have jg:=EP dU;have HB:=EP hb;have HC:=EP hc;have HY:=EP hY;have HJ:=EP h0;clear hb hc hY h0 dU;refine callsIn_of_wp func99 rfl hF ?_ jo;simp only[ntmps99,CY,Ca,CR,Nat.reduceAdd,Nat.reduceSub,Df,De,Dl,Dh,Cu,Co];gi_wp2;gi_loopw [3] (λi wr=>∃(k:Nat) (z:Int),z=(k:Int)-1/\i=.int .i64 z/\k<=m/\Hid (J k wr)) (λi _=>(intOf i+1).toNat)
 case atStart=>exact⟨m,(m:Int)-1,rfl,rfl,BU _,HJ⟩
 case round =>
  obtain⟨k,z,hz,rfl,hk,hj⟩:=hrel;clear HJ aB;cases k with
  |zero =>
   obtain rfl:z = -1:=by omega
   have Bw:=hj;clear hz hj;gi_wp2;go_end0
   exact⟨⟨_,rfl⟩,Bw.o⟩
  |succ k =>
   obtain rfl:z=(k:Int):=by omega
   obtain⟨q,hq⟩:∃q,ids[k]?=some q:=⟨_,BY (by rw[jg.o];omega)⟩;obtain⟨g,rfl,eL,bj,cH,kQ,Xp⟩:=HC.o _ _ hj.o k q hq;have cI:=HB.o _ _ hj.o;rw[jg.o]at cI;obtain⟨fn,tmps,assign,body,hy,hR⟩:=HY.o k q wr hj.o hq;have HR:=EP hR;have cG:k<m:=by omega
   clear hz hj hq hR;gi_wp2;refine HR.o.mono ?_;rintro e W3 ⟨rfl,sY⟩;have Bv:=EP sY;clear sY;gi_wp2;go_roundw
   case rel=>exact⟨k,(k:Int)-1,rfl,rfl,by omega,Bv⟩
   case measure=>simp[intOf]
theorem zp0(F:Fence)(n:Nat)(hF:F.fn 56)(jo:F.round=none)(a:Option Addr)(len cap:Nat)(w:World):CallsIn F n prog 56 #[.slice a len cap] w λe w'=>e=.returned (.func (.func 99) #[] #[.pointer (some ⟨w.heap.size,0,none⟩)])/\w'=w.alloc (.cells #[.slice a len cap] 28):=by
 have iZ:∀(fn:Fn) (first cap:Array Value) (w:World),(Instr.makeFunc fn first cap).run prog w=.ok (.func fn first cap) w:=λ_ _ _ _=>rfl;refine callsIn_of_wp func56 rfl hF ?_ jo;simp only[ntmps56,CY,Ca,CR,Nat.reduceAdd,Nat.reduceSub,Df,De,Dl,Dh,Cu,Co];gi_wp2
 go_ret
 exact⟨rfl,rfl⟩
end
section
open Go.RowKit Go.Shelf Lx Tx Go.Maps Go.WideMaps
attribute [local go_sem] Oper.semAt_some
def Hz(S:Nat->Prop)(w:World)(r:List (Nat × Ty))(A:Option Addr):Prop :=
 ∀(i n:Nat) (t:Ty),r[i]?=some (n,t)->∃g At ct,A=some ⟨g,0,none⟩/\g<w.heap.size/\j_ S w t At /\
  w.cell? ⟨g,i*5,none⟩=some (.int .i64 (n:Nat))/\w.cell? ⟨g,i*5+1,none⟩=some (.int .i64 (kd t:Nat))/\w.cell? ⟨g,i*5+2,none⟩=some (.string (ER t))/\w.cell? ⟨g,i*5+3,none⟩=some (.int .i64 (nn t:Nat))/\w.cell? ⟨g,i*5+4,none⟩=some (.slice At (kids t).length ct)
theorem Ij.Wy {S:Nat->Prop} {B:Nat} {w:World} {l:List (Nat × Ty)} {A:Option Addr} {m c:Nat}(h:Ij S B w l (.slice A m c)):Hz S w l A:=λi n t hi=>by
 obtain⟨g,At,ct,e,-,hg,ha,c0,c1,c2,c3,c4⟩:=h.cells.2 i n t hi;exact⟨g,At,ct,e,hg,ha,c0,c1,c2,c3,c4⟩
theorem zk0 {S:Nat->Prop} {w:World} :(r:List (Nat × Ty))->(q:List (Nat × TV))->r.length=q.length->(∀(i n:Nat)(t:Ty)(p:Nat × TV),r[i]?=some (n,t)->q[i]?=some p->n=p.1/\nc S w t p.2.val)->Gs S w r q
 |[],[],_,_=>trivial
 |(x,t)::r,(y,v)::q,hl,h=>by
  rw[Gs];obtain⟨h1,h2⟩:=h 0 x t (y,v) rfl rfl;exact⟨h1,h2,zk0 r q (by simpa using hl) λi n t p h1 h2=>h (i+1) n t p h1 h2⟩
 |[],_::_,hl,_=>by simp at hl
 |_::_,[],hl,_=>by simp at hl
theorem Gs.mem {S:Nat->Prop} {w:World} :(r:List (Nat × Ty))->(q:List (Nat × TV))->Gs S w r q->∀p∈q,∃e∈r,e.1=p.1
 |[],[],_,p,h=>by cases h
 |(x,t)::r,(y,v)::q,h,p,hp=>by
  rw[Gs]at h;rcases Cd.1 hp with e|e
  ·exact⟨(x,t),by simp,by rw[e];exact h.1⟩
  ·obtain⟨e',h1,h2⟩:=Gs.mem r q h.2.2 p e;exact⟨e',Cf _ h1,h2⟩
 |[],_::_,h,_,_=>h.elim
 |_::_,[],h,_,_=>h.elim
def US(w:World)(p:Nat × TV)(g j:Nat):Prop :=
 w.cell? ⟨g,j*5,none⟩=some (.int .i64 (p.1:Nat))/\w.cell? ⟨g,j*5+1,none⟩=some (.int .i64 p.2.k)/\w.cell? ⟨g,j*5+2,none⟩=some (.string p.2.x)/\w.cell? ⟨g,j*5+3,none⟩=some (.int .i64 p.2.z)/\w.cell? ⟨g,j*5+4,none⟩=some (.slice p.2.a p.2.m p.2.p)
theorem Hz.tv {S:Nat->Prop} {w:World} {r:List (Nat × Ty)} {A:Option Addr}(h:Hz S w r A):∃q:List (Nat × TV),q.length=r.length/\Gs S w r q/\∀(j:Nat)(p:Nat × TV),q[j]?=some p->∃g,A=some ⟨g,0,none⟩/\g<w.heap.size/\US w p g j:=by
 have h1:∀i,∃p:Nat × TV,∀(n:Nat) (t:Ty),r[i]?=some (n,t)->n=p.1/\nc S w t p.2.val/\∃g,A=some ⟨g,0,none⟩/\g<w.heap.size/\US w p g i:=λi=>by
  cases hr:r[i]? with
  |none=>exact⟨(0,TV.zero),λn t h=>by cases h⟩
  |some e =>
   obtain⟨n,t⟩:=e;obtain⟨g,At,ct,e,hg,ha,c0,c1,c2,c3,c4⟩:=h i n t hr;refine⟨(n,⟨(kd t:Nat),ER t,(nn t:Nat),At,(kids t).length,ct⟩),λn' t' h=>?_⟩;injection h with h;injection h with h2 h3;subst h2 h3;exact⟨rfl,⟨At,ct,rfl,ha⟩,g,e,hg,c0,c1,c2,c3,c4⟩
 let f:Nat->Nat × TV:=λi=>(h1 i).choose
 have hf:∀i n t,r[i]?=some (n,t)->n=(f i).1/\nc S w t (f i).2.val/\∃g,A=some ⟨g,0,none⟩/\g<w.heap.size/\US w (f i) g i:=λi=>(h1 i).choose_spec;have hq:∀(j:Nat) (p:Nat × TV),((List.range r.length).map f)[j]?=some p->j<r.length/\p=f j:=λj p hj=>by
  have hl:=(Cj.1 hj).1;rw[CE,List.length_range]at hl;rw[CT,List.getElem?_range hl]at hj;injection hj with hj;exact⟨hl,hj.symm⟩
 refine⟨(List.range r.length).map f,by simp,zk0 _ _ (by simp) λi n t p hr hp=>?_,λj p hj=>?_⟩
 ·obtain⟨-,rfl⟩:=hq i p hp;obtain⟨a,b,-⟩:=hf i n t hr;exact⟨a,b⟩
 ·obtain⟨hl,rfl⟩:=hq j p hj;obtain⟨n,t⟩:Nat × Ty:=r[j];obtain⟨⟨n,t⟩,hr⟩:∃e,r[j]?=some e:=⟨_,BY hl⟩;exact(hf j n t hr).2.2
theorem Ia.laid {w:World} {b:Nat}(h:w.heap[b]?=some (.map #[] 0)):Ia w b []:=⟨0,BU _,JB h⟩
theorem Ia.store {w:World} {b:Nat} {r:List (Nat × TV)}(h:Ia w b r)(hn:r.length<100000000000000)(X:Nat)(hX:X<=999999)(v:TV):∃w',(Instr.mapUpdate 109 (.map (some b)) (.int .i64 X) v.val).run prog w=.ok () w'/\Ia w' b ((X,v)::r)/\w.grownBy w' (some b):=by
 obtain⟨n,fh,h⟩:=h;obtain⟨w',h1,h2,h3⟩:=h.update Is underlying109 (by unfold maxLen;omega) (Kd X hX) (zf2 v);exact⟨w',h1,⟨_,ziy ((X,v)::r),zrH (D:=Jr ((X,v)::r)) h2⟩,h3⟩
def KP(q:List (Nat × TV))(tv:Array Value)(A:Option Addr)(c:Nat)(w:World)(k:Nat)(W:World):Prop :=
 ar W w.heap.size 37 tv/\ar W (w.heap.size+1) 37 #[.int .i64 0,.string ⟨#[]⟩,.int .i64 0,.slice none 0 0]/\Ia W (w.heap.size+2) (q.drop k)/\ar W (w.heap.size+3) 109 #[.map (some (w.heap.size+2))] /\
  ar W (w.heap.size+4) 28 #[.slice A q.length c]/\b_ (λ_=>False) w W
theorem KP.al {q:List (Nat × TV)} {tv:Array Value} {A:Option Addr} {c:Nat} {w:World} {k:Nat} {W W':World}(h:KP q tv A c w k W)(hk:∀g,g<w.heap.size+5->W'.heap[g]?=W.heap[g]?)(hC:b_ (λ_=>False) w W'):KP q tv A c w k W':=by
 obtain⟨h1,h2,h3,h4,h5,-⟩:=h;exact⟨h1.same (hk _ (by omega)),h2.same (hk _ (by omega)),h3.al (hk _ (by omega)),h4.same (hk _ (by omega)),h5.same (hk _ (by omega)),hC⟩
theorem KP.F2 {q:List (Nat × TV)} {tv:Array Value} {A:Option Addr} {c:Nat} {w:World} {k lp:Nat}(mM:w.heap.size+5<=lp):Ip lp (KP q tv A c w k):=λW r r' h hl =>
 h.al (λg hg=>CC (by omega)) (by obtain⟨_,_,_,_,_,h6⟩:=h;exact h6.putObj _ _ (by omega))
attribute [local go_sem] Oper.semAt_some
def RF(S:Nat->Prop)(t:Ty)(w:World)(e:Ending)(w':World):Prop :=
 ∃k x z a m q,e=.returned (.agg #[.int .i64 k,.string x,.int .i64 z,.slice a m q])/\nc (λg=>S g\/(w.heap.size<=g/\g<w'.heap.size)) w' t (.agg #[.int .i64 k,.string x,.int .i64 z,.slice a m q])/\Below w.heap.size w w'
theorem znX {r:List (Nat × Ty)}(h:∀e∈r,e.1<=999999/\Nm e.2/\e.2.size<=1000000000000) {n:Nat} {u:Ty}(hu:Iv n r=some u):Nm u/\u.size<=1000000000000:=by
 induction r with
 |nil=>cases hu
 |cons p r ih =>
  rw[Iv]at hu;split at hu
  ·injection hu with hu
   have:=h p (by simp);rw[<-hu];exact this.2
  ·exact ih (λe he=>h e (by simp[he])) hu
theorem znY(S St:Nat->Prop)(r:List (Nat × Ty))(A:Option Addr)(c:Nat)(t:Ty)(v:Value)(w:World)(hk:Hz S w r A)(hS:∀g,S g->g<w.heap.size)(hv:nc St w t v)(TO:∀g,St g->g<w.heap.size)(hr:∀e∈r,e.1<=999999/\Nm e.2/\e.2.size<=1000000000000)(hl:r.length<=1000000000000)(aw:Nm t)(aA:t.size<=1000000000000)(br:t.r_=true->t.size<=1000000/\(p_ (JG r) t).length<=90000000)(ht:FO w):Calls prog 20 #[.slice A r.length c,v] w (RF S (J8 (JG r) t) w):=by
 obtain⟨K,X,Z,At,mt,ct,rfl,-,-,-,-,-⟩:=hv.parts;obtain⟨q,iU,hrel,gh⟩:=hk.tv;rw[<-iU]at hl ⊢;have dU:∀w,(Instr.makeMap 109 none).run prog w=.ok (.map (some w.heap.size)) (w.alloc (.map #[] 0)):=λ_=>rfl;have iZ:∀(fn:Fn) (first cap:Array Value) (w:World),(Instr.makeFunc fn first cap).run prog w=.ok (.func fn first cap) w:=λ_ _ _ _=>rfl;have Bb:=EP hrel;have BH:=EP gh;have HS:=EP hS;have HV:=EP hv;have dv:=EP TO;have HR:=EP hr;have bQ:=EP aw;have ma:=EP br;have HT:=EP ht;clear hrel gh hS hv TO hr aw br ht hk iU;refine(callsIn_wide (n:=10)).1 ?_;refine callsIn_of_wp_marks func20 rfl trivial ?_ rfl;simp only[ntmps20,CY,Ca,CR,Nat.reduceAdd,Nat.reduceSub,Df,De,Dl,Dh,Cu,Co];gi_wp2
 refine⟨trivial,?_⟩;refine(zp0 Fence.wide _ trivial rfl _ _ _ _).mono ?_;rintro e w' ⟨rfl,rfl⟩;gi_wp2;obtain⟨l0,l1,l2,l3,ls,lb⟩:=MS w (.cells #[.int .i64 K,.string X,.int .i64 Z,.slice At mt ct] 37) (.cells #[.int .i64 0,.string ⟨#[]⟩,.int .i64 0,.slice none 0 0] 37) (.map #[] 0) (.cells #[.map (some (w.heap.size+1+1))] 109);obtain⟨W4,jB⟩:∃W,(((w.alloc (.cells #[.int .i64 K,.string X,.int .i64 Z,.slice At mt ct] 37)).alloc (.cells #[.int .i64 0,.string ⟨#[]⟩,.int .i64 0,.slice none 0 0] 37)).alloc (.map #[] 0)).alloc (.cells #[.map (some (w.heap.size+1+1))] 109)=W:=⟨_,rfl⟩;rw[jB]at l0 l1 l2 l3 ls lb ⊢;obtain⟨w2,dw⟩:∃W,W4.alloc (.cells #[.slice A q.length c] 28)=W:=⟨_,rfl⟩;have aZ:w2.heap.size=w.heap.size+5:=by rw[<-dw,size_alloc,ls]
 have bZ:∀g,g<w.heap.size+4->w2.heap[g]?=W4.heap[g]?:=λg hg=>by rw[<-dw];exact BX _ _ _ (by omega)
 have aV:Below w.heap.size w w2:=by rw[<-dw];exact lb.alloc lb.size _
 have h0:KP q #[.int .i64 K,.string X,.int .i64 Z,.slice At mt ct] A c w q.length w2:=by
  refine⟨(bZ _ (by omega)).trans l0,(bZ _ (by omega)).trans l1,?_,(bZ _ (by omega)).trans l3,?_,b_.c_ aV⟩
  ·rw[List.drop_length];exact Ia.laid ((bZ _ (by omega)).trans l2)
  ·have:=BZ W4 (.cells #[.slice A q.length c] 28);rw[dw,ls]at this;exact this
 rw[dw];have cE:=EP aZ;have H0:=EP h0;have dN:∀k W,KP q #[.int .i64 K,.string X,.int .i64 Z,.slice At mt ct] A c w k W->∀(j:Nat) (p:Nat × TV),q[j]?=some p->∃g,A=some ⟨g,0,none⟩/\W.cell? ⟨g,j*5,none⟩=some (.int .i64 (p.1:Nat))/\W.cell? ⟨g,j*5+1,none⟩=some (.int .i64 p.2.k)/\W.cell? ⟨g,j*5+2,none⟩=some (.string p.2.x)/\W.cell? ⟨g,j*5+3,none⟩=some (.int .i64 p.2.z)/\W.cell? ⟨g,j*5+4,none⟩=some (.slice p.2.a p.2.m p.2.p):=λk W h j p hp=>by
  obtain⟨_,_,_,_,_,hc⟩:=h;obtain⟨g,e,hg,d0,d1,d2,d3,d4⟩:=BH.o j p hp;have hx:∀i u,w.cell? ⟨g,i,none⟩=some u->W.cell? ⟨g,i,none⟩=some u:=λi u h=>(Ck (w:=w) (a:=⟨g,i,none⟩) (hc.block g hg (λh=>h))).trans h;exact⟨g,e,hx _ _ d0,hx _ _ d1,hx _ _ d2,hx _ _ d3,hx _ _ d4⟩
 have HC:=EP dN;have HQ6:Hid (∀p∈q,p.1<=999999):=EP λp hp=>by
  obtain⟨e,h1,h2⟩:=Gs.mem r q Bb.o p hp;rw[<-h2];exact(HR.o e h1).1
 clear l0 l1 l2 l3 ls lb jB dw aZ bZ aV h0 dN;refine P5 (σ:=Nat ×(Nat × TV)) rfl (by omega) (gf:=99) (fb:=#[]) (lb:=#[.pointer (some ⟨w.heap.size+4,0,none⟩)]) rfl trivial (enters_of func99 (by kernel_rfl) rfl)
  (λs=>#[.int .i64 (s.1:Nat),.agg #[.int .i64 (s.2.1:Nat),.int .i64 s.2.2.k,.string s.2.2.x,.int .i64 s.2.2.z,.slice s.2.2.a s.2.2.m s.2.2.p]]) (λ_=>rfl)
  (λs W=>KP q #[.int .i64 K,.string X,.int .i64 Z,.slice At mt ct] A c w (s.1+1) W/\q[s.1]?=some s.2) (λs W=>KP q #[.int .i64 K,.string X,.int .i64 Z,.slice At mt ct] A c w s.1 W)
  (λs a₁ W=>∃bx,w.heap.size+7<=bx/\KP q #[.int .i64 K,.string X,.int .i64 Z,.slice At mt ct] A c w (s.1+1) W/\q[s.1]?=some s.2/\ar W bx 39 #[.int .i64 (s.2.1:Nat),.int .i64 s.2.2.k,.string s.2.2.x,.int .i64 s.2.2.z,.slice s.2.2.a s.2.2.m s.2.2.p]/\a₁ = { tmps:=#[.slice A q.length c,.agg #[.int .i64 K,.string X,.int .i64 Z,.slice At mt ct],undef,.pointer (some ⟨w.heap.size,0,none⟩),.pointer (some ⟨w.heap.size+1,0,none⟩),.pointer (some ⟨w.heap.size+1+1+1,0,none⟩),undef,.pointer (some ⟨bx,0,none⟩),.map (some (w.heap.size+1+1)),.slice A q.length c,.func (.func 99) #[] #[.pointer (some ⟨w.heap.size+4,0,none⟩)],.int .i64 (s.1:Nat),.agg #[.int .i64 (s.2.1:Nat),.int .i64 s.2.2.k,.string s.2.2.x,.int .i64 s.2.2.z,.slice s.2.2.a s.2.2.m s.2.2.p],undef,undef,undef,undef,undef,undef,undef,undef],defers:=[] })
  (KP q #[.int .i64 K,.string X,.int .i64 Z,.slice At mt ct] A c w 0) (λ_ _=>False) (λs a₁ W r r' h hl=>by obtain⟨bx,h0,h1,h2,h3,h4⟩:=h;exact⟨bx,h0,KP.F2 (by have:=cE.o;omega) W r r' h1 hl,h2,h3.same (Lo hl bx ⟨_,_,h3⟩),h4⟩) (λs=>KP.F2 (by have:=cE.o;omega)) (KP.F2 (by have:=cE.o;omega)) (λ_ _ _ _ h _=>h) ?assign ?body ?iter ?done ?stop
 case assign =>
  intro r s W hj hl;have HJ:=EP hj;have HL:=EP hl;clear hj hl;gi_wp2;obtain⟨hj,hq⟩:=HJ.o;have ez:=cE.o;have cZ:=HL.o.lt;have cJ:Below W.heap.size W (W.alloc (.cells #[.int .i64 (s.2.1:Nat),.int .i64 s.2.2.k,.string s.2.2.x,.int .i64 s.2.2.z,.slice s.2.2.a s.2.2.m s.2.2.p] 39)):=(Cc _ W).alloc (BU _) _;have hC:b_ (λ_=>False) w W:=by obtain⟨_,_,_,_,_,h6⟩:=hj;exact h6
  exact⟨HL.o.below cJ,W.heap.size,by omega,hj.al (λg hg=>cJ.block g (by omega)) (hC.below cJ),hq,BZ W _,rfl⟩
 case iter =>
  intro rec W1 av aH cR hY;refine(zpZ Fence.wide (10-1) trivial rfl (by omega) (w2.heap.size+1) (w.heap.size+4) q A c (λk W=>KP q #[.int .i64 K,.string X,.int .i64 Z,.slice At mt ct] A c w k W/\i_ (rec .ready none) (w2.heap.size+1) w2.heap.size W) (by omega)
   (λk W h=>by obtain⟨⟨_,_,_,_,h5,_⟩,_⟩:=h;exact h5.cell 0) (λk W h=>HC.o k W h.1) (λk p W h hq=>?_) W1 ⟨H0.o.al (λg hg=>av.block g (by have:=cE.o;omega)) (by obtain⟨_,_,_,_,_,h6⟩:=H0.o;exact h6.below av),cR⟩).mono ?_
  ·refine(hY (k,p) W ⟨h.1,hq⟩ h.2).mono ?_;intro e W' hs;rcases hs with⟨h1,h2,h3⟩|⟨_,_,h2,_⟩
   ·exact⟨h1,h2,h3⟩
   ·exact h2.elim
  ·rintro e W' ⟨hv,hj,hl⟩;exact⟨hv,.inl ⟨hj,hl⟩⟩
 case stop=>intro c W h;exact h.elim
 case body =>
  rintro rl ⟨k,p⟩ a₁ W ⟨bx,dA,hj,hq,jM,rfl⟩ hl;have kH:=hj;obtain⟨h1,h2,h3,h4,h5,h6⟩:=hj;have wA:=HQ6.o p (CG hq);have hW5:w.heap.size+5<=W.heap.size:=h5.lt;have hlen:(q.drop (k+1)).length<100000000000000:=by rw[Dk];omega
  have il:q.drop k=p::q.drop (k+1):=by
   obtain⟨hk,e⟩:=Cj.1 hq;rw[DL hk,e]
  obtain⟨w5,aC,fA,wL⟩:=h3.store hlen p.1 wA p.2;have x4:W.cell? ⟨w.heap.size+1+1+1,0,none⟩=some (.map (some (w.heap.size+1+1))):=h4.cell 0;have z0:=jM.cell 0;have z1:=jM.cell 1;have z2:=jM.cell 2;have z3:=jM.cell 3;have z4:=jM.cell 4;obtain⟨pn,⟨pk,px,pz,pa,pm,pp⟩⟩:=p;have aM:∀g,g≠w.heap.size+2->g<W.heap.size->w5.heap[g]?=W.heap[g]?:=λg hg hl=>wL.block g hl (λe=>hg (by have:=Dz e;omega));have eI:=wL.size;have aR:Hid (KP q #[.int .i64 K,.string X,.int .i64 Z,.slice At mt ct] A c w k w5/\i_ rl (w2.heap.size+1) w2.heap.size w5):=EP (by
   have ez:=cE.o;have cZ:=hl.lt;refine⟨⟨h1.same (aM _ (by omega) (by omega)),h2.same (aM _ (by omega) (by omega)),by rw[il];exact fA,h4.same (aM _ (by omega) (by omega)),h5.same (aM _ (by omega) (by omega)),h6.grown wL (λg hg=>.inl (by have:=Dz hg;omega))⟩,?_,?_⟩
   ·exact(aM _ (by omega) cZ.1).trans hl.1
   ·exact(aM _ (by omega) cZ.2).trans hl.2)
  unfold TV.val at aC;clear h1 h2 h3 h4 h5 h6 kH fA wL aM il hl;gi_wp2;exact aR.o
 case done =>
  intro W hj hD;have HJ:=EP hj;have HD:=EP hD;clear hj hD;obtain⟨h1,h2,h3,h4,h5,h6⟩:=HJ.o;have hW5:w.heap.size+5<=W.heap.size:=h5.lt;have x0:W.cell? ⟨w.heap.size,0,none⟩=some (.int .i64 K):=h1.cell 0;have x1:W.cell? ⟨w.heap.size,1,none⟩=some (.string X):=h1.cell 1;have x2:W.cell? ⟨w.heap.size,2,none⟩=some (.int .i64 Z):=h1.cell 2;have x3:W.cell? ⟨w.heap.size,3,none⟩=some (.slice At mt ct):=h1.cell 3;have W9:∀g,g<w.heap.size->W.heap[g]?=w.heap[g]?:=λg hg=>h6.block g hg (λh=>h);have Xr:Below w.heap.size w W:=h6.toBelow (BU _) (λ_ _ h=>h);rw[DR]at h3
  have hTJ:TJ S (w.heap.size+1+1+1) (w.heap.size+1+1) r W:=⟨h4,⟨q,h3,Gs.al (λ_ h=>h) (λg hg=>W9 g (HS.o g hg)) _ _ Bb.o⟩,λg hg=>by have:=HS.o g hg;omega⟩;have iV:∀t u,JG r t=some u->Nm u/\u.size<=1000000000000:=λt' u h=>by
   cases t' with
   |mt n=>exact znX HR.o h
   |_=>cases h
  have el:∀args w,(callFunc 58 args).run prog w=.ok (.enter 58 args) w:=enters_of func58 (by kernel_rfl) rfl;have HP:=EP (zor 58 #[.pointer (some ⟨w.heap.size+1+1+1,0,none⟩)] _ _ S (JG r) (TJ.kept S (w.heap.size+1+1+1) (w.heap.size+1+1) r) el (zpY S _ _ r) iV t St _ W hTJ (λg hg=>by have:=HS.o g hg;omega) (HV.o.al (λ_ h=>h) (λg hg=>W9 g (dv.o g hg))) (λg hg=>by have:=dv.o g hg;omega) bQ.o aA ma.o (HT.o.below Xr));have Uk:Hid (ar W (w.heap.size+1) 37 #[.int .i64 0,.string ⟨#[]⟩,.int .i64 0,.slice none 0 0]):=EP h2;have gV:=EP Xr;unfold FL at HP;clear h1 h2 h3 h4 h5 h6 W9 Xr hTJ iV el;gi_wp2;refine⟨trivial,?_⟩;refine((callsIn_wide (n:=_)).2 HP.o).mono ?_;rintro e w5 ⟨k5,y5,s5,a5,m5,p5,rfl,cW,aQ⟩;obtain⟨z0,z1,z2,z3,f0,f1,f2,f3,fl⟩:=n_ (ar.below Uk.o aQ Uk.o.lt);have ei:=EP cW;have lC:=EP aQ;have ZR:=EP (ar.below Uk.o aQ Uk.o.lt);have HD5:Hid (w5.heap[w2.heap.size]?=W.heap[w2.heap.size]?):=EP (aQ.block _ (BV.1 HD.o).1);clear cW aQ HP x0 x1 x2 x3;gi_wp2;obtain⟨V,hV⟩:∃V,((((w5.setCell ⟨w.heap.size+1,0,none⟩ (.int .i64 k5)).setCell ⟨w.heap.size+1,1,none⟩ (.string y5)).setCell ⟨w.heap.size+1,2,none⟩ (.int .i64 s5)).setCell ⟨w.heap.size+1,3,none⟩ (.slice a5 m5 p5))=V:=⟨_,rfl⟩;have hVb:ar V (w.heap.size+1) 37 #[.int .i64 k5,.string y5,.int .i64 s5,.slice a5 m5 p5]:=hV▸Fh _ _ _ _ ZR.o;have hVk:∀g,g≠w.heap.size+1->V.heap[g]?=w5.heap[g]?:=λg hg=>hV▸G3 _ _ _ _ _ _ _ hg;have hVs:V.heap.size=w5.heap.size:=by rw[<-hV];simp
  have z8:Below w.heap.size w V:=hV▸GH (gV.o.trans (lC.o.mono gV.o.size)) _ _ _ _ (by omega);rw[hV];have ez:=cE.o;have eI:=lC.o.size;have hDV:V.heap[w2.heap.size]?=some (.deferred (some [])):=(hVk _ (by omega)).trans (HD5.o.trans HD.o);clear hV;refine⟨by simp,.inl ⟨_,_,rfl,run_takeDeferred hDV,?_⟩⟩;have hPk:∀g,g≠w2.heap.size->(V.putObj w2.heap.size (.deferred none)).heap[g]?=V.heap[g]?:=λg hg=>CC hg;refine⟨_,CW rfl _ _ (w.heap.size+1) 37 _ (0,0) _ rfl ((hPk _ (by omega)).trans hVb) underlying37 rfl (by kernel_rfl),k5,y5,s5,a5,m5,p5,rfl,?_,?_⟩
  ·have hWl:w2.heap.size<W.heap.size:=(BV.1 HD.o).1;refine ei.o.al (λg hg=>?_) (λg hg=>?_)
   ·rcases hg with h|⟨h,h'⟩
    ·exact .inl h
    ·exact .inr ⟨by omega,by rw[Dq,hVs];exact h'⟩
   ·have ai:g≠w2.heap.size/\g≠w.heap.size+1:=by
     rcases hg with h|⟨h,-⟩
     ·have:=HS.o g h;omega
     ·omega
    exact(hPk g ai.1).trans (hVk g ai.2)
  ·exact⟨z8.os,z8.tape,z8.output,by rw[Dq];exact z8.size,λg hg=>(CC (by omega)).trans (z8.block g hg)⟩
end
section
open Lx Tx
mutual
theorem Sj(env:List Name):(t:Ty)->Tx.ET (db env t)=t.r_
 |.var x=>by rw[db,Ty.r_];cases idx x env <;> simp[Tx.ET]
 |.mt n=>by rw[db,Ty.r_];simp[Tx.ET]
 |.h_ c l=>by rw[db,Ty.r_,Tx.ET,zis env l]
 |.fn a b=>by rw[db,Ty.r_,Tx.ET,Sj env a,Sj env b]
 |.all x t=>by rw[db,Ty.r_,Tx.ET]
theorem zis(env:List Name):(l:List Ty)->Tx.Hh (Fz env l)=IU l
 |[]=>by rw[Fz,IU,Tx.Hh]
 |t::r=>by rw[Fz,IU,Tx.Hh,Sj env t,zis env r]
end
theorem zkS:(l:List Dt)->Kc 0 l->∀d∈l,JI 0 d
 |[],_,d,h=>by cases h
 |t::r,h,d,hd=>by
  rw[Kc]at h;rcases Cd.1 hd with e|hd
  ·rw[e];exact h.1
  ·exact zkS r h.2 d hd
theorem znL(d:Dt):JI 0 d->Tx.ET d=false->Plain d:=by
 induction d using Dt.ind with
 |hf x=>intro _ _;exact zjN x
 |hb i=>intro h _;rw[JI]at h;omega
 |hm n=>intro _ _;exact Jk n
 |hc c l ih =>
  intro h1 h2;rw[JI]at h1;rw[Tx.ET,QU,List.any_eq_false]at h2;refine(PJ c l).2 λd hd=>ih d hd (zkS l h1 d hd) ?_;simpa using h2 d hd
 |hn a b dC dR =>
  intro h1 h2;rw[JI]at h1;rw[Tx.ET,DV]at h2;exact(plain_fn a b).2 ⟨dC h1.1 h2.1,dR h1.2 h2.2⟩
 |ha t ih=>intro _ h;rw[Tx.ET]at h;cases h
theorem zpK {t:Ty}(h:t.r_=false):Plain (db [] t):=znL _ (Pw [] t) ((Sj [] t).trans h)
end
section
open Go.RowKit Lx Tx Go.Maps Go.WideMaps Go.Shelf
set_option maxRecDepth 100000
theorem zpG {w:World} {t u:Ty} {v uv:Value}(hv:I9 w t v)(hu:I9 w u uv)(iW:Nm t)(bT:Nm u)(aA:t.size<=10000000000000)(q:Bool)(h:q=true↔db [] t=db [] u):Calls prog 22 #[v,uv] w λe w'=>e=.returned (.bool q)/\Below w.heap.size w w':=by
 have:=zjl t u _ _ v uv w hv hu (λ_ h=>h) (λ_ h=>h) iW bT aA;rw[show(t_ [] [] t u 0).1=q from DM.2 ((JA t u).trans h.symm)]at this;exact this
set_option maxRecDepth 100000
theorem VA(n:Nat):(l:List (Nat × Ty))->kf l n=match Iv n l with|some u=>db [] u|none=>.mt n
 |[]=>rfl
 |p::r=>by
  have ih:=VA n r;unfold kf at ih ⊢;rw[List.find?_cons,Iv];by_cases h:p.1=n
  ·simp[h]
  ·rw[Cg h,show(p.1==n)=false from by simpa using h];exact ih
def FM(l:List (Nat × Ty))(t:Ty):Ty:=J8 (JG l) t
theorem zre(l:List (Nat × Ty))(t:Ty)(hb:0+(t.E7+1)*((p_ (JG l) t++Gq t).length+1)<10 ^ 15):db [] (FM l t)=ap (kf l) (db [] t):=by
 unfold FM ap;rw[zot _ _ hb];have h1:Fp (JG l)=Dt.fv:=by
  funext x
  unfold Fp IW;show db [] (.var x)=.fv x;rw[db];rfl
 have h2:Gp (JG l)=kf l:=by
  funext n
  rw[VA];unfold Gp IW;show db [] ((Iv n l).getD (.mt n))=_;cases Iv n l with
  |none=>show db [] (.mt n)=.mt n;rw[db]
  |some u=>rfl
 rw[h1,h2]
theorem VL {V:Type} {n:Nat} {u:V} :(l:List (Nat × V))->Iv n l=some u->(n,u)∈l
 |[],h=>by cases h
 |p::r,h=>by
  rw[Iv]at h;split at h
  ·rename_i hp
   injection h with h;rw[<-hp,<-h]
   simp
  ·exact Cf _ (VL r h)
theorem Wc {l:List (Nat × Ty)} {t u:Ty}(h:JG l t=some u):∃n,t=.mt n/\(n,u)∈l:=by
 cases t with
 |mt n=>exact⟨n,rfl,VL l h⟩
 |_=>cases h
theorem zrf(l:List (Nat × Ty))(t:Ty)(hb:0+(t.E7+1)*((p_ (JG l) t++Gq t).length+1)<10 ^ 15)(hn:Nm t)(hl:∀e∈l,Nm e.2):Nm (FM l t) :=
 zov _ t hb hn λt' u h=>by obtain⟨n,-,h⟩:=Wc h;exact hl _ h
theorem zp1(l:List (Nat × Ty))(t:Ty)(B:Nat)(hB:1<=B)(hl:∀e∈l,e.2.size<=B):(FM l t).size<=t.size*B :=
 zmw _ t B hB λt' u h=>by obtain⟨n,-,h⟩:=Wc h;exact hl _ h
def L_(t:Ty)(w:World)(e:Ending)(w':World):Prop :=
 ∃k x z a m q,e=.returned (.agg #[.int .i64 k,.string x,.int .i64 z,.slice a m q])/\I9 w' t (.agg #[.int .i64 k,.string x,.int .i64 z,.slice a m q])/\Below w.heap.size w w'
theorem znZ {S:Nat->Prop} {l:List (Nat × Ty)} {A:Option Addr} {c:Nat} {t:Ty} {v:Value} {w:World}(hk:Hz S w l A)(hS:∀g,S g->g<w.heap.size)(hv:I9 w t v)(hr:∀e∈l,e.1<=999999/\Nm e.2/\e.2.size<=1000000000000)(hl:l.length<=1000000000000)(aw:Nm t)(aA:t.size<=1000000000000)(br:t.r_=true->t.size<=1000000/\(p_ (JG l) t).length<=90000000)(ht:FO w):Calls prog 20 #[.slice A l.length c,v] w (L_ (FM l t) w):=by
 refine(znY S _ l A c t v w hk hS hv (λ_ h=>h) hr hl aw aA br ht).mono ?_;rintro e w' ⟨k,x,z,a,m,q,rfl,h1,hb⟩;exact⟨k,x,z,a,m,q,rfl,h1.al (λg hg=>by rcases hg with h|h;exact Ci (hS g h) hb.size;exact h.2) (λ_ _=>rfl),hb⟩
theorem Hz.below {S:Nat->Prop} {w w':World} {l:List (Nat × Ty)} {A:Option Addr}(h:Hz S w l A)(hS:∀g,S g->g<w.heap.size)(hb:Below w.heap.size w w'):Hz S w' l A:=λi n t hi=>by
 obtain⟨g,At,ct,e,hg,ha,c0,c1,c2,c3,c4⟩:=h i n t hi;have hc:∀j u,w.cell? ⟨g,j,none⟩=some u->w'.cell? ⟨g,j,none⟩=some u:=λj u h=>(hb.cell (p:=⟨g,j,none⟩) hg).trans h;exact⟨g,At,ct,e,Ci hg hb.size,ha.al (λ_ h=>h) (λg hg=>hb.block g (hS g hg)),hc _ _ c0,hc _ _ c1,hc _ _ c2,hc _ _ c3,hc _ _ c4⟩
set_option maxRecDepth 100000
theorem zfe(l:List (Nat × Ty))(t:Ty)(B:Nat)(h:∀e∈l,(Fu e.2).length<=B):(p_ (JG l) t).length<=(Ig t).length*B:=by
 have h1:∀n:Nat,(Fo (JG l) (.mt n)).length<=B:=λn=>by
  unfold Fo;cases e:JG l (.mt n) with
  |none=>exact Cw _
  |some u=>obtain⟨m,-,hm⟩:=Wc e;exact h _ hm
 have h2:((Fu t).flatMap λx=>Fo (JG l) (.var x)).length=0:=by
  generalize Fu t=L;induction L with
  |nil=>rfl
  |cons a r ih=>rw[Ei,show Fo (JG l) (.var a)=[] from rfl,Cu];exact ih
 have h3:((Ig t).flatMap λn=>Fo (JG l) (.mt n)).length<=(Ig t).length*B:=by
  generalize Ig t=L;induction L with
  |nil=>simp
  |cons a r ih=>rw[Ei,Cb,Ca,Cy,Da];have:=h1 a;omega
 unfold p_;rw[Cb,h2];omega
theorem zhk(t:Ty):(Ig t).length<=t.size:=by
 rw[zh5];have h:=QX t [];rw[CR,Dm]at h;exact h
def Fj(t:Ty):Prop:=Nm t/\(t.size<=120\/(t.r_=false/\t.size<=20000000000))
theorem Fj.room {l:List (Nat × Ty)} {t:Ty}(h:∀e∈l,(Fu e.2).length<=1920)(hs:Fj t):0+(t.E7+1)*((p_ (JG l) t++Gq t).length+1)<10 ^ 15:=by
 have h1:=zfe l t 1920 h;have h2:=zhk t;rcases hs.2 with hs|⟨hp,hs⟩
 ·exact zou _ t (by omega) (by omega)
 ·exact zmu _ t hp (by omega) (by omega)
theorem Fj.Ry {l:List (Nat × Ty)} {t:Ty}(h:∀e∈l,(Fu e.2).length<=1920)(hs:Fj t):t.r_=true->t.size<=1000000/\(p_ (JG l) t).length<=90000000:=by
 intro hp;have h1:=zfe l t 1920 h;have h2:=zhk t;rcases hs.2 with hs|⟨hq,_⟩
 ·exact⟨by omega,by omega⟩
 ·rw[hp]at hq;cases hq
theorem Fj.le {t:Ty}(hs:Fj t):t.size<=20000000000:=by
 rcases hs.2 with hs|⟨_,hs⟩
 ·omega
 ·exact hs
theorem Qm {l:List (Nat × Ty)} {t:Ty}(h:Hr l)(hs:Fj t):db [] (FM l t)=ap (kf l) (db [] t):=zre l t (hs.room h.free)
theorem MV {l:List (Nat × Ty)} {t:Ty}(h:Hr l)(hs:Fj t):Nm (FM l t):=zrf l t (hs.room h.free) hs.1 h.nm
theorem Sw {l:List (Nat × Ty)} {t:Ty}(h:Hr l)(hs:t.size<=120):(FM l t).size<=2400000000000:=by
 have h1:=zp1 l t 20000000000 (by omega) h.size;have h2:t.size*20000000000<=120*20000000000:=Ek hs (BU _);omega
theorem zn5 {S:Nat->Prop} {l:List (Nat × Ty)} {A:Option Addr} {c:Nat} {t:Ty} {v:Value} {w:World}(h:Hr l)(hs:Fj t)(hk:Hz S w l A)(hS:∀g,S g->g<w.heap.size)(hv:I9 w t v)(ht:FO w):Calls prog 20 #[.slice A l.length c,v] w (L_ (FM l t) w):=by
 have h1:=h.len;have h2:=hs.le;exact znZ hk hS hv (λe he=>⟨h.num e he,h.nm e he,by have:=h.size e he;omega⟩) (by omega) hs.1 (by omega) (hs.Ry h.free) ht
theorem Vz {l:List (Nat × Ty)} {t u:Ty}(h:Hr l)(ht:Fj t)(hu:Fj u):db [] (FM l t)=db [] (FM l u)↔ap (kf l) (db [] t)=ap (kf l) (db [] u):=by
 rw[Qm h ht,Qm h hu]
set_option maxRecDepth 100000
theorem zrW(S:Nat->Prop)(W:World)(m:Nat):nc S W (.mt m) (.agg #[.int .i64 2,.string ⟨#[]⟩,.int .i64 (m:Nat),.slice none 0 0]):=⟨none,0,rfl,by rw[j_];trivial⟩
set_option maxRecDepth 100000
theorem Hg.Lv {S:Nat->Prop} {w:World} {ts:List (Ty × Ty)} {A:Option Addr}(h:Hg S w ts A)(hS:∀g,S g->g<w.heap.size) {i:Nat} {t u:Ty}(hi:ts[i]?=some (t,u)):∃g K X Z At m c K' X' Z' Au m' c',A=some ⟨g,0,none⟩/\g<w.heap.size/\I9 w t (.agg #[.int .i64 K,.string X,.int .i64 Z,.slice At m c])/\I9 w u (.agg #[.int .i64 K',.string X',.int .i64 Z',.slice Au m' c']) /\
   ∀W:World,Below w.heap.size w W->W.cell? ⟨g,i*8,none⟩=some (.int .i64 K)/\W.cell? ⟨g,i*8+1,none⟩=some (.string X)/\W.cell? ⟨g,i*8+2,none⟩=some (.int .i64 Z)/\W.cell? ⟨g,i*8+3,none⟩=some (.slice At m c) /\
    W.cell? ⟨g,i*8+4,none⟩=some (.int .i64 K')/\W.cell? ⟨g,i*8+4+1,none⟩=some (.string X')/\W.cell? ⟨g,i*8+4+2,none⟩=some (.int .i64 Z')/\W.cell? ⟨g,i*8+4+3,none⟩=some (.slice Au m' c'):=by
 obtain⟨g,At,ct,Au,cu,e,hg,⟨c0,c1,c2,c3⟩,ha,⟨d0,d1,d2,d3⟩,hu⟩:=h i t u hi;refine⟨g,(kd t:Nat),ER t,(nn t:Nat),At,(kids t).length,ct,(kd u:Nat),ER u,(nn u:Nat),Au,(kids u).length,cu,e,hg,⟨At,ct,rfl,ha.al hS (λ_ _=>rfl)⟩,⟨Au,cu,rfl,hu.al hS (λ_ _=>rfl)⟩,λW hW=>?_⟩;have hc:∀j v,w.cell? ⟨g,j,none⟩=some v->W.cell? ⟨g,j,none⟩=some v:=λj v h=>(hW.cell (p:=⟨g,j,none⟩) hg).trans h;exact⟨hc _ _ c0,hc _ _ c1,hc _ _ c2,hc _ _ c3,hc _ _ d0,hc _ _ d1,hc _ _ d2,hc _ _ d3⟩
theorem Hz.XK {S:Nat->Prop} {w:World} {l:List (Nat × Ty)} {A:Option Addr}(h:Hz S w l A)(hS:∀g,S g->g<w.heap.size) {i n:Nat} {t:Ty}(hi:l[i]?=some (n,t)):∃g K X Z At m c,A=some ⟨g,0,none⟩/\g<w.heap.size/\I9 w t (.agg #[.int .i64 K,.string X,.int .i64 Z,.slice At m c]) /\
   ∀W:World,Below w.heap.size w W->W.cell? ⟨g,i*5,none⟩=some (.int .i64 (n:Nat))/\W.cell? ⟨g,i*5+1,none⟩=some (.int .i64 K)/\W.cell? ⟨g,i*5+1+1,none⟩=some (.string X)/\W.cell? ⟨g,i*5+1+2,none⟩=some (.int .i64 Z)/\W.cell? ⟨g,i*5+1+3,none⟩=some (.slice At m c):=by
 obtain⟨g,At,ct,e,hg,ha,c0,c1,c2,c3,c4⟩:=h i n t hi;refine⟨g,(kd t:Nat),ER t,(nn t:Nat),At,(kids t).length,ct,e,hg,⟨At,ct,rfl,ha.al hS (λ_ _=>rfl)⟩,λW hW=>?_⟩;have hc:∀j v,w.cell? ⟨g,j,none⟩=some v->W.cell? ⟨g,j,none⟩=some v:=λj v h=>(hW.cell (p:=⟨g,j,none⟩) hg).trans h;exact⟨hc _ _ c0,hc _ _ c1,hc _ _ c2,hc _ _ c3,hc _ _ c4⟩
theorem Hz.apply {S:Nat->Prop} {w W:World} {l:List (Nat × Ty)} {A:Option Addr} {c:Nat} {t:Ty} {v:Value}(h:Hr l)(hs:Fj t)(hk:Hz S w l A)(hS:∀g,S g->g<w.heap.size)(hv:I9 w t v)(ht:FO w)(hW:Below w.heap.size w W):Calls prog 20 #[.slice A l.length c,v] W (L_ (FM l t) W) :=
 zn5 h hs (Hz.below hk hS hW) (λg hg=>Ci (hS g hg) hW.size) (hv.below hW) (ht.below hW)
theorem Ib.cases {ts:List (Ty × Ty)} {w:World} {e:Ending} {w':World}(h:Ib ts w e w')(hb:OP ts):Below w.heap.size w w'/\((∃m:Nat,(m=40\/m=41\/m=42\/m=43)/\(∃f,Fc f (Fy ts) .mt=some (.inl m))/\e=.returned (.tuple #[.slice none 0 0,.int .i64 (m:Nat)])) \/
   ∃f k l T A c,Fc f (Fy ts) .mt=some (.inr k)/\Told k l/\Hr l/\e=.returned (.tuple #[.slice A l.length c,.int .i64 0])/\Hz T w' l A/\∀g,T g->g<w'.heap.size):=by
 obtain⟨f,o,hf,a8,⟨m,rfl,hm,rfl⟩|⟨k,v,l,T,rfl,rfl,hK,hT,wS⟩⟩:=h
 ·exact⟨a8,.inl ⟨m,zkR f _ _ m hf,⟨f,hf⟩,rfl⟩⟩
 ·obtain⟨A,c,rfl⟩:=hK.shape;exact⟨a8,.inr ⟨f,k,l,T,A,c,hf,hT,zp9 hb hf hT,rfl,hK.Wy,λg hg=>(wS g hg).2⟩⟩
theorem Wh {w W:World} {ls:List (ByteArray × ByteArray)} {A:Option Addr}(h:Gb w ls A)(hW:Below w.heap.size w W):Gb W ls A:=λi p hi=>by
 obtain⟨a,e,h1,h2,h3⟩:=h i p hi;have hb:∀k,(a.add k).block=a.block:=λk=>by unfold Addr.add;split <;> rfl
 exact⟨a,e,Ci h1 hW.size,(hW.cell (p:=a.add (i*2)) (by rw[hb];exact h1)).trans h2,(hW.cell (p:=a.add (i*2+1)) (by rw[hb];exact h1)).trans h3⟩
theorem Hg.below {S:Nat->Prop} {w W:World} {ts:List (Ty × Ty)} {A:Option Addr}(h:Hg S w ts A)(hS:∀g,S g->g<w.heap.size)(hW:Below w.heap.size w W):Hg S W ts A:=λi t u hi=>by
 obtain⟨g,At,ct,Au,cu,e,hg,⟨c0,c1,c2,c3⟩,ha,⟨d0,d1,d2,d3⟩,hu⟩:=h i t u hi;have hc:∀j v,w.cell? ⟨g,j,none⟩=some v->W.cell? ⟨g,j,none⟩=some v:=λj v h=>(hW.cell (p:=⟨g,j,none⟩) hg).trans h;exact⟨g,At,ct,Au,cu,e,Ci hg hW.size,⟨hc _ _ c0,hc _ _ c1,hc _ _ c2,hc _ _ c3⟩,ha.al (λ_ h=>h) (λk hk=>hW.block k (hS k hk)),⟨hc _ _ d0,hc _ _ d1,hc _ _ d2,hc _ _ d3⟩,hu.al (λ_ h=>h) (λk hk=>hW.block k (hS k hk))⟩
theorem Wa {S:Nat->Prop} {ts:List (Ty × Ty)} {A:Option Addr} {c:Nat} {w:World}(h:Hg S w ts A)(hS:∀g,S g->g<w.heap.size)(hb:OP ts):Calls prog 14 #[.slice A ts.length c] w (Ib ts w) :=
 zjD S ts A c w h hS (λt u ht=>by obtain⟨a,b,d,e⟩:=hb.ok t u ht;exact⟨a,b,by omega,by omega⟩) (by have:=hb.len;omega) (by have:=UW ts hb.ok;have:=hb.len;omega) zil
end
section
open Go.RowKit Lx Tx Go.Maps Go.WideMaps Go.Shelf
def isQ(p:Ty × Ty):Bool:=match p.1 with|.mt n=>decide (n<100000)|_=>false
theorem zk1(p:Ty × Ty):isQ p=(decide (kd p.1=2)&&decide (nn p.1<100000)):=by
 obtain⟨t,u⟩:=p;cases t with
 |mt n=>rfl
 |var x=>rfl
 |h_ c l=>rfl
 |fn a b=>rfl
 |all x b=>rfl
theorem zrI {S:Nat->Prop} {B:Nat} {e:TypeId} {w:World} {l:List (Nat × Ty)} {A:Option Addr} {m c:Nat} {vs:List Value}(h1:w.ownsRow B e 5 (.slice A m c) l.length vs)(h2:m_ S w l vs):Hz S w l A/\m=l.length:=by
 have hm:m=l.length:=by
  obtain⟨a,q,e⟩:=GS h1;injection e
 refine⟨λi n t hi=>?_,hm⟩;obtain⟨At,ct,g1,g2⟩:=h2.at i n t hi;rcases h1.2 with⟨-,h0⟩|⟨g,cap,cur,e,hB,hg,-⟩
 ·rw[Cn h0]at hi;cases hi
 ·injection e with e1 _ _
  subst e1;have hc:∀(j:Nat) (x:Value),vs[j]?=some x->w.cell? ⟨g,j,none⟩=some x:=λj x hx=>by
   have ay:=h1.cells (g:=g) rfl j x hx;have aN:(⟨g,0,none⟩:Addr).add j=⟨g,j,none⟩:=by unfold Addr.add;split <;> simp_all
   rwa [aN]at ay
  exact⟨g,At,ct,rfl,(BV.1 hg).1,g1,hc _ _ (g2 0 (by omega)),hc _ _ (g2 1 (by omega)),hc _ _ (g2 2 (by omega)),hc _ _ (g2 3 (by omega)),hc _ _ (g2 4 (by omega))⟩
end
section
open Go.RowKit Lx Tx Go.Maps Go.WideMaps Go.Shelf
set_option maxRecDepth 100000
theorem zp2 {S:Nat->Prop} {B n c:Nat} {e:TypeId} {w w':World} {l:List (Nat × Ty)} {vs:List Value} {v':Value} {u:Ty} {A:Option Addr}(hS:∀g,S g->g<B)(h:m_ S w l vs)(ha:j_ S w u A)(ho:w'.ownsRow B e 5 v' (l.length+1) (vs++KW n u A c))(hk:∀g,g<B->w'.heap[g]?=w.heap[g]?):w'.ownsRow B e 5 v' (l++[(n,u)]).length (vs++KW n u A c)/\m_ S w' (l++[(n,u)]) (vs++KW n u A c):=by
 refine⟨by rw[Cb];exact ho,?_⟩;exact m_.snoc (m_.al (λ_ h=>h) (λg hg=>hk g (hS g hg)) _ _ h) (ha.al (λ_ h=>h) (λg hg=>hk g (hS g hg)))
theorem zp3 {S:Nat->Prop} {B:Nat} {w w':World} {l:List (Nat × Ty)} {vs:List Value}(hS:∀g,S g->g<B)(h:m_ S w l vs)(hk:∀g,g<B->w'.heap[g]?=w.heap[g]?):m_ S w' l vs:=m_.al (λ_ h=>h) (λg hg=>hk g (hS g hg)) _ _ h
end
section
open Go.RowKit Lx Tx Go.Maps Go.WideMaps Go.Shelf
def RowK(S:Nat->Prop)(B:Nat)(w:World)(l:List (Nat × Ty))(e:TypeId)(v:Value):Prop:=∃vs,w.ownsRow B e 5 v l.length vs/\m_ S w l vs
theorem RowK.nil(S:Nat->Prop)(B:Nat)(w:World)(e:TypeId):RowK S B w [] e (.slice none 0 0):=⟨[],CM _ _ _ _,by rw[m_]⟩
theorem RowK.shape {S:Nat->Prop} {B:Nat} {w:World} {l:List (Nat × Ty)} {e:TypeId} {v:Value}(h:RowK S B w l e v):∃A c,v=.slice A l.length c:=by
 obtain⟨vs,h1,-⟩:=h;exact GS h1
theorem RowK.Wy {S:Nat->Prop} {B:Nat} {w:World} {l:List (Nat × Ty)} {e:TypeId} {A:Option Addr} {m c:Nat}(h:RowK S B w l e (.slice A m c)):Hz S w l A:=by
 obtain⟨vs,h1,h2⟩:=h;exact(zrI h1 h2).1
theorem zn7 {S:Nat->Prop} {B n:Nat} {e:TypeId} {w w':World} {o:Obj} {l:List (Nat × Ty)} {v v':Value} {vs:List Value} {u:Ty} {Au:Option Addr} {cu:Nat}(hS:∀g,S g->g<B)(hB:B<=w.heap.size)
  (o1:w.ownsRow B e 5 v l.length vs)(k1:m_ S w l vs)(ha:j_ S w u Au)(sI:(w.drew.alloc o).grownBy w' v.ownBlock)(ho:w'.ownsRow B e 5 v' (l.length+1) (vs++KW n u Au cu)):RowK S B w' (l++[(n,u)]) e v'/\Below B w w'/\∀(e2:TypeId) (v2:Value) (l2:List (Nat × Ty)),e2≠e->RowK S B w l2 e2 v2->RowK S B w' l2 e2 v2:=by
 have hb:Below B w w':=Below.grown (((Cc B w).drew).alloc hB o) sI (by rw[size_alloc];show B<=w.heap.size+1;omega) (λk hk=>(s_ o1 k hk).1);have hk:∀g,g<B->w'.heap[g]?=w.heap[g]?:=λg hg=>hb.block g hg;refine⟨⟨_,zp2 hS k1 ha ho hk⟩,hb,λe2 v2 l2 ai h2=>?_⟩;obtain⟨lD,o2,k2⟩:=h2;refine⟨lD,GF o2 λg hg=>?_,zp3 hS k2 hk⟩;obtain⟨h1,h2,cur,h3⟩:=s_ o2 g hg;have e1:(w.drew.alloc o).heap[g]?=w.heap[g]?:=BX w.drew o g h2;refine(sI.block g (by rw[size_alloc];show g<w.heap.size+1;omega) λhx=>?_).trans e1;obtain⟨_,_,AB,h4⟩:=s_ o1 g hx.symm;rw[h3]at h4
 injection h4 with h4;injection h4 with _ h4 _;exact ai h4
def LK(p:Ty × Ty):Bool:=isQ p && !p.2.r_
def Kp(ts:List (Ty × Ty)):List (Nat × Ty):=(ts.filter LK).map λp=>(nn p.1,p.2)
theorem zqb {ts:List (Ty × Ty)} {i:Nat} {p:Ty × Ty}(h:ts[i]?=some p):Kp (ts.take (i+1))=if LK p=true then Kp (ts.take i)++[(nn p.1,p.2)] else Kp (ts.take i):=by
 obtain⟨hi,e⟩:=Cj.1 h;unfold Kp;rw[CV hi,e,Eg,Dn];cases hq:LK p with
 |true=>rw[Ch rfl,EA,Ch hq];rfl
 |false=>simp[hq]
theorem zk2(ts:List (Ty × Ty)):(Kp ts).length<=ts.length:=by
 unfold Kp;rw[CE];exact D7 _ _
theorem ziB {ts:List (Ty × Ty)}(h:IM ts):∀e∈Kp ts,e.1<=999999/\Nm e.2/\e.2.r_=false/\e.2.size<=120:=λe he=>by
 unfold Kp at he;obtain⟨⟨t,u⟩,hp,rfl⟩:=Ct.1 he;obtain⟨hm,hq⟩:=Dp.1 hp;obtain⟨-,h2,-,h4⟩:=h t u hm;unfold LK at hq;rw[zk1]at hq;simp at hq;exact⟨by show nn t<=999999;omega,h2,hq.2,h4⟩
theorem zrh {ts:List (Ty × Ty)}(h:IM ts)(h8:ts.length<=8):Hr (Kp ts):=by
 have hf:=ziB h;refine⟨Cm (zk2 ts) (by omega),λe he=>(hf e he).1,λe he=>(hf e he).2.1,λe he=>(hf e he).2.2.1,λe he=>?_,λe he=>?_⟩
 ·have:=(hf e he).2.2.2;omega
 ·have:=(hf e he).2.2.2;have:=SO e.2;omega
theorem zqc {l:List (Nat × Ty)}(h:∀e∈l,e.2.r_=false)(n:Nat):Plain (kf l n):=by
 rw[VA];cases hq:Iv n l with
 |none=>exact Jk n
 |some u=>exact zpK (h _ (VL l hq))
theorem zhl {ts:List (Ty × Ty)} {s:List (Nat × Ty)} {f:Nat} {o:Nat ⊕ Sb}(hs:∀e∈s,e.2.r_=false)(hE:∀t u,(t,u)∈ts->ap (kf s) (db [] t)=ap (kf s) (db [] u))(h:Fc f (Fy ts) .mt=some o):∃k,o=.inr k/\B_ (kf s) k :=
 S9 (kf s) (zqc hs) f (Fy ts) .mt o h J0 (SC _) λp hp=>by
  obtain⟨⟨t,u⟩,hq,rfl⟩:=Ct.1 hp;exact hE t u hq
theorem zjZ {ts:List (Ty × Ty)} {s l:List (Nat × Ty)} {f:Nat} {k:Sb}(hS:Hr s)(hL:Hr l)(h:Fc f (Fy ts) .mt=some (.inr k))(hT:Told k l)(ha:B_ (kf s) k)(n:Nat)(t:Ty)(he:(n,t)∈l):Fj (.mt n)/\Fj t/\db [] (FM s (.mt n))=db [] (FM s t):=by
 obtain⟨-,hp,-,-⟩:=NX f _ _ _ h J0 Jk;have hm:Fj (.mt n):=⟨.mt n (hL.num _ he),.inl (by rw[Ty.size];omega)⟩;have ht:Fj t:=⟨hL.nm _ he,.inr ⟨hL.r_ _ he,hL.size _ he⟩⟩;obtain⟨-,e⟩:=(hT.mem n t).1 he;refine⟨hm,ht,?_⟩;rw[Qm hS hm,Qm hS ht,e,RW _ (hp n),db,Ge];exact(ha n).symm
end
end Go.Proofs.YtfafilmklhnngaaGreatDoor
