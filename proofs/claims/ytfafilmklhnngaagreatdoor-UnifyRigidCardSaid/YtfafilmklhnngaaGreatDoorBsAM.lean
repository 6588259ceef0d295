import Derived.Test.YtfafilmklhnngaaGreatDoorBsAL
import Derived.Test.YtfafilmklhnngaaGreatDoorBsAC
set_option maxHeartbeats 12800000
set_option maxRecDepth 100000
namespace Go.Proofs.YtfafilmklhnngaaGreatDoor
open Tryz
section
open Go.RowKit Lx Tx Go.Maps Go.WideMaps
def Hg(S:Nat->Prop)(w:World)(ts:List (Ty × Ty))(A:Option Addr):Prop :=
 ∀(i:Nat) (t u:Ty),ts[i]?=some (t,u)->∃g At ct Au cu,A=some ⟨g,0,none⟩/\g<w.heap.size/\F7 w t At ct g (i*8)/\j_ S w t At/\F7 w u Au cu g (i*8+4)/\j_ S w u Au
theorem Lt.but {b mv mu mk:Nat} {w0:World} {G:Nat->Option Nd} {D:Nat->Dy} {V:Name->Option Nat} {U:Nat->Option Nat} {W W':World} {ob:Option Nat}(h:Lt b mv mu mk w0 G D V U W)(hk:∀g,g<W.heap.size->some g≠ob->W'.heap[g]?=W.heap[g]?)
  (mH:∀g,ob=some g->∃cur,W.heap[g]?=some (.cells cur 78 (0,0)))(hC:b_ (λg=>g=mv\/g=mu) w0 W'):Lt b mv mu mk w0 G D V U W':=by
 have ai:∀(g:Nat) (o:Obj),W.heap[g]?=some o->(∀cur,o≠.cells cur 78 (0,0))->W'.heap[g]?=W.heap[g]?:=λg o hg ho=>hk g (BV.1 hg).1 (λe=>by
  obtain⟨cur,hc⟩:=mH g e.symm;rw[hc]at hg;injection hg with hg;exact ho cur hg.symm)
 have ay:∀(g:Nat) (cs:Array Value) (t:TypeId),W.heap[g]?=some (.cells cs t (0,0))->t≠78->W'.heap[g]?=W.heap[g]?:=λg cs t hg ht=>ai g _ hg (λcur e=>by injection e with _ e;exact ht e);have uj:∀ {κ:Type} [DecidableEq κ] {kv:κ->Value} {ok:World->κ->Prop} {m:Nat} {f:κ->Option Nat},d_ kv ok W m f->W'.heap[m]?=W.heap[m]?:=fun {κ} _ {kv ok m f} hm=>hk m (d_.lt hm) (λe=>by
  obtain⟨cur,hc⟩:=mH m e.symm;exact d_.no hm hc)
 refine⟨h.sb.same (ay _ _ _ h.sb (by decide)),⟨d_.al h.ES.ms (uj h.ES.ms) (λ_ h=>h),d_.al h.ES.mi (uj h.ES.mi) (λ_ h=>h),?_,h.ES.vn,h.ES.un,h.ES.dn⟩,h.vf,h.kn.al (uj h.kn.mp) (λx ⟨cs,hx⟩=>⟨cs,(ay x cs _ hx (by decide)).trans hx⟩),hC,h.lo⟩;intro p x hx;obtain⟨A,c,hb,hr⟩:=h.ES.pd p x hx;refine tR.al ⟨A,c,hb,hr⟩ (ay _ _ _ hb (by decide)) (λhn=>?_);obtain⟨_,cur,hc,_⟩:=hr hn;exact ay _ _ _ hc (by decide)
def Rl(b mv mu mk:Nat)(w0:World)(ts:List (Ty × Ty))(n gg:Nat)(v5 vi:Value)(wr:World):Prop :=
 ∃i es ns G D V U,gg=n-i/\vi=.int .i64 (i:Nat)/\i<=n/\es.length=i/\Lt b mv mu mk w0 G D V U wr/\E9 G U V (ts.take i) es ns/\ns.Nodup/\(∀x∈ns,x<wr.heap.size)/\wr.ownsRow w0.heap.size 78 3 v5 i (g_ es)
theorem Rl.next {b mv mu mk:Nat} {w0:World} {ts:List (Ty × Ty)} {n i:Nat} {v5 v5':Value} {es:List tL} {ns:List Nat} {G:Nat->Option Nd} {D:Nat->Dy} {V:Name->Option Nat} {U:Nat->Option Nat} {wr W7 W2 w6:World} {t u:Ty} {pl pr:Nat} {o:Obj}
  (Fw:i<n)(ht:ts[i]?=some (t,u))(hle:es.length=i)(hC:Lt b mv mu mk w0 G D V U wr)(hq:E9 G U V (ts.take i) es ns)(eJ:ns.Nodup)(af:∀x∈ns,x<wr.heap.size)(h7:Below wr.heap.size wr W7)(hT:Rk b mv mu mk w0 G D V U W7 t u pl pr W2)
  (mH:∀g,v5.ownBlock=some g->w0.heap.size<=g/\∃cur,W2.heap[g]?=some (.cells cur 78 (0,0)))(hg:(W2.alloc o).grownBy w6 v5.ownBlock)(ho:w6.ownsRow w0.heap.size 78 3 v5' (i+1) (g_ (es++[⟨pl,pr,false⟩]))):Rl b mv mu mk w0 ts n (n-(i+1)) v5' (.int .i64 ((i+1:Nat):Nat)) w6:=by
 obtain⟨nl,nr,G2,D2,V2,U2,k1,k2,k3,k4,k5,k6,k7⟩:=hT;have s7:=h7.size;have s2:=k7.size;have sg:W2.heap.size<=w6.heap.size:=by have:=hg.size;simp only[World.size_alloc]at this;omega
 refine⟨i+1,_,ns++(nl++nr),G2,D2,V2,U2,rfl,rfl,by omega,by simp[hle],?_,?_,?_,?_,ho⟩
 ·refine k1.but (ob:=v5.ownBlock) (λg jN he=>?_) (λg h=>(mH g h).2) ((k1.ch.alloc o).grown hg (λk hk=>.inl (mH k hk).1))
  exact(hg.block g (by simp;omega) he).trans (BX _ _ _ jN)
 ·have:ts.take (i+1)=ts.take i++[(t,u)]:=by rw[D9,ht];rfl
  rw[this];refine E9.snoc k3 k4 _ (E9.more ?_ k2.ux k2.vx _ hq);exact k2.gx λq x hx=>by have:=hC.ES.lt hx;omega
 ·exact DP.2 ⟨eJ,k5,λa ha b hb e=>by have:=af a ha;have:=(k6 b hb).1;omega⟩
 ·intro x hx
  rcases Cr.1 hx with hx|hx
  ·have:=af x hx;omega
  ·have:=(k6 x hx).2;omega
end
section
open Go.RowKit Go.Shelf Lx Tx Go.Maps Go.WideMaps
structure Na (e2 e3 e4 b:Nat) (W:World):Prop where
 b2:ar W e2 28 #[.slice none 0 0]
 b3:ar W e3 29 #[.int .i64 0]
 b4:ar W e4 72 #[.pointer (some ⟨b,0,none⟩)]
theorem Na.al {e2 e3 e4 b:Nat} {W W':World}(h:Na e2 e3 e4 b W)(hk:∀(g:Nat)(cs:Array Value)(t:TypeId),W.heap[g]?=some (.cells cs t (0,0))->t≠85->t≠132->t≠78->W'.heap[g]?=W.heap[g]?):Na e2 e3 e4 b W' :=
 ⟨h.b2.same (hk _ _ _ h.b2 (by decide) (by decide) (by decide)),h.b3.same (hk _ _ _ h.b3 (by decide) (by decide) (by decide)),h.b4.same (hk _ _ _ h.b4 (by decide) (by decide) (by decide))⟩
def J5(b mu mk B:Nat)(G:Nat->Option Nd)(L:List Nat)(U:Nat->Option Nat)(mv:Value)(C N0:Nat)(o:Nat ⊕ Sb)(e2 e3 e4:Nat)(w:World)(N:Nat)(top EX:List tL)(W:World):Prop :=
 ∃hd k f s D v,N=Jh f (top++EX.reverse)/\Ha G L hd k (top++EX.reverse) f o/\y_ G k [] (top++EX.reverse)/\Fg G C 0 (top++EX.reverse)/\GM b mu mk B G U hd s D mv v EX W/\0<=s/\s+(IY hd L:Nat)<=N0/\(∀p,hd p≠p->∃x,G p=some x)/\Na e2 e3 e4 b W/\Below w.heap.size w W
theorem zpE {w:World} {B:Nat} {e:TypeId} {v:Value} {l:List tL} {x:tL}(h:w.ownsRow B e 3 v (l++[x]).length (g_ (l++[x]))):∃g cap,v=.slice (some ⟨g,0,none⟩) (l++[x]).length cap/\w.ownsRow B e 3 (.slice (some ⟨g,0,none⟩) l.length cap) l.length (g_ l):=by
 obtain⟨h0,⟨_,h1⟩|⟨g,cap,cur,hv,h1,h2,h3,h4,h5,h6⟩⟩:=h
 ·simp at h1
 ·refine⟨g,cap,hv,Ta l,.inr ⟨g,cap,cur,rfl,h1,h2,?_,h4,h5,?_⟩⟩
  ·rw[Cb]at h3;simp at h3;omega
  ·rw[PZ,Cb]at h6
   have:=Cp (List.take (l.length*3)) h6;rw[List.take_take,List.take_left' (Ta l)]at this;rw[<-this];congr 1
   first|(simp;done)|(simp;omega)
theorem zq4 {W:World} {B b:Nat} {v:Value} {cs:Array Value} {l:List tL} {t:TypeId}(hb:ar W b t (cs.setIfInBounds 0 v))(gP:0<cs.size)(ho:W.ownsRow B 78 3 v l.length (g_ l))(hl:l.length<=5000000000000):∃A c,v=.slice A l.length c/\OZ W b l A c:=by
 have eL:W.cell? ⟨b,0,none⟩=some v:=by
  rw[cell_of_row W b 0 _ _ (0,0) hb];simp[gP]
 have sM:W.frozen? ⟨b,0,none⟩=false:=frozen_of_row W b 0 _ _ hb;have eW:=ho;obtain⟨h0,⟨hv,h1⟩|⟨g,cap,cur,hv,h1,h2,h3,h4,h5,h6⟩⟩:=ho
 ·refine⟨none,0,by rw[hv,h1],by rw[h1,<-hv];exact eL,sM,hb.lt,by omega,hl,λhn=>?_⟩
  exact(hn (Cn h1)).elim
 ·refine⟨some ⟨g,0,none⟩,cap,hv,by rw[<-hv];exact eL,sM,hb.lt,h3,hl,λ_=>⟨g,rfl,?_⟩⟩
  rw[hv]at eW;exact(RV eW).2.2
section
variable {b mu mk B:Nat} {G:Nat->Option Nd} {L:List Nat} {U:Nat->Option Nat} {mv:Value} {C N0:Nat} {o:Nat ⊕ Sb} {e2 e3 e4:Nat} {w:World} {N:Nat} {W W':World}
theorem GM.Kv {hd:Nat->Nat} {s:Int} {D:Nat->Dy} {v:Value} {EX:List tL}(h:GM b mu mk B G U hd s D mv v EX W)(hk:∀(g:Nat)(x:Obj),W.heap[g]?=some x->(∀r,x≠.loop r)->(∀r,x≠.deferred r)->W'.heap[g]?=W.heap[g]?)(hs:W.heap.size<=W'.heap.size):GM b mu mk B G U hd s D mv v EX W':=by
 have hc:∀(g:Nat) (cs:Array Value) (t:TypeId),W.heap[g]?=some (.cells cs t (0,0))->W'.heap[g]?=W.heap[g]?:=λg cs t hg=>hk g _ hg (λ_ e=>by cases e) (λ_ e=>by cases e);have hm:∀ {κ:Type} [DecidableEq κ] {kv:κ->Value} {ok:World->κ->Prop} {m:Nat} {f:κ->Option Nat},d_ kv ok W m f->W'.heap[m]?=W.heap[m]?:=fun {κ} _ {kv ok m f} h=>by
  obtain⟨es,n,l,h1,_⟩:=h;exact hk m _ h1 (λ_ e=>by cases e) (λ_ e=>by cases e)
 obtain⟨K,hK⟩:=h.kn;exact⟨h.sb.same (hc _ _ _ h.sb),GF h.own (λg hg=>by obtain⟨_,_,cur,aa⟩:=s_ h.own g hg;exact hc g cur _ aa),⟨K,hK.al (hm hK.mp) (λx ⟨cs,hx⟩=>⟨cs,(hc x cs _ hx).trans hx⟩)⟩,
  h.pd.same (λg _ ⟨cs,t,hg⟩=>hc g cs t hg),d_.al h.mi (hm h.mi) (λ_ h=>h),λn p hn=>by obtain⟨cs,hx⟩:=h.lq n p hn;exact⟨cs,(hc p cs _ hx).trans hx⟩,h.sr,h.fl,h.da,h.mm,Cm h.hB hs⟩
theorem GM.below {hd:Nat->Nat} {s:Int} {D:Nat->Dy} {v:Value} {EX:List tL}(h:GM b mu mk B G U hd s D mv v EX W)(hb:Below W.heap.size W W'):GM b mu mk B G U hd s D mv v EX W' :=
 h.Kv (λg _ hg _ _=>hb.block g (BV.1 hg).1) hb.size
theorem J5.al {top EX:List tL}(h:J5 b mu mk B G L U mv C N0 o e2 e3 e4 w N top EX W)(hb:Below W.heap.size W W'):J5 b mu mk B G L U mv C N0 o e2 e3 e4 w N top EX W':=by
 obtain⟨hd,k,f,s,D,v,h1,h2,h3,h4,h5,h6,h7,Az,h8,h9⟩:=h;exact⟨hd,k,f,s,D,v,h1,h2,h3,h4,h5.below hb,h6,h7,Az,h8.al (λg cs t hg _ _ _=>hb.block g (BV.1 hg).1),h9.trans (hb.mono h9.size)⟩
theorem MM {W:World} {lp:Nat} {x y:Obj}(hl:W.heap[lp]?=some x) {g:Nat} {z:Obj}(hg:W.heap[g]?=some z)(ai:z≠x):(W.putObj lp y).heap[g]?=W.heap[g]?:=CC λe=>by
 rw[e,hl]at hg;injection hg with hg;exact ai hg.symm
theorem J5.KY {top EX:List tL} {lp:Nat} {x y:Obj}(h:J5 b mu mk B G L U mv C N0 o e2 e3 e4 w N top EX W)(mM:w.heap.size<=lp)(hl:W.heap[lp]?=some x)(hx:(∃r,x=.loop r)\/∃r,x=.deferred r):J5 b mu mk B G L U mv C N0 o e2 e3 e4 w N top EX (W.putObj lp y):=by
 obtain⟨hd,k,f,s,D,v,h1,h2,h3,h4,h5,h6,h7,Az,h8,h9⟩:=h;refine⟨hd,k,f,s,D,v,h1,h2,h3,h4,h5.Kv (λg z hg a b=>MM hl hg (by rcases hx with⟨r,rfl⟩|⟨r,rfl⟩;exact a r;exact b r)) (by rw[Dq];exact BU _),h6,h7,Az,h8.al (λg cs t hg _ _ _=>MM hl hg (by rcases hx with⟨r,rfl⟩|⟨r,rfl⟩ <;> simp)),?_⟩;exact⟨h9.os,h9.tape,h9.output,by rw[Dq];exact h9.size,λg hg=>(CC (by omega)).trans (h9.block g hg)⟩
theorem J5.EX {l:List tL}(h:J5 b mu mk B G L U mv C N0 o e2 e3 e4 w N [] l W)(mw:1+C+wg G [] L<=2000000000000)(bG:w.heap.size<=b):∃A c,OZ W b l A c/\∀x l',l=l'++[x]->J5 b mu mk B G L U mv C N0 o e2 e3 e4 w N [x] l' ((W.setCell ⟨b,0,none⟩ (.slice A l'.length c)).alloc (.cells #[.pointer (some ⟨x.l,0,none⟩),.pointer (some ⟨x.r,0,none⟩),.bool x.d] 78)):=by
 obtain⟨hd,k,f,s,D,v,h1,h2,h3,h4,h5,h6,h7,Az,h8,h9⟩:=h;rw[Cu]at h1 h2 h3 h4;have hlen:l.length<=5000000000000:=by
  have h2':=h2;obtain⟨_,_,_,_,S,_⟩:=h2';have:=h3.len h4 S.gr.all;rw[DO]at this;omega
 obtain⟨A,c,rfl,aW⟩:=zq4 (cs:=#[v,mv,.map (some mu),.map (some mk),.int .i64 s]) h5.sb (by simp) h5.own hlen;refine⟨A,c,aW,λx l' e=>?_⟩;subst e;obtain⟨g,cap,zt,ho⟩:=zpE h5.own;injection zt with e1 _ T_;subst e1 T_;rw[Ec]at h1 h2 h3 h4
 have mS:g≠b:=λe=>by
  obtain⟨_,_,cur,aa⟩:=s_ ho g rfl;rw[e]at aa;exact ar.Gw (show ar W b _ cur from aa) h5.sb (by decide) rfl
 have ai:∀z,z≠b->(W.setCell ⟨b,0,none⟩ (.slice (some ⟨g,0,none⟩) l'.length c)).heap[z]?=W.heap[z]?:=λz hz=>B8 _ _ _ _ hz;obtain⟨K,hK⟩:=h5.kn;have bN:∀(z:Nat) (cs:Array Value) (t:TypeId),W.heap[z]?=some (.cells cs t (0,0))->t≠85->z≠b:=λz cs t hz ht=>ar.Gw (show ar W z t cs from hz) h5.sb ht;have WK:GM b mu mk B G U hd s D mv (.slice (some ⟨g,0,none⟩) l'.length c) l' (W.setCell ⟨b,0,none⟩ (.slice (some ⟨g,0,none⟩) l'.length c)):=by
  refine⟨Cl W b 0 _ _ _ h5.sb,ownsRow_setCell_other (a:=⟨b,0,none⟩) ho (λe=>mS (by simpa[Value.ownBlock] using e)) _,⟨K,hK.al (ai _ (λe=>by have:=h5.sb;rw[<-e]at this;exact d_.no hK.mp this)) (λy hy=>hy.setCell _ _ _)⟩,?_,d_.al h5.mi (ai _ (λe=>by have:=h5.sb;rw[<-e]at this;exact d_.no h5.mi this)) (λ_ h=>h),λn p hn=>(h5.lq n p hn).setCell _ _ _,h5.sr,h5.fl,h5.da,h5.mm,by rw[World.size_setCell];exact h5.hB⟩;intro q x hx;obtain⟨A9,c9,cM,cV⟩:=h5.pd q x hx;refine tR.al ⟨A9,c9,cM,cV⟩ (ai _ (bN _ _ _ cM (by decide))) (λhn=>?_);obtain⟨_,cur,aa,_⟩:=cV hn;exact ai _ (bN _ _ _ aa (by decide))
 refine⟨hd,k,f,s,D,_,h1,h2,h3,h4,WK.below ((Cc _ _).alloc (BU _) _),h6,h7,Az,?_,?_⟩
 ·refine Na.al (W:=W) h8 (λz cs t hz ht _ _=>?_)
  exact(BX _ _ _ (by rw[World.size_setCell];exact(BV.1 hz).1)).trans (ai z (bN z cs t hz ht))
 ·exact((h9.setCell (p:=⟨b,0,none⟩) bG _).alloc (by rw[World.size_setCell];exact h9.size) _)
end
def KW(n:Nat)(t:Ty)(A:Option Addr)(c:Nat):List Value:=.int .i64 (n:Nat)::Hx t A c
def m_(S:Nat->Prop)(w:World):List (Nat × Ty)->List Value->Prop
 |[],vs=>vs=[]
 |(n,t)::r,vs=>∃A c rest,vs=KW n t A c++rest/\j_ S w t A/\m_ S w r rest
theorem m_.al {S S':Nat->Prop} {w w':World}(hS:∀g,S g->S' g)(hk:∀g,S g->w'.heap[g]?=w.heap[g]?):(l:List (Nat × Ty))->∀vs,m_ S w l vs->m_ S' w' l vs
 |[],vs,h=>by rw[m_]at h ⊢;exact h
 |(n,t)::r,vs,h=>by
  rw[m_]at h ⊢;obtain⟨A,c,rest,h1,h2,h3⟩:=h;exact⟨A,c,rest,h1,h2.al hS hk,m_.al hS hk r rest h3⟩
def Ij(S:Nat->Prop)(B:Nat)(w:World)(l:List (Nat × Ty))(v:Value):Prop :=
 ∃vs,w.ownsRow B 39 5 v l.length vs/\m_ S w l vs
def NF(mk:Nat)(G:Nat->Option Nd)(k:Sb)(w:World)(e:Ending)(w':World):Prop :=
 ∃v l T,e=.returned v/\Ij T w.heap.size w' l v/\Told k l/\(∀g,T g->w.heap.size<=g/\g<w'.heap.size)/\b_ (λg=>g=mk\/∃x,G g=some x) w w'
def zql:Prop:=∀(b mu mk B:Nat)(G:Nat->Option Nd)(L:List Nat)(U:Nat->Option Nat)(hd:Nat->Nat)(s:Int)(D:Nat->Dy)(mv v:Value)(k:Sb)(O:List Nat)(W:World),GM b mu mk B G U hd s D mv v [] W->F0 G L hd k [] O->L7 G ->
 (∀n p,U n=some p->G p=some ⟨2,⟨#[]⟩,n,[],none,false⟩\/(hd p=p/\k n=.mt n))->(∀n,k n≠.mt n->∃p,U n=some p)->1+wg G [] L<=2000000000000 ->
 Calls prog 37 #[.pointer (some ⟨b,0,none⟩)] W (NF mk G k W)
def Ib(ts:List (Ty × Ty))(w:World)(e:Ending)(w':World):Prop :=
 ∃f o,Fc f (Fy ts) .mt=some o/\Below w.heap.size w w'/\((∃m:Nat,o=.inl m/\m≠0/\e=.returned (.tuple #[.slice none 0 0,.int .i64 (m:Nat)])) \/
  ∃k v l T,o=.inr k/\e=.returned (.tuple #[v,.int .i64 0])/\Ij T w.heap.size w' l v/\Told k l/\(∀g,T g->w.heap.size<=g/\g<w'.heap.size))
theorem znx {G:Nat->Option Nd} :(L:List Nat)->(∀q∈L,∃x,G q=some x)->L.length<=wg G [] L
 |[],_=>Cw _
 |q::L,h=>by
  obtain⟨x,hx⟩:=h q (by simp);have:=znx L λz hz=>h z (by simp[hz]);rw[wg,hx,Ca]
  simp only[CI,D3];omega
theorem J5.start {b mv mu mk i:Nat} {w0 wr w6 w:World} {G:Nat->Option Nd} {D:Nat->Dy} {V:Name->Option Nat} {U:Nat->Option Nat} {L:List Nat} {f:Nat} {o:Nat ⊕ Sb} {es:List tL} {v6:Value} {e2 e3 e4:Nat}(hC:Lt b mv mu mk w0 G D V U wr)(qN:Ha (Jl G L) L (λp=>p) .mt es f o)(sN:∀q∈es,q.d=false)(hle:es.length=i)
  (hm:mu≠mk)(a1:ar w6 b 85 #[v6,.map (some mv),.map (some mu),.map (some mk),.int .i64 0])(a2:w6.ownsRow w0.heap.size 78 3 v6 es.reverse.length (g_ es.reverse))(a6:b_ (λg=>g=b) wr w6)(hB:Na e2 e3 e4 b w6)(hb:Below w.heap.size w w6):J5 b mu mk w0.heap.size (Jl G L) L U (.map (some mv)) i L.length o e2 e3 e4 w (Jh f es) [] es.reverse w6:=by
 have hk:∀(g:Nat) (x:Obj),wr.heap[g]?=some x->(∀cs,x≠.cells cs 85 (0,0))->w6.heap[g]?=wr.heap[g]?:=λg x hg hx=>a6.block g (BV.1 hg).1 (λe=>by
  have e:g=b:=e;have hs:wr.heap[b]?=_:=hC.sb;rw[e,hs]at hg;injection hg with hg;exact hx _ hg.symm)
 have hc:∀(g:Nat) (cs:Array Value) (t:TypeId),wr.heap[g]?=some (.cells cs t (0,0))->t≠85->w6.heap[g]?=wr.heap[g]?:=λg cs t hg ht=>hk g _ hg (λP' e=>by injection e with _ e;exact ht e);have cQ:∀ {κ:Type} [DecidableEq κ] {kv:κ->Value} {ok:World->κ->Prop} {m:Nat} {f:κ->Option Nat},d_ kv ok wr m f->w6.heap[m]?=wr.heap[m]?:=fun {κ} _ {kv ok m f} h=>by
  obtain⟨es,n,l,h1,_⟩:=h;exact hk m _ h1 (λ_ e=>by cases e)
 have bD:∀x,e_ wr x->e_ w6 x:=λx ⟨cs,hx⟩=>⟨cs,(hc x cs _ hx (by decide)).trans hx⟩;have hh:IY (λp=>p) L<=L.length:=D7 _ _;refine⟨λp=>p,.mt,f,0,D,v6,by rw[Cu,DU],by rw[Cu,DU];exact qN,by rw[Cu,DU];exact y_.start _ sN,by rw[Cu,DU];exact Fg.start _ sN (by omega),⟨a1,a2,⟨_,hC.kn.al (cQ hC.kn.mp) bD⟩,?_,d_.al hC.ES.mi (cQ hC.ES.mi) (λ_ h=>h),λn p hn=>?_,λq x hx=>?_,λq x hx=>?_,λq x hx=>?_,hm,?_⟩,Int.le_refl _,by omega,λp hp=>absurd rfl hp,hB,hb⟩
 ·intro q x hx
  obtain⟨_,hx⟩:=MY hx;obtain⟨A,c,hb,hr⟩:=hC.ES.pd q x hx;refine tR.al ⟨A,c,hb,hr⟩ (hc _ _ _ hb (by decide)) (λhn=>?_);obtain⟨_,cur,aa,_⟩:=hr hn;exact hc _ _ _ aa (by decide)
 ·exact bD p (hC.ES.pd p _ (hC.ES.un n p hn)).laid
 ·obtain⟨_,hx⟩:=MY hx
  rw[(hC.ES.dn q x hx).2.1];exact Int.le_refl _
 ·obtain⟨_,hx⟩:=MY hx
  exact(hC.ES.dn q x hx).1
 ·obtain⟨_,hx⟩:=MY hx
  exact(hC.ES.dn q x hx).2.2
 ·exact Cm hC.ch.size a6.size
attribute [local go_sem] Oper.semAt_some
theorem zjD(S:Nat->Prop)(ts:List (Ty × Ty))(A:Option Addr)(c:Nat)(w:World)(Fw:Hg S w ts A)(hS:∀g,S g->g<w.heap.size)(aw:∀t u,(t,u)∈ts->Nm t/\Nm u/\t.size<=2000000000000/\u.size<=2000000000000)(hn:ts.length<=1000)(hz:3*OJ ts+ts.length+1<=2000000000000)(zT:zql):Calls prog 14 #[.slice A ts.length c] w (Ib ts w):=by
 obtain⟨i0,bK,cj,bS,bC⟩:=Dx Lg;refine(callsIn_wide (n:=10)).1 ?_;refine callsIn_of_wp_marks func14 rfl trivial ?_ rfl;simp only[ntmps14,CY,Ca,CR,Nat.reduceAdd,Nat.reduceSub,Df,De,Dl,Dh,Cu,Co];refine wpIn_wide.2 ?_;obtain⟨n,qh⟩:∃n,ts.length=n:=⟨_,rfl⟩;have HZ:=EP hz;have aag:=EP zT;clear hz zT;rw[qh]at hn ⊢;obtain⟨l0,l1,aZ,aV⟩:=IC w (.cells #[.slice none 0 0] 28) (.cells #[.int .i64 0] 29);obtain⟨w2,dw⟩:∃W,(w.alloc (.cells #[.slice none 0 0] 28)).alloc (.cells #[.int .i64 0] 29)=W:=⟨_,rfl⟩;rw[dw]at l0 l1 aZ aV;have dJ:=EP (zrz w2);have xg:=EP dw;clear dw;go_wp2_with fail;rw[xg.o];refine dJ.o.mono ?_;rintro e w3 ⟨b,mv,mu,mk,rfl,n1,n2,n3,n4,n5,n6,n7,n8,n9,n10,n11,n12⟩;obtain⟨w0,si⟩:∃X,w3.alloc (.cells #[.pointer (some ⟨b,0,none⟩)] 72)=X:=⟨_,rfl⟩;have aB:Below w3.heap.size w3 w0:=by rw[<-si];exact(Cc _ w3).alloc (BU _) _
 have gI:w0.heap.size=w3.heap.size+1:=by rw[<-si];simp
 have zO:ar w0 w3.heap.size 72 #[.pointer (some ⟨b,0,none⟩)]:=by rw[<-si];exact BZ _ _
 have dy:=n8.size;have zi:∀(i:Nat) (t u:Ty),ts[i]?=some (t,u)->∃g At ct Au cu,A=some ⟨g,0,none⟩/\g<w.heap.size/\F7 w0 t At ct g (i*8)/\j_ S w0 t At/\F7 w0 u Au cu g (i*8+4)/\j_ S w0 u Au:=λi t u h=>by
  obtain⟨g,At,ct,Au,cu,h1,h2,h3,h4,h5,h6⟩:=Fw i t u h;have hk:∀z,z<w.heap.size->w0.heap[z]?=w.heap[z]?:=λz hz=>(aB.block z (by omega)).trans ((n8.block z (by omega)).trans (aV.block z hz));exact⟨g,At,ct,Au,cu,h1,h2,h3.al (hk g h2),h4.al (λ_ h=>h) (λz hz=>hk z (hS z hz)),h5.al (hk g h2),h6.al (λ_ h=>h) (λz hz=>hk z (hS z hz))⟩
 have hC0:Lt b mv mu mk w0 (λ_=>none) (λ_=>⟨.slice none 0 0,false,0,0⟩) (λ_=>none) (λ_=>none) w0 :=
  ⟨n1.below aB n1.lt,⟨d_.al n2 (aB.block _ (d_.lt n2)) (λ_ h=>h),d_.al n3 (aB.block _ (d_.lt n3)) (λ_ h=>h),(λp x h=>by cases h),(λx p h=>by cases h),(λn p h=>by cases h),(λp x h=>by cases h)⟩,(λx p h=>by cases h),
   n4.al (aB.block _ (d_.lt n4.mp)) (λx ⟨cs,hx⟩=>⟨cs,(aB.block x (BV.1 hx).1).trans hx⟩),b_.refl _ _,(λq x h=>by cases h)⟩
 have iP:=EP hC0;have YG:=EP zi;have eH:Hid (mv≠mu/\mk≠mv/\mk≠mu):=EP ⟨n5,Et n6,Et n7⟩;have BJ:=EP zO;have bQ:=EP aw;have HS:=EP hS;have xw:=EP qh;have jF:=EP si;have HN8:=EP n8;have cK:=EP aB;have cC:=EP aV;have fQ:=EP l0;have iq:=EP l1;have au:Hid (mv<w3.heap.size/\mu<w3.heap.size/\w2.heap.size<=mv/\w2.heap.size<=mu/\w2.heap.size<=mk/\w2.heap.size<=b/\b<w3.heap.size/\mk<w3.heap.size):=EP ⟨d_.lt n2,d_.lt n3,n9,n10,n11,n12,n1.lt,d_.lt n4.mp⟩;clear Fw hS aw n1 n2 n3 n4 n5 n6 n7 n8 n9 n10 n11 n12 zi hC0 zO qh si aB aV l0 l1;go_wp2_with fail;rw[jF.o];go_loopg [5,13] n (λgg v5 vi wr=>Rl b mv mu mk w0 ts n gg v5 vi wr)
 case atStart =>
  refine⟨0,[],[],_,_,_,_,rfl,rfl,Cw _,rfl,iP.o,?_,Dr,(λx hx=>by cases hx),CM _ _ _ _⟩;rw[CK,E9];exact⟨rfl,rfl⟩
 case round =>
  obtain⟨i,es,ns,G,D,V,U,rfl,rfl,hi,hle,hC,hq,eJ,af,ho⟩:=hrel;obtain⟨A5,c5,rfl⟩:=GS ho;have eC:=hC.ch;by_cases Fw:i<n
  ·obtain⟨⟨t,u⟩,Tm⟩:∃p,ts[i]?=some p:=⟨_,BY (by rw[xw.o];exact Fw)⟩
   obtain⟨g,At,ct,Au,cu,rfl,hg,bj,uT,cH,uS⟩:=YG.o i t u Tm;have zs:∀z,z<w.heap.size->wr.heap[z]?=w0.heap[z]?:=λz hz=>eC.block z (by omega) (λe=>by have:=au.o;have:=cC.o.size;omega);have wP:=bj.al (w':=wr) (zs g hg);have qo:=cH.al (w':=wr) (zs g hg);have e1:=uT.al (w':=wr) (S':=S) (λ_ h=>h) (λz hz=>zs z (HS.o z hz));have e2:=uS.al (w':=wr) (S':=S) (λ_ h=>h) (λz hz=>zs z (HS.o z hz));obtain⟨f0,f1,f2,f3⟩:=wP;obtain⟨f4,f5,f6,f7⟩:=qo;replace f5:wr.cell? ⟨g,i*8+5,none⟩=_:=f5;replace f6:wr.cell? ⟨g,i*8+6,none⟩=_:=f6;replace f7:wr.cell? ⟨g,i*8+7,none⟩=_:=f7;have dA:ar wr w3.heap.size 72 #[.pointer (some ⟨b,0,none⟩)]:=BJ.o.iF eC (λe=>by have:=au.o;omega);have b4:wr.cell? ⟨w3.heap.size,0,none⟩=some (.pointer (some ⟨b,0,none⟩)):=dA.cell 0;have l4:=dA.lt;have bP:i<n:=Fw;go_upto_region 6 with fail
   have rS:=bQ.o t u (CG Tm);obtain⟨W7,TI⟩:∃X,wr.alloc (.cells #[.int .i64 (kd t:Nat),.string (ER t),.int .i64 (nn t:Nat),.slice At (kids t).length ct,.int .i64 (kd u:Nat),.string (ER u),.int .i64 (nn u:Nat),.slice Au (kids u).length cu] 52)=X:=⟨_,rfl⟩;have fk:Below wr.heap.size wr W7:=by rw[<-TI];exact(Cc _ wr).alloc (BU _) _
   have kS:Below wr.heap.size wr W7.drew:=⟨fk.os,fk.tape,fk.output,fk.size,fk.block⟩;have jL:W7.heap.size=wr.heap.size+1:=by rw[<-TI];simp
   have mU:ar W7.drew w3.heap.size 72 #[.pointer (some ⟨b,0,none⟩)]:=dA.below kS l4;have mD:ar W7.drew wr.heap.size 52 #[.int .i64 (kd t:Nat),.string (ER t),.int .i64 (nn t:Nat),.slice At (kids t).length ct,.int .i64 (kd u:Nat),.string (ER u),.int .i64 (nn u:Nat),.slice Au (kids u).length cu]:=by
    rw[<-TI];exact BZ _ _
   have y0:W7.drew.cell? ⟨wr.heap.size,0,none⟩=some (.int .i64 (kd t:Nat)):=mD.cell 0;have y1:W7.drew.cell? ⟨wr.heap.size,1,none⟩=some (.string (ER t)):=mD.cell 1;have y2:W7.drew.cell? ⟨wr.heap.size,2,none⟩=some (.int .i64 (nn t:Nat)):=mD.cell 2;have y3:W7.drew.cell? ⟨wr.heap.size,3,none⟩=some (.slice At (kids t).length ct):=mD.cell 3;have y4:W7.drew.cell? ⟨wr.heap.size,4,none⟩=some (.int .i64 (kd u:Nat)):=mD.cell 4;have y5:W7.drew.cell? ⟨wr.heap.size,5,none⟩=some (.string (ER u)):=mD.cell 5;have y6:W7.drew.cell? ⟨wr.heap.size,6,none⟩=some (.int .i64 (nn u:Nat)):=mD.cell 6;have y7:W7.drew.cell? ⟨wr.heap.size,7,none⟩=some (.slice Au (kids u).length cu):=mD.cell 7;have yl:wr.heap.size<W7.drew.heap.size:=mD.lt;have x4:W7.drew.cell? ⟨w3.heap.size,0,none⟩=some (.pointer (some ⟨b,0,none⟩)):=mU.cell 0;have xl:w3.heap.size<W7.drew.heap.size:=mU.lt;have hC7:=hC.al kS;have Xx:∀z,S z->z<W7.drew.heap.size/\z≠mv/\z≠mu:=λz hz=>by have h1:=HS.o z hz;have:=au.o;have:=cC.o.size;have:=eC.size;have:W7.drew.heap.size=wr.heap.size+1:=jL;omega
   have bm:nc S W7.drew t (.agg #[.int .i64 (kd t:Nat),.string (ER t),.int .i64 (nn t:Nat),.slice At (kids t).length ct]):=⟨At,ct,rfl,e1.al (λ_ h=>h) (λz hz=>kS.block z (by have:=HS.o z hz;have:=cC.o.size;have:=eC.size;omega))⟩;have cD:nc S W7.drew u (.agg #[.int .i64 (kd u:Nat),.string (ER u),.int .i64 (nn u:Nat),.slice Au (kids u).length cu]):=⟨Au,cu,rfl,e2.al (λ_ h=>h) (λz hz=>kS.block z (by have:=HS.o z hz;have:=cC.o.size;have:=eC.size;omega))⟩;have Y5:=hle;have fX:mv<wr.heap.size/\mu<wr.heap.size/\w3.heap.size≠mv/\w3.heap.size≠mu/\wr.heap.size≠mv/\wr.heap.size≠mu/\w0.heap.size<=wr.heap.size/\(∀k,w0.heap.size<=k->k≠mv/\k≠mu):=by
    have h1:=au.o;have h2:=eC.size;refine⟨by omega,by omega,by omega,by omega,by omega,by omega,h2,λk hk=>by omega⟩
   have ye:∀p w5,Ob b mv mu mk w0 G D V U W7.drew t p w5->Calls prog 33 #[.pointer (some ⟨b,0,none⟩),.agg #[.int .i64 (kd u:Nat),.string (ER u),.int .i64 (nn u:Nat),.slice Au (kids u).length cu]] w5 λe w6=>∃q,e=.returned (.pointer (some ⟨q,0,none⟩))/\w0.heap.size<=w6.heap.size /\
     Hid (∀j v,[Value.pointer (some ⟨p,0,none⟩),.pointer (some ⟨q,0,none⟩),.bool false][j]?=some v->(w6.alloc (.cells #[.pointer (some ⟨p,0,none⟩),.pointer (some ⟨q,0,none⟩),.bool false] 78)).cell? ((⟨w6.heap.size,0,none⟩:Addr).add j)=some v) /\
     Hid ((w6.alloc (.cells #[.pointer (some ⟨p,0,none⟩),.pointer (some ⟨q,0,none⟩),.bool false] 78)).ownsRow w0.heap.size 78 3 (.slice A5 i c5) i (g_ es))/\Hid (Rk b mv mu mk w0 G D V U W7.drew t u p q w6)/\Hid (w6.cell? ⟨w3.heap.size,0,none⟩=some (.pointer (some ⟨b,0,none⟩))/\w6.cell? ⟨wr.heap.size,0,none⟩=some (.int .i64 (kd t:Nat))/\w6.cell? ⟨wr.heap.size,1,none⟩=some (.string (ER t))/\w6.cell? ⟨wr.heap.size,2,none⟩=some (.int .i64 (nn t:Nat))/\w6.cell? ⟨wr.heap.size,3,none⟩=some (.slice At (kids t).length ct)/\w6.cell? ⟨wr.heap.size,4,none⟩=some (.int .i64 (kd u:Nat))/\w6.cell? ⟨wr.heap.size,5,none⟩=some (.string (ER u))/\w6.cell? ⟨wr.heap.size,6,none⟩=some (.int .i64 (nn u:Nat))/\w6.cell? ⟨wr.heap.size,7,none⟩=some (.slice Au (kids u).length cu))/\Hid ((w6.alloc (.cells #[.pointer (some ⟨p,0,none⟩),.pointer (some ⟨q,0,none⟩),.bool false] 78)).cell? ⟨w3.heap.size,0,none⟩=some (.pointer (some ⟨b,0,none⟩))/\(w6.alloc (.cells #[.pointer (some ⟨p,0,none⟩),.pointer (some ⟨q,0,none⟩),.bool false] 78)).cell? ⟨wr.heap.size,0,none⟩=some (.int .i64 (kd t:Nat))/\(w6.alloc (.cells #[.pointer (some ⟨p,0,none⟩),.pointer (some ⟨q,0,none⟩),.bool false] 78)).cell? ⟨wr.heap.size,1,none⟩=some (.string (ER t))/\(w6.alloc (.cells #[.pointer (some ⟨p,0,none⟩),.pointer (some ⟨q,0,none⟩),.bool false] 78)).cell? ⟨wr.heap.size,2,none⟩=some (.int .i64 (nn t:Nat))/\(w6.alloc (.cells #[.pointer (some ⟨p,0,none⟩),.pointer (some ⟨q,0,none⟩),.bool false] 78)).cell? ⟨wr.heap.size,3,none⟩=some (.slice At (kids t).length ct)/\(w6.alloc (.cells #[.pointer (some ⟨p,0,none⟩),.pointer (some ⟨q,0,none⟩),.bool false] 78)).cell? ⟨wr.heap.size,4,none⟩=some (.int .i64 (kd u:Nat))/\(w6.alloc (.cells #[.pointer (some ⟨p,0,none⟩),.pointer (some ⟨q,0,none⟩),.bool false] 78)).cell? ⟨wr.heap.size,5,none⟩=some (.string (ER u))/\(w6.alloc (.cells #[.pointer (some ⟨p,0,none⟩),.pointer (some ⟨q,0,none⟩),.bool false] 78)).cell? ⟨wr.heap.size,6,none⟩=some (.int .i64 (nn u:Nat))/\(w6.alloc (.cells #[.pointer (some ⟨p,0,none⟩),.pointer (some ⟨q,0,none⟩),.bool false] 78)).cell? ⟨wr.heap.size,7,none⟩=some (.slice Au (kids u).length cu))/\Hid (∀w9,(w6.alloc (.cells #[.pointer (some ⟨p,0,none⟩),.pointer (some ⟨q,0,none⟩),.bool false] 78)).grownBy w9 (Value.slice A5 i c5).ownBlock->w9.cell? ⟨w3.heap.size,0,none⟩=some (.pointer (some ⟨b,0,none⟩))/\w9.cell? ⟨wr.heap.size,0,none⟩=some (.int .i64 (kd t:Nat))/\w9.cell? ⟨wr.heap.size,1,none⟩=some (.string (ER t))/\w9.cell? ⟨wr.heap.size,2,none⟩=some (.int .i64 (nn t:Nat))/\w9.cell? ⟨wr.heap.size,3,none⟩=some (.slice At (kids t).length ct)/\w9.cell? ⟨wr.heap.size,4,none⟩=some (.int .i64 (kd u:Nat))/\w9.cell? ⟨wr.heap.size,5,none⟩=some (.string (ER u))/\w9.cell? ⟨wr.heap.size,6,none⟩=some (.int .i64 (nn u:Nat))/\w9.cell? ⟨wr.heap.size,7,none⟩=some (.slice Au (kids u).length cu)):=λp w5 h5=>by
    refine(Ob.next eH.o h5 rS.2.2.2 cD Xx rS.2.1).mono ?_;rintro e w6 ⟨q,rfl,h6⟩;have qt:b_ (λg=>g=mv\/g=mu) W7.drew w6:=by obtain⟨_,_,_,_,_,_,_,_,_,_,_,_,h⟩:=h6;exact h
    have oQ:=qt.size;have qS:=mD.iF qt (λh=>by rcases h with h|h;exact fX.2.2.2.2.1 h;exact fX.2.2.2.2.2.1 h);have hx6:=mU.iF qt (λh=>by rcases h with h|h;exact fX.2.2.1 h;exact fX.2.2.2.1 h);have iB:=qS.alloc (.cells #[.pointer (some ⟨p,0,none⟩),.pointer (some ⟨q,0,none⟩),.bool false] 78);have xO:=hx6.alloc (.cells #[.pointer (some ⟨p,0,none⟩),.pointer (some ⟨q,0,none⟩),.bool false] 78);have h7s:W7.drew.heap.size=wr.heap.size+1:=jL;refine⟨q,rfl,by have:=fX.2.2.2.2.2.2.1;omega,EP (Iz _ _ _ _ (by simp)),EP ((GF ho (λk hk=>(qt.block k (by have h1:=(s_ ho k hk).2.1;omega) (λh=>by
     have h1:=fX.2.2.2.2.2.2.2 k (s_ ho k hk).1;rcases h with h|h
     ·exact h1.1 h
     ·exact h1.2 h)).trans (kS.block k (s_ ho k hk).2.1))).alloc _),EP h6,EP ⟨hx6.cell 0,qS.cell 0,qS.cell 1,qS.cell 2,qS.cell 3,qS.cell 4,qS.cell 5,qS.cell 6,qS.cell 7⟩,EP ⟨xO.cell 0,iB.cell 0,iB.cell 1,iB.cell 2,iB.cell 3,iB.cell 4,iB.cell 5,iB.cell 6,iB.cell 7⟩,EP λw9 hg9=>?_⟩
    have sv:=iB.grown hg9 (λe=>by have:=(s_ ho _ e.symm).2.1;omega);have hx9:=xO.grown hg9 (λe=>by have:=(s_ ho _ e.symm).1;omega);exact⟨hx9.cell 0,sv.cell 0,sv.cell 1,sv.cell 2,sv.cell 3,sv.cell 4,sv.cell 5,sv.cell 6,sv.cell 7⟩
   have zv:Calls prog 33 #[.pointer (some ⟨b,0,none⟩),.agg #[.int .i64 (kd t:Nat),.string (ER t),.int .i64 (nn t:Nat),.slice At (kids t).length ct]] W7.drew λe w5=>∃p,e=.returned (.pointer (some ⟨p,0,none⟩))/\Hid (w5.cell? ⟨w3.heap.size,0,none⟩=some (.pointer (some ⟨b,0,none⟩))/\w5.cell? ⟨wr.heap.size,0,none⟩=some (.int .i64 (kd t:Nat))/\w5.cell? ⟨wr.heap.size,1,none⟩=some (.string (ER t))/\w5.cell? ⟨wr.heap.size,2,none⟩=some (.int .i64 (nn t:Nat))/\w5.cell? ⟨wr.heap.size,3,none⟩=some (.slice At (kids t).length ct)/\w5.cell? ⟨wr.heap.size,4,none⟩=some (.int .i64 (kd u:Nat))/\w5.cell? ⟨wr.heap.size,5,none⟩=some (.string (ER u))/\w5.cell? ⟨wr.heap.size,6,none⟩=some (.int .i64 (nn u:Nat))/\w5.cell? ⟨wr.heap.size,7,none⟩=some (.slice Au (kids u).length cu))/\wr.heap.size<w5.heap.size/\w3.heap.size<w5.heap.size /\
     Hid (Calls prog 33 #[.pointer (some ⟨b,0,none⟩),.agg #[.int .i64 (kd u:Nat),.string (ER u),.int .i64 (nn u:Nat),.slice Au (kids u).length cu]] w5 λe w6=>∃q,e=.returned (.pointer (some ⟨q,0,none⟩))/\w0.heap.size<=w6.heap.size /\
     Hid (∀j v,[Value.pointer (some ⟨p,0,none⟩),.pointer (some ⟨q,0,none⟩),.bool false][j]?=some v->(w6.alloc (.cells #[.pointer (some ⟨p,0,none⟩),.pointer (some ⟨q,0,none⟩),.bool false] 78)).cell? ((⟨w6.heap.size,0,none⟩:Addr).add j)=some v) /\
     Hid ((w6.alloc (.cells #[.pointer (some ⟨p,0,none⟩),.pointer (some ⟨q,0,none⟩),.bool false] 78)).ownsRow w0.heap.size 78 3 (.slice A5 i c5) i (g_ es))/\Hid (Rk b mv mu mk w0 G D V U W7.drew t u p q w6)/\Hid (w6.cell? ⟨w3.heap.size,0,none⟩=some (.pointer (some ⟨b,0,none⟩))/\w6.cell? ⟨wr.heap.size,0,none⟩=some (.int .i64 (kd t:Nat))/\w6.cell? ⟨wr.heap.size,1,none⟩=some (.string (ER t))/\w6.cell? ⟨wr.heap.size,2,none⟩=some (.int .i64 (nn t:Nat))/\w6.cell? ⟨wr.heap.size,3,none⟩=some (.slice At (kids t).length ct)/\w6.cell? ⟨wr.heap.size,4,none⟩=some (.int .i64 (kd u:Nat))/\w6.cell? ⟨wr.heap.size,5,none⟩=some (.string (ER u))/\w6.cell? ⟨wr.heap.size,6,none⟩=some (.int .i64 (nn u:Nat))/\w6.cell? ⟨wr.heap.size,7,none⟩=some (.slice Au (kids u).length cu))/\Hid ((w6.alloc (.cells #[.pointer (some ⟨p,0,none⟩),.pointer (some ⟨q,0,none⟩),.bool false] 78)).cell? ⟨w3.heap.size,0,none⟩=some (.pointer (some ⟨b,0,none⟩))/\(w6.alloc (.cells #[.pointer (some ⟨p,0,none⟩),.pointer (some ⟨q,0,none⟩),.bool false] 78)).cell? ⟨wr.heap.size,0,none⟩=some (.int .i64 (kd t:Nat))/\(w6.alloc (.cells #[.pointer (some ⟨p,0,none⟩),.pointer (some ⟨q,0,none⟩),.bool false] 78)).cell? ⟨wr.heap.size,1,none⟩=some (.string (ER t))/\(w6.alloc (.cells #[.pointer (some ⟨p,0,none⟩),.pointer (some ⟨q,0,none⟩),.bool false] 78)).cell? ⟨wr.heap.size,2,none⟩=some (.int .i64 (nn t:Nat))/\(w6.alloc (.cells #[.pointer (some ⟨p,0,none⟩),.pointer (some ⟨q,0,none⟩),.bool false] 78)).cell? ⟨wr.heap.size,3,none⟩=some (.slice At (kids t).length ct)/\(w6.alloc (.cells #[.pointer (some ⟨p,0,none⟩),.pointer (some ⟨q,0,none⟩),.bool false] 78)).cell? ⟨wr.heap.size,4,none⟩=some (.int .i64 (kd u:Nat))/\(w6.alloc (.cells #[.pointer (some ⟨p,0,none⟩),.pointer (some ⟨q,0,none⟩),.bool false] 78)).cell? ⟨wr.heap.size,5,none⟩=some (.string (ER u))/\(w6.alloc (.cells #[.pointer (some ⟨p,0,none⟩),.pointer (some ⟨q,0,none⟩),.bool false] 78)).cell? ⟨wr.heap.size,6,none⟩=some (.int .i64 (nn u:Nat))/\(w6.alloc (.cells #[.pointer (some ⟨p,0,none⟩),.pointer (some ⟨q,0,none⟩),.bool false] 78)).cell? ⟨wr.heap.size,7,none⟩=some (.slice Au (kids u).length cu))/\Hid (∀w9,(w6.alloc (.cells #[.pointer (some ⟨p,0,none⟩),.pointer (some ⟨q,0,none⟩),.bool false] 78)).grownBy w9 (Value.slice A5 i c5).ownBlock->w9.cell? ⟨w3.heap.size,0,none⟩=some (.pointer (some ⟨b,0,none⟩))/\w9.cell? ⟨wr.heap.size,0,none⟩=some (.int .i64 (kd t:Nat))/\w9.cell? ⟨wr.heap.size,1,none⟩=some (.string (ER t))/\w9.cell? ⟨wr.heap.size,2,none⟩=some (.int .i64 (nn t:Nat))/\w9.cell? ⟨wr.heap.size,3,none⟩=some (.slice At (kids t).length ct)/\w9.cell? ⟨wr.heap.size,4,none⟩=some (.int .i64 (kd u:Nat))/\w9.cell? ⟨wr.heap.size,5,none⟩=some (.string (ER u))/\w9.cell? ⟨wr.heap.size,6,none⟩=some (.int .i64 (nn u:Nat))/\w9.cell? ⟨wr.heap.size,7,none⟩=some (.slice Au (kids u).length cu))):=by
    refine(zkN hC7 eH.o rS.2.2.1 bm Xx rS.1).mono ?_;rintro e w5 ⟨p,rfl,h5⟩;have bE:b_ (λg=>g=mv\/g=mu) W7.drew w5:=by obtain⟨_,_,_,_,_,_,_,_,_,_,h⟩:=h5;exact h
    have mE:=mD.iF bE (λh=>by rcases h with h|h;exact fX.2.2.2.2.1 h;exact fX.2.2.2.2.2.1 h);have ix:=mU.iF bE (λh=>by rcases h with h|h;exact fX.2.2.1 h;exact fX.2.2.2.1 h);exact⟨p,rfl,EP ⟨ix.cell 0,mE.cell 0,mE.cell 1,mE.cell 2,mE.cell 3,mE.cell 4,mE.cell 5,mE.cell 6,mE.cell 7⟩,mE.lt,ix.lt,EP (ye p w5 h5)⟩
   have S0:Hid (W7.drew.cell? ⟨w3.heap.size,0,none⟩=some (.pointer (some ⟨b,0,none⟩))/\W7.drew.cell? ⟨wr.heap.size,0,none⟩=some (.int .i64 (kd t:Nat))/\W7.drew.cell? ⟨wr.heap.size,1,none⟩=some (.string (ER t))/\W7.drew.cell? ⟨wr.heap.size,2,none⟩=some (.int .i64 (nn t:Nat))/\W7.drew.cell? ⟨wr.heap.size,3,none⟩=some (.slice At (kids t).length ct)/\W7.drew.cell? ⟨wr.heap.size,4,none⟩=some (.int .i64 (kd u:Nat))/\W7.drew.cell? ⟨wr.heap.size,5,none⟩=some (.string (ER u))/\W7.drew.cell? ⟨wr.heap.size,6,none⟩=some (.int .i64 (nn u:Nat))/\W7.drew.cell? ⟨wr.heap.size,7,none⟩=some (.slice Au (kids u).length cu)):=EP ⟨x4,y0,y1,y2,y3,y4,y5,y6,y7⟩;have ak:=EP zv;have HC:=EP hC;have HQ:=EP hq;have Ys:=EP eJ;have Z7:=EP af;have HO:=EP ho;have HB7:=EP kS;have HQ7:=EP mD;have ar9:=EP mU;have p8:=EP eC;have X9:=EP TI;have HTU:=EP Tm;have xo:Hid (W7.drew.heap.size=wr.heap.size+1):=EP jL;have vJ:=EP hle;clear x4 y0 y1 y2 y3 y4 y5 y6 y7 f0 f1 f2 f3 f4 f5 f6 f7;clear hC hq eJ af fk kS mD mU eC hC7 Xx bm cD Tm jL hle dA zs Y5 fX ye zv bj cH uT uS e1 e2 ho;rw[X9.o];refine wp_region_noPanic ?_;go_region_held3 (λW:World=>W.cell? ⟨w3.heap.size,0,none⟩=some (.pointer (some ⟨b,0,none⟩))/\W.cell? ⟨wr.heap.size,0,none⟩=some (.int .i64 (kd t:Nat))/\W.cell? ⟨wr.heap.size,1,none⟩=some (.string (ER t))/\W.cell? ⟨wr.heap.size,2,none⟩=some (.int .i64 (nn t:Nat))/\W.cell? ⟨wr.heap.size,3,none⟩=some (.slice At (kids t).length ct)/\W.cell? ⟨wr.heap.size,4,none⟩=some (.int .i64 (kd u:Nat))/\W.cell? ⟨wr.heap.size,5,none⟩=some (.string (ER u))/\W.cell? ⟨wr.heap.size,6,none⟩=some (.int .i64 (nn u:Nat))/\W.cell? ⟨wr.heap.size,7,none⟩=some (.slice Au (kids u).length cu)) (first|(with_reducible exact S0.o)|(with_reducible exact S5.o)|(with_reducible exact S6.o)|(with_reducible exact S6a.o)|(with_reducible exact SG6.o _ nD.o))
    ((first
     |((with_reducible refine ak.o.mono ?_);rintro e w5 ⟨p,rfl,S5,zl,zm,ei⟩)
     |((with_reducible refine ei.o.mono ?_);rintro e w6 ⟨q,rfl,oQ,ti,pN,H6,S6,S6a,SG6⟩)
     |(refine step_append_lies _ (by rfl) _ _ _ (by rfl) w0.heap.size 78 i0 _ 3 24 underlying74 bK cj bS bC rfl (by decide) _ i (g_ es) (by rfl) pN.o ⟨w6.heap.size,0,none⟩ 1 1 [.pointer (some ⟨p,0,none⟩),.pointer (some ⟨q,0,none⟩),.bool false] rfl rfl ti.o (by intro v hv;simp at hv;rcases hv with rfl|rfl|rfl <;> rfl) (by omega) (by unfold maxLen;omega) (by omega) (by first|omega|(simp;done)|(simp;omega)) _ rfl ?_;intro g9 c9 w9 dm ae bz uq;have rR:=EP dm;have nD:=EP ae;have HA9:=EP bz;clear dm ae bz)))
   have HF:Hid (Rl b mv mu mk w0 ts n (n-(i+1)) (.slice (some ⟨g9,0,none⟩) (i+1) c9) (.int .i64 ((i+1:Nat):Nat)) w9):=EP (by
    refine Rl.next Fw HTU.o vJ.o HC.o HQ.o Ys.o Z7.o HB7.o H6.o (λk hk=>?_) nD.o ?_
    ·obtain⟨h1,h2,_⟩:=s_ HO.o k hk
     obtain⟨_,_,cur,aa⟩:=s_ pN.o k hk;have h4:wr.heap.size<=w6.heap.size:=by
      obtain⟨_,_,_,_,_,_,_,_,_,_,_,_,h⟩:=H6.o;have:=h.size;have:=xo.o;omega
     exact⟨h1,cur,(BX _ _ _ (by omega)).symm.trans aa⟩
    ·rw[PZ];exact rR.o)
   clear S0 S5 S6 S6a SG6 rR nD HA9 ti pN H6 ak ei zl zm;refine NoPanic.normal ?_;go_wp2_with fail;go_roundg (n-(i+1))
   case measure=>omega
   case rel=>exact HF.o
  ·have eB:i=n:=by omega
   subst eB;have ft:ts.take i=ts:=Cq (by rw[xw.o];exact BU _);rw[ft]at hq;obtain⟨L,f,o,hwg,wJ,sN,hLn,j9,xT,qN⟩:=hq.sim hC.ES.un hC.vf eJ;have hA:∀(j:Nat) (q:tL),es[j]?=some q->∃g,A5=some ⟨g,0,none⟩/\g<wr.heap.size/\g≠b/\(Value.slice none 0 0).ownBlock≠some g/\wr.cell? ⟨g,j*3,none⟩=some (.pointer (some ⟨q.l,0,none⟩))/\wr.cell? ⟨g,j*3+1,none⟩=some (.pointer (some ⟨q.r,0,none⟩))/\wr.cell? ⟨g,j*3+2,none⟩=some (.bool q.d):=λj q hj=>by
    have kI:j<es.length:=(Cj.1 hj).1;have eW:=ho;rcases ho.2 with⟨_,h0⟩|⟨g,cap,cur,hv,h1,h2,_⟩
    ·omega
    ·injection hv with e1 _ _
     subst e1;obtain⟨g1,g2,g3⟩:=RV eW;exact⟨g,rfl,g2,ar.Gw (show ar wr g _ cur from h2) hC.sb (by decide),by simp[Value.ownBlock],g3 j q hj⟩
   have bV:=U4 b w0.heap.size 85 #[.slice none 0 0,.map (some mv),.map (some mu),.map (some mk),.int .i64 0] (by simp) [] es (.slice none 0 0) A5 c5 wr hC.sb (CM _ _ _ _) eC.size (by simp[Value.ownBlock]) (by simp;omega) hA;rw[hle]at bV;have dA:ar wr w3.heap.size 72 #[.pointer (some ⟨b,0,none⟩)]:=BJ.o.iF eC (λe=>by have:=au.o;omega);have b4:wr.cell? ⟨w3.heap.size,0,none⟩=some (.pointer (some ⟨b,0,none⟩)):=dA.cell 0;have l4:=dA.lt;have ed:=EP bV;have HC:=EP hC;have iQ:=EP dA;clear bV hA hC dA;have lb:b<wr.heap.size:=HC.o.sb.lt;go_wp2_with fail;refine ed.o.mono ?_;rintro e w6 ⟨⟨ve,rfl⟩,v6,a1,a2,-,-,-,a6⟩;have x4:w6.cell? ⟨w3.heap.size,0,none⟩=some (.pointer (some ⟨b,0,none⟩)):=(iQ.o.iF a6 (λh=>by rcases h with h|h;have:=au.o;omega;cases h)).cell 0;have xl:=(iQ.o.iF a6 (λh=>by rcases h with h|h;have:=au.o;omega;cases h)).lt;have xb:b<w6.heap.size:=Ci lb a6.size;go_wp2_with fail;refine(wpIn_wide (n:=10)).1 ?_;have Zf:=eC.size;have mA:w.heap.size<=w0.heap.size:=by have:=cC.o.size;omega
   have uN:Below w.heap.size w w6:=by
    refine(cC.o.trans (HN8.o.mono (by omega))).trans ((cK.o.mono (by omega)).trans ((eC.toBelow mA (λk hk h=>?_)).trans (a6.toBelow (by omega) (λk hk h=>?_))))
    ·have:=au.o;rcases h with h|h <;> omega
    ·have:=au.o
     rcases h with h|h
     ·omega
     ·cases h
   have dA:∀(g:Nat) (cs:Array Value) (t:TypeId),ar w2 g t cs->ar w6 g t cs:=λg cs t hg=>by
    have hl:=hg.lt;have h0:ar w0 g t cs:=(hg.below HN8.o hl).below cK.o (by omega);refine(h0.iF eC (λh=>?_)).iF a6 (λh=>?_)
    ·have:=au.o;rcases h with h|h <;> omega
    ·have:=au.o
     rcases h with h|h
     ·omega
     ·cases h
   have wv:Na w.heap.size (w.heap.size+1) w3.heap.size b w6:=⟨dA _ _ _ fQ.o,dA _ _ _ iq.o,iQ.o.iF a6 (λh=>by rcases h with h|h;have:=au.o;omega;cases h)⟩;have hlen:=znx (G:=Jl G L) L (λq hq=>by obtain⟨x,hx⟩:=hLn q hq;exact⟨x,by rw[UU hq];exact hx⟩);have sZ:=J5.start (w:=w) HC.o qN (λq hq=>(sN q hq).1) hle (Et eH.o.2.2) a1 (by simpa using a2) (a6.mono (λk _ h=>by rcases h with h|h;exact h;cases h)) wv uN;have mw:1+i+wg (Jl G L) [] L<=2000000000000:=by have:=HZ.o;have:=xw.o;omega
   have Xz:L.length<=2000000000000:=by omega
   have eP:∀n p,U n=some p->Jl G L p=some ⟨2,⟨#[]⟩,n,[],none,false⟩\/p∉L:=λn p ua=>by
    by_cases hp:p∈L
    ·exact .inl (by rw[UU hp];exact HC.o.ES.un n p ua)
    ·exact .inr hp
   have kA:∀q x,Jl G L q=some x->w.heap.size<=q:=λq x hx=>by have:=HC.o.lo q x (MY hx).2;omega
   obtain⟨G1,lX⟩:∃X,Jl G L=X:=⟨_,rfl⟩;have qV:∀p,p∉L->G1 p=none:=λp hp=>by rw[<-lX];unfold Jl;rw[Cg hp]
   rw[lX]at wJ sZ mw eP kA;have Zt:w.heap.size<=b:=by have:=au.o;omega
   have arO:w.heap.size<=mk:=by have:=au.o;omega
   have H0:=EP sZ;have Uu:=EP wJ;have nj:=EP mw;have Yu:=EP Xz;have aab:=EP eP;have iN:=EP kA;have ZZ:=EP qV;have ZY:=EP j9;have vt:=EP xT;have la:Hid (w.heap.size<=w6.heap.size):=EP uN.size;have tc:Hid (w.heap.size+2<=w6.heap.size):=EP (by have h1:=a6.size;have h2:=eC.size;omega);have Yy:Hid (b<w6.heap.size/\mk<w6.heap.size):=EP ⟨xb,by have:=au.o;have:=a6.size;omega⟩;obtain⟨E4,hE4⟩:∃n,w3.heap.size=n:=⟨_,rfl⟩;obtain⟨B0,hB0⟩:∃n,w0.heap.size=n:=⟨_,rfl⟩;rw[hE4]at H0 ⊢;rw[hB0]at H0;have cK:Hid (w.heap.size<=B0):=EP (by omega);clear hq eJ af ho eC qN sN hLn j9 xT wJ mw Xz eP kA qV sZ wv dA uN hlen hwg a1 a2 a6 Zf mA x4 xl xb l4 b4 lb gI dy ed HC iQ hE4 hB0;refine P5 (σ:=Nat × tL × List tL) rfl (by omega) (gf:=35) (fb:=#[.pointer (some ⟨b,0,none⟩)]) (lb:=#[]) rfl trivial (enters_of func35 (by kernel_rfl) rfl)
    (λx=>#[.agg #[.pointer (some ⟨x.2.1.l,0,none⟩),.pointer (some ⟨x.2.1.r,0,none⟩),.bool x.2.1.d]]) (λ_=>rfl)
    (λx W=>J5 b mu mk B0 G1 L U (.map (some mv)) i L.length o w.heap.size (w.heap.size+1) E4 w x.1 [x.2.1] x.2.2 W)
    (λx W=>∃N' l',N'<x.1/\J5 b mu mk B0 G1 L U (.map (some mv)) i L.length o w.heap.size (w.heap.size+1) E4 w N' [] l' W)
    (λx a₁ W=>∃x8,ar W x8 78 #[.pointer (some ⟨x.2.1.l,0,none⟩),.pointer (some ⟨x.2.1.r,0,none⟩),.bool x.2.1.d]/\J5 b mu mk B0 G1 L U (.map (some mv)) i L.length o w.heap.size (w.heap.size+1) E4 w x.1 [x.2.1] x.2.2 W/\a₁ = { tmps:=#[Value.slice A i c,undef,Value.pointer (some ⟨w.heap.size,0,none⟩),
     Value.pointer (some ⟨w.heap.size+1,0,none⟩),Value.pointer (some ⟨E4,0,none⟩),Value.slice A5 i c5,undef,u7,Value.pointer (some ⟨x8,0,none⟩),undef,
     Value.pointer (some ⟨b,0,none⟩),Value.slice A i c,Value.int IntKind.i64 (i:Nat),Value.int IntKind.i64 (i:Nat),Value.bool false,u15,u16,u17,u18,u19,u20,u21,u22,u23,u24,u25,u26,u27,
     u28,u29,Value.pointer (some ⟨b,0,none⟩),Value.pointer (some ⟨b,0,none⟩),Value.pointer (some ⟨b,0,none⟩),Value.slice A5 i c5,ve,Value.pointer (some ⟨b,0,none⟩),Value.pointer (some ⟨b,0,none⟩),
     Value.pointer (some ⟨b,0,none⟩),Value.func (Fn.func 35) #[Value.pointer (some ⟨b,0,none⟩)] #[],Value.agg #[.pointer (some ⟨x.2.1.l,0,none⟩),.pointer (some ⟨x.2.1.r,0,none⟩),.bool x.2.1.d],undef,undef,undef,undef,undef,undef,undef,undef],defers:=[] })
    (λW=>∃N,J5 b mu mk B0 G1 L U (.map (some mv)) i L.length o w.heap.size (w.heap.size+1) E4 w N [] [] W)
    (λcd W=>cd=.ret/\∃m:Nat,o=.inl m/\m≠0/\ar W w.heap.size 28 #[.slice none 0 0]/\ar W (w.heap.size+1) 29 #[.int .i64 (m:Nat)]/\Below w.heap.size w W)
    ?ax ?jn ?jd ?js ?assign ?body ?iter ?done ?stop
   case ax =>
    rintro x a₁ W r r' ⟨x8,jb,hu,ha⟩ hl;exact⟨x8,jb.same (Lo hl x8 ⟨_,_,jb⟩),hu.KY (by have:=la.o;omega) hl (.inl ⟨_,rfl⟩),ha⟩
   case jn =>
    rintro x W r r' ⟨N',l',af,hu⟩ hl;exact⟨N',l',af,hu.KY (by have:=la.o;omega) hl (.inl ⟨_,rfl⟩)⟩
   case jd =>
    rintro W r r' ⟨N,hu⟩ hl;exact⟨N,hu.KY (by have:=la.o;omega) hl (.inl ⟨_,rfl⟩)⟩
   case js =>
    rintro cd W r r' ⟨hcd,m,h1,h2,h3,h4,h5⟩ hl;exact⟨hcd,m,h1,h2,h3.same (Lo hl _ ⟨_,_,h3⟩),h4.same (Lo hl _ ⟨_,_,h4⟩),h5.os,h5.tape,h5.output,by rw[Dq];exact h5.size,λg hg=>(CC (by have:=la.o;omega)).trans (h5.block g hg)⟩
   case assign =>
    intro r x W hj hl;have HJ:=EP hj;have gT:=EP hl;clear hj hl;gi_wp2;have hb:∀o,Below W.heap.size W (W.alloc o):=λo=>(Cc _ W).alloc (BU _) _;exact⟨gT.o.below (hb _),W.heap.size,BZ _ _,HJ.o.al (hb _),rfl⟩
   case iter =>
    intro rec W1 av aH cR hY;have yZ:=Yy.o.1;refine(znu Fence.wide (10-1) trivial rfl (by omega) (w6.heap.size+1) b (λN l W=>J5 b mu mk B0 G1 L U (.map (some mv)) i L.length o w.heap.size (w.heap.size+1) E4 w N [] l W/\i_ (rec .ready none) (w6.heap.size+1) w6.heap.size W)
     (λN x l W=>J5 b mu mk B0 G1 L U (.map (some mv)) i L.length o w.heap.size (w.heap.size+1) E4 w N [x] l W/\i_ (rec .ready none) (w6.heap.size+1) w6.heap.size W)
     (λW=>∃cd,(cd=.ret/\∃m:Nat,o=.inl m/\m≠0/\ar W w.heap.size 28 #[.slice none 0 0]/\ar W (w.heap.size+1) 29 #[.int .i64 (m:Nat)]/\Below w.heap.size w W)/\i_ (rec .done (some cd)) (w6.heap.size+1) w6.heap.size W) (λN l W h=>?_) (λN x l W h=>?_) W1 _ _ ⟨H0.o.al av,cR⟩).mono ?_
    ·obtain⟨A',c',h1,h2⟩:=h.1.EX nj.o Zt
     refine⟨A',c',h1,λx l' e=>⟨h2 x l' e,?_⟩⟩;exact(h.2.setCell ⟨b,0,none⟩ _ (by show b≠_;omega) (by show b≠_;omega)).below ((Cc _ _).alloc (BU _) _)
    ·refine(hY (N,x,l) W h.1 h.2).mono ?_
     intro e W' hs;rcases hs with⟨h1,⟨N',l',af,h2⟩,h3⟩|⟨h1,cd,h2,h3⟩
     ·exact .inl ⟨h1,N',l',af,h2,h3⟩
     ·exact .inr ⟨h1,cd,h2,h3⟩
    ·rintro e W' ⟨hv,⟨N,hj,hl⟩|⟨cd,hj,hl⟩⟩
     ·exact⟨hv,.inl ⟨⟨N,hj⟩,hl⟩⟩
     ·exact⟨hv,.inr ⟨cd,hj,hl⟩⟩
   case stop =>
    rintro cd W ⟨rfl,m,h1,h2,h3,h4,h5⟩ hD;have H1:=EP h1;have H3:=EP h3;have H4:=EP h4;have H5:=EP h5;have HD:=EP hD;clear h1 h3 h4 h5 hD;gi_wp2;refine⟨by simp,.inl ⟨_,_,rfl,run_takeDeferred HD.o,?_⟩⟩;have hle:=la.o;have k3:=H3.o.same (w':=W.putObj w6.heap.size (.deferred none)) (MM HD.o H3.o (by simp));have k4:=H4.o.same (w':=W.putObj w6.heap.size (.deferred none)) (MM HD.o H4.o (by simp));refine⟨_,zgV rfl _ _ w.heap.size (w.heap.size+1) _ _ _ _ _ _ rfl rfl k3 k4 underlying28 rfl underlying29 rfl,f,o,vt.o,?_,.inl ⟨m,H1.o,h2,rfl⟩⟩;exact⟨H5.o.os,H5.o.tape,H5.o.output,by rw[Dq];exact H5.o.size,λg hg=>(CC (by omega)).trans (H5.o.block g hg)⟩
   case body =>
    rintro r ⟨N,x,l⟩ a₁ W ⟨x8,jb,⟨hd,k,f',s,D,v,c1,c2,c3,c4,c5,c6,c7,AF,c8,c9⟩,rfl⟩ hl;have ou:=zpD b mu mk B0 G1 L U hd k s D _ v l x f' i L.length o W Uu.o c2 c3 c4 c5 c6 c7 Yu.o nj.o AF;have z4:W.cell? ⟨E4,0,none⟩=some (.pointer (some ⟨b,0,none⟩)):=c8.b4.cell 0;have l4:=c8.b4.lt;have y0:W.cell? ⟨x8,0,none⟩=some (.pointer (some ⟨x.l,0,none⟩)):=jb.cell 0;have y1:W.cell? ⟨x8,1,none⟩=some (.pointer (some ⟨x.r,0,none⟩)):=jb.cell 1;have y2:W.cell? ⟨x8,2,none⟩=some (.bool x.d):=jb.cell 2;have l8:=jb.lt;have vz:=EP ou;have C1:=EP c1;have C5:=EP c5;have C8:=EP c8;have C9:=EP c9;have gT:=EP hl;clear ou c1 c2 c3 c4 c5 c6 c7 AF c8 c9 hl jb;gi_wp2;refine⟨trivial,?_⟩;refine(CallsIn.inRound _ ((callsIn_wide (n:=_)).2 vz.o)).mono ?_;rintro e W1 ⟨r1,rfl,hq,hc⟩;have ai:∀(g:Nat) (z:Obj),W.heap[g]?=some z->(∀cs t,z=.cells cs t (0,0)->t≠85/\t≠132/\t≠78)->g≠mk->W1.heap[g]?=W.heap[g]?:=λg z hg ht hm=>hc.block g (BV.1 hg).1 (by
     rintro(e|e|⟨y,e⟩|e)
     ·exact hm e
     ·have hs:W.heap[b]?=_:=C5.o.sb
      rw[e,hs]at hg;injection hg with hg;exact(ht _ _ hg.symm).1 rfl
     ·obtain⟨A9,c9,cM,_⟩:=C5.o.pd g y e
      have hs:W.heap[g]?=_:=cM;rw[hs]at hg;injection hg with hg;exact(ht _ _ hg.symm).2.1 rfl
     ·obtain⟨_,_,cur,aa⟩:=s_ C5.o.own g e
      rw[aa]at hg;injection hg with hg;exact(ht _ _ hg.symm).2.2 rfl)
    have fY:=Yy.o.2;have kz:i_ r (w6.heap.size+1) w6.heap.size W1:=gT.o.al (ai _ _ gT.o.1 (λ_ _ e=>by cases e) (by omega)) (ai _ _ gT.o.2 (λ_ _ e=>by cases e) (by omega));have cT:Na w.heap.size (w.heap.size+1) E4 b W1:=C8.o.al (λg cs t hg t1 t2 t3=>ai g _ hg (λP' t' e=>by injection e with _ e;subst e;exact⟨t1,t2,t3⟩) (C5.o.no hg));have kR:Below w.heap.size w W1:=C9.o.trans (hc.toBelow C9.o.size (λg hg=>by
     rintro(e|e|⟨y,e⟩|e)
     ·omega
     ·omega
     ·have:=iN.o g y e;omega
     ·have:=(s_ C5.o.own g e).1;have:=cK.o;omega))
    clear ai;rcases hq with⟨rfl,wP,k1,f1,Y0,s1,D1,v1,d1,d2,d3,d4,d5,d6,d7,d8⟩|⟨yC,ho⟩
    ·have HF:Hid (∃N' l',N'<N/\J5 b mu mk B0 G1 L U (.map (some mv)) i L.length o w.heap.size (w.heap.size+1) E4 w N' [] l' W1):=EP ⟨_,Y0,(by have h:=C1.o;simp only[List.singleton_append]at h;rw[h];exact d1),wP,k1,f1,s1,D1,v1,rfl,d2,d3,d4,d5,d6,d7,d8,cT,kR⟩
     have iq:=EP kz;clear d1 d2 d3 d4 d5 d6 d7 d8 cT kR kz hc fY;gi_wp2;exact⟨HF.o,iq.o⟩
    ·obtain⟨m,rfl⟩:∃m:Nat,r1=(m:Int):=⟨r1.toNat,by omega⟩
     have e1:((m:Int) != 0)=true:=by rw[bne_iff_ne];omega
     have g2:W1.cell? ⟨w.heap.size,0,none⟩=some (.slice none 0 0):=cT.b2.cell 0;have g3:W1.cell? ⟨w.heap.size+1,0,none⟩=some (.int .i64 0):=cT.b3.cell 0;have q2:=cT.b2.frozen 0;have q3:=cT.b3.frozen 0;have m2:=cT.b2.lt;have m3:=cT.b3.lt;have AR:=EP cT;have fm:=EP kR;have iq:=EP kz;have HO:Hid (o=.inl m):=EP (by rw[ho];rfl);clear cT kR kz hc fY ho;gi_wp2;refine⟨⟨rfl,m,HO.o,by omega,?_,?_,?_⟩,?_⟩
     ·have kk:ar (W1.setCell ⟨w.heap.size,0,none⟩ (.slice none 0 0)) w.heap.size 28 #[.slice none 0 0]:=Cl W1 w.heap.size 0 _ _ _ AR.o.b2
      exact kk.same (B8 _ _ _ _ (by simp))
     ·exact Cl _ (w.heap.size+1) 0 _ _ _ (AR.o.b3.same (B8 _ _ _ _ (by simp)))
     ·exact(fm.o.setCell (p:=⟨w.heap.size,0,none⟩) (BU _) _).setCell (p:=⟨w.heap.size+1,0,none⟩) (by simp) _
     ·have h6:=la.o
      have h7:=tc.o;exact(iq.o.setCell ⟨w.heap.size,0,none⟩ _ (by show w.heap.size≠_;omega) (by show w.heap.size≠_;omega)).setCell ⟨w.heap.size+1,0,none⟩ _ (by show w.heap.size+1≠_;omega) (by show w.heap.size+1≠_;omega)
   case done =>
    rintro W ⟨N,hd,k,f',s,D,v,c1,c2,c3,c4,c5,c6,c7,AF,c8,c9⟩ hD;obtain⟨rfl,O,hS⟩:=Ha.nil (by simpa using c2);have gd:∀n,(¬ ∃z∈L,U n=some z)->k n=.mt n:=λn hn=>Sx (λn=>∃z∈L,U n=some z) f (Fy ts) .mt k vt.o J0 (λp hp m hm=>ZY.o m ⟨p,hp,by rw[ML,ML]at hm;exact hm⟩) n hn rfl;have hA:=aag.o b mu mk B0 G1 L U hd s D _ v k O W c5 hS Uu.o (λn p ua=>by
     rcases aab.o n p ua with h|h
     ·exact .inl h
     ·refine .inr ⟨El λe=>?_,gd n ?_⟩
      ·obtain⟨x,hx⟩:=AF p e
       rw[ZZ.o p h]at hx;cases hx
      ·rintro⟨z,hz,hu⟩
       rw[ua]at hu;injection hu with hu;exact h (hu▸hz)) (λn cA=>by
     apply Classical.byContradiction
     intro bN;exact cA (gd n λ⟨z,_,hz⟩=>bN ⟨z,hz⟩)) (by have:=nj.o;omega)
    have z4:W.cell? ⟨E4,0,none⟩=some (.pointer (some ⟨b,0,none⟩)):=c8.b4.cell 0;have l4:=c8.b4.lt;have HA:=EP hA;have C5:=EP c5;have C8:=EP c8;have C9:=EP c9;have HD:=EP hD;clear hA c1 c2 c3 c4 c5 c6 c7 AF c8 c9 hS hD gd;go_wp2_with fail;refine HA.o.mono ?_;rintro e W1 ⟨va,l,T,rfl,⟨vs,q1,q1r⟩,q2,q3,q4⟩;obtain⟨Av,cv,rfl⟩:=GS q1;have ai:∀(g:Nat) (z:Obj),W.heap[g]?=some z->(∀cs t,z=.cells cs t (0,0)->t≠132)->g≠mk->W1.heap[g]?=W.heap[g]?:=λg z hg ht hm=>q4.block g (BV.1 hg).1 (by
     rintro(e|⟨y,e⟩)
     ·exact hm e
     ·obtain⟨A9,c9,cM,_⟩:=C5.o.pd g y e
      have hs:W.heap[g]?=_:=cM;rw[hs]at hg;injection hg with hg;exact(ht _ _ hg.symm) rfl)
    have fY:=Yy.o.2;have cT:Na w.heap.size (w.heap.size+1) E4 b W1:=C8.o.al (λg cs t hg t1 t2 t3=>ai g _ hg (λP' t' e=>by injection e with _ e;subst e;exact t2) (C5.o.no hg));have kR:Below w.heap.size w W1:=C9.o.trans (q4.toBelow C9.o.size (λg hg=>by
     rintro(e|⟨y,e⟩)
     ·omega
     ·have:=iN.o g y e;omega))
    have hD1:W1.heap[w6.heap.size]?=some (.deferred (some [])):=(ai _ _ HD.o (λ_ _ e=>by cases e) (by omega)).trans HD.o;have g2:W1.cell? ⟨w.heap.size,0,none⟩=some (.slice none 0 0):=cT.b2.cell 0;have g3:W1.cell? ⟨w.heap.size+1,0,none⟩=some (.int .i64 0):=cT.b3.cell 0;have p2:=cT.b2.frozen 0;have p3:=cT.b3.frozen 0;have m2:=cT.b2.lt;have m3:=cT.b3.lt;have AR:=EP cT;have fm:=EP kR;have nE:=EP hD1;have Q1:=EP q1;have Q1R:=EP q1r;have Q2:=EP q2;have Q3:=EP q3;have C9S:Hid (w.heap.size<=W.heap.size):=EP C9.o.size;have CW6:Hid (w6.heap.size<W.heap.size):=EP (BV.1 HD.o).1;clear cT kR hD1 q1 q1r q2 q3 q4 ai fY HA C5 C8 C9 HD;go_wp2_with fail;have h6:=la.o;have h7:=tc.o;have kD:((W1.setCell ⟨w.heap.size,0,none⟩ (.slice Av l.length cv)).setCell ⟨w.heap.size+1,0,none⟩ (.int .i64 0)).heap[w6.heap.size]?=some (.deferred (some [])):=(B8 _ _ _ _ (by show _≠w.heap.size+1;omega)).trans ((B8 _ _ _ _ (by show _≠w.heap.size;omega)).trans nE.o);refine⟨by simp,.inl ⟨_,_,rfl,run_takeDeferred kD,?_⟩⟩;have k2:ar (W1.setCell ⟨w.heap.size,0,none⟩ (.slice Av l.length cv)) w.heap.size 28 #[.slice Av l.length cv]:=Cl W1 w.heap.size 0 _ _ _ AR.o.b2;have k3:ar ((W1.setCell ⟨w.heap.size,0,none⟩ (.slice Av l.length cv)).setCell ⟨w.heap.size+1,0,none⟩ (.int .i64 0)) (w.heap.size+1) 29 #[.int .i64 0]:=Cl _ (w.heap.size+1) 0 _ _ _ (AR.o.b3.same (B8 _ _ _ _ (by simp)));have k2':=k2.same (w':=(W1.setCell ⟨w.heap.size,0,none⟩ (.slice Av l.length cv)).setCell ⟨w.heap.size+1,0,none⟩ (.int .i64 0)) (B8 _ _ _ _ (by simp));have r2:=k2'.same (w':=World.putObj _ w6.heap.size (.deferred none)) (MM kD k2' (by simp));have r3:=k3.same (w':=World.putObj _ w6.heap.size (.deferred none)) (MM kD k3 (by simp));have ze:∀(g:Nat) (x:Obj),W1.heap[g]?=some x->g≠w.heap.size->g≠w.heap.size+1->(∀d,x≠.deferred d)->(((W1.setCell ⟨w.heap.size,0,none⟩ (.slice Av l.length cv)).setCell ⟨w.heap.size+1,0,none⟩ (.int .i64 0)).putObj w6.heap.size (.deferred none)).heap[g]?=W1.heap[g]?:=λg x hg n1 n2 hx=>by
     have h1:=(B8 (W1.setCell ⟨w.heap.size,0,none⟩ (.slice Av l.length cv)) ⟨w.heap.size+1,0,none⟩ (.int .i64 0) g n2).trans (B8 W1 ⟨w.heap.size,0,none⟩ (.slice Av l.length cv) g n1);exact(MM kD (h1.trans hg) (hx _)).trans h1
    have aj:∀g,(Value.slice Av l.length cv).ownBlock=some g->w6.heap.size<=g:=λg hg=>by
     have:=(s_ Q1.o g hg).1;have:=CW6.o;omega
    refine⟨_,zgV rfl _ _ w.heap.size (w.heap.size+1) _ _ _ _ _ _ rfl rfl r2 r3 underlying28 rfl underlying29 rfl,f,_,vt.o,?_,.inr ⟨k,_,l,T,rfl,rfl,⟨vs,?_,?_⟩,Q2.o,λg hg=>?_⟩⟩
    ·have hb:=(fm.o.setCell (p:=⟨w.heap.size,0,none⟩) (BU _) (.slice Av l.length cv)).setCell (p:=⟨w.heap.size+1,0,none⟩) (by simp) (.int .i64 0)
     exact⟨hb.os,hb.tape,hb.output,by rw[Dq];exact hb.size,λg hg=>(CC (by omega)).trans (hb.block g hg)⟩
    ·have h1:=GF Q1.o (w':=((W1.setCell ⟨w.heap.size,0,none⟩ (.slice Av l.length cv)).setCell ⟨w.heap.size+1,0,none⟩ (.int .i64 0)).putObj w6.heap.size (.deferred none)) (λg hg=>by
      obtain⟨_,_,cur,aa⟩:=s_ Q1.o g hg;exact ze g _ aa (by have:=aj g hg;omega) (by have:=aj g hg;omega) (λd e=>by cases e))
     exact Vq h1 C9S.o
    ·refine m_.al (λ_ h=>h) (λg hg=>?_) _ _ Q1R.o
     have h1:=Q3.o g hg;have h2:=CW6.o;exact(CC (by omega)).trans ((B8 _ _ _ _ (by show g≠w.heap.size+1;omega)).trans (B8 _ _ _ _ (by show g≠w.heap.size;omega)))
    ·have:=Q3.o g hg
     have:=C9S.o;rw[Dq,World.size_setCell,World.size_setCell];omega
attribute [local go_sem] Oper.semAt_some
def GB(b mk lo p e2 e4 st:Nat)(c0 c1 c2 c4:Value)(G:Nat->Option Nd)(k:Sb)(hd:Nat->Nat)(T0:Nat->Prop)(w:World)(N:Nat)(top EX:List Nat)(W:World):Prop :=
 ∃F D T v,F.map (·.1)=top++EX.reverse/\Fb G hd k (λq=>(D q).fl) [] F/\Fq G 0 F/\N=Gg G k F/\GN b mk lo c0 c1 c2 c4 G k hd T D W/\(∀g,T0 g->T g)/\((D p).fl=true\/p∈top++EX.reverse) /\
  ar W e2 72 #[.pointer (some ⟨b,0,none⟩)]/\ar W e4 37 #[.int .i64 0,.string ⟨#[]⟩,.int .i64 0,.slice none 0 0]/\¬T e4/\ar W st 195 #[v]/\W.ownsRow (st+1) 75 1 v EX.length (EX.map PK)/\b_ (λg=>g=mk\/∃x,G g=some x) w W/\lo<=e4/\lo<=e2/\lo<=st/\e4<st/\e2<st
section
variable {b mk lo p e2 e4 st:Nat} {c0 c1 c2 c4:Value} {G:Nat->Option Nd} {L:List Nat} {k:Sb} {hd:Nat->Nat} {T0:Nat->Prop} {w W W':World} {N:Nat} {top EX:List Nat}
theorem GB.Kv(h:GB b mk lo p e2 e4 st c0 c1 c2 c4 G k hd T0 w N top EX W)(hk:∀(g:Nat)(x:Obj),W.heap[g]?=some x->(∀r,x≠.loop r)->(∀r,x≠.deferred r)->W'.heap[g]?=W.heap[g]?)(hs:W.heap.size<=W'.heap.size)(hC:b_ (λg=>g=mk\/∃x,G g=some x) w W'):GB b mk lo p e2 e4 st c0 c1 c2 c4 G k hd T0 w N top EX W':=by
 obtain⟨F,D,T,v,h1,h2,h3,h4,h5,h6,h7,h8,h9,fF,nf,nO,qv,nN⟩:=h;have hc:∀(g:Nat) (cs:Array Value) (t:TypeId),W.heap[g]?=some (.cells cs t (0,0))->W'.heap[g]?=W.heap[g]?:=λg cs t hg=>hk g _ hg (λ_ e=>by cases e) (λ_ e=>by cases e);obtain⟨K,hK⟩:=h5.kn;have hm:W'.heap[mk]?=W.heap[mk]?:=by
  obtain⟨es,n,l,g1,_⟩:=hK.mp;exact hk mk _ g1 (λ_ e=>by cases e) (λ_ e=>by cases e)
 have hT:∀g,T g->W'.heap[g]?=W.heap[g]?:=λg hg=>by obtain⟨_,cur,aa⟩:=h5.tt g hg;exact hc g cur _ aa
 refine⟨F,D,T,v,h1,h2,h3,h4,⟨h5.sb.same (hc _ _ _ h5.sb),⟨K,hK.al hm (λx ⟨cs,hx⟩=>⟨cs,(hc x cs _ hx).trans hx⟩)⟩,h5.pd.same (λg _ ⟨cs,t,hg⟩=>hc g cs t hg),λq x hx hf=>?_,h5.da,λg hg=>?_,h5.lb,Cm h5.ls hs⟩,h6,h7,h8.same (hc _ _ _ h8),h9.same (hc _ _ _ h9),fF,nf.same (hc _ _ _ nf),GF nO (λg hg=>by obtain⟨_,_,cur,aa⟩:=s_ nO g hg;exact hc g cur _ aa),hC,nN⟩
 ·obtain⟨a1,a2,A,c,a3,a4⟩:=h5.fd q x hx hf
  exact⟨a1,a2,A,c,a3,a4.al (λ_ h=>h) hT⟩
 ·obtain⟨a1,cur,a2⟩:=h5.tt g hg
  exact⟨a1,cur,(hT g hg).trans a2⟩
theorem GB.below(h:GB b mk lo p e2 e4 st c0 c1 c2 c4 G k hd T0 w N top EX W)(hb:Below W.heap.size W W'):GB b mk lo p e2 e4 st c0 c1 c2 c4 G k hd T0 w N top EX W':=by
 have hC:b_ (λg=>g=mk\/∃x,G g=some x) w W':=by obtain⟨_,_,_,_,_,_,_,_,_,_,_,_,_,_,_,_,h,_⟩:=h;exact h.below hb
 exact h.Kv (λg _ hg _ _=>hb.block g (BV.1 hg).1) hb.size hC
theorem GB.KY {lp:Nat} {x y:Obj}(h:GB b mk lo p e2 e4 st c0 c1 c2 c4 G k hd T0 w N top EX W)(mM:w.heap.size<=lp)(hl:W.heap[lp]?=some x)(hx:(∃r,x=.loop r)\/∃r,x=.deferred r):GB b mk lo p e2 e4 st c0 c1 c2 c4 G k hd T0 w N top EX (W.putObj lp y):=by
 have hC:b_ (λg=>g=mk\/∃x,G g=some x) w (W.putObj lp y):=by obtain⟨_,_,_,_,_,_,_,_,_,_,_,_,_,_,_,_,h,_⟩:=h;exact h.putObj _ _ mM
 exact h.Kv (λg z hg a b=>MM hl hg (by rcases hx with⟨r,rfl⟩|⟨r,rfl⟩;exact a r;exact b r)) (by rw[Dq];exact BU _) hC
theorem GB.stack {l O:List Nat}(h:GB b mk lo p e2 e4 st c0 c1 c2 c4 G k hd T0 w N [] l W)(S:F0 G L hd k [] O)(mw:1+wg G [] L<=2000000000000)(hw:w.heap.size<=st):∃A c,OY W st l A c/\∀x l',l=l'++[x]->GB b mk lo p e2 e4 st c0 c1 c2 c4 G k hd T0 w N [x] l' (W.setCell ⟨st,0,none⟩ (.slice A l'.length c)):=by
 obtain⟨F,D,T,v,h1,h2,h3,h4,h5,h6,h7,h8,h9,fF,nf,nO,qv,nN⟩:=h;rw[Cu]at h1 h7;have hlen:l.length<=5000000000000:=by
  have:=h2.len h3 S.gr.all;have hl:=Cp List.length h1;rw[CE,DO]at hl;omega
 obtain⟨A,c,rfl,aW⟩:=znv nf nO hlen;refine⟨A,c,aW,λx l' e=>?_⟩;subst e;obtain⟨g,cap,zt,ho⟩:=zkM nO;injection zt with e1 _ T_;subst e1 T_;rw[Ec]at h1 h7
 have hg:=(s_ ho g rfl).1;have ai:∀z,z≠st->(W.setCell ⟨st,0,none⟩ (.slice (some ⟨g,0,none⟩) l'.length c)).heap[z]?=W.heap[z]?:=λz hz=>B8 _ _ _ _ hz;have Zz:∀z,T z->z≠st:=λz hz e=>by
  obtain⟨_,cur,aa⟩:=h5.tt z hz;rw[e]at aa;exact ar.Gw (show ar W st _ cur from aa) nf (by decide) rfl
 refine⟨F,D,T,_,h1,h2,h3,h4,h5.al (λz hz=>ai z (by omega)) (λz hz=>ai z (Zz z hz)) (λy hy=>hy.setCell _ _ _) (by rw[World.size_setCell];exact BU _),h6,h7,h8.same (ai _ (by omega)),h9.same (ai _ (by omega)),fF,Cl W st 0 _ _ _ nf,ownsRow_setCell_other (a:=⟨st,0,none⟩) ho (λe=>by have:g=st:=(by simpa[Value.ownBlock] using e);omega) _,qv.setCell (p:=⟨st,0,none⟩) (.inl hw) _,nN⟩
end
attribute [local go_sem] Oper.semAt_some
def ND(b mk lo p:Nat)(c0 c1 c2 c4:Value)(G:Nat->Option Nd)(k:Sb)(hd:Nat->Nat)(T:Nat->Prop)(w:World)(e:Ending)(w':World):Prop :=
 ∃v T' D',e=.returned v/\nc T' w' (pw (tv G k p)) v/\GN b mk lo c0 c1 c2 c4 G k hd T' D' w'/\(∀g,T g->T' g)/\b_ (λg=>g=mk\/∃x,G g=some x) w w'
theorem zny(b mk lo p:Nat)(c0 c1 c2 c4:Value)(G:Nat->Option Nd)(L:List Nat)(k:Sb)(hd:Nat->Nat)(T:Nat->Prop)(D:Nat->Dy)(O:List Nat)(w:World)(hm:GN b mk lo c0 c1 c2 c4 G k hd T D w)(S:F0 G L hd k [] O)(hp:FV G p)(hh:hd p=p)(y:Nd)(hy:G p=some y)(hw:1+wg G [] L<=2000000000000):Calls prog 75 #[.pointer (some ⟨b,0,none⟩),.pointer (some ⟨p,0,none⟩)] w (ND b mk lo p c0 c1 c2 c4 G k hd T w):=by
 refine(callsIn_wide (n:=10)).1 ?_;refine callsIn_of_wp_marks func75 rfl trivial ?_ rfl;simp only[ntmps75,CY,Ca,CR,Nat.reduceAdd,Nat.reduceSub,Df,De,Dl,Dh,Cu,Co];have kA:=hm.ls;obtain⟨l0,l1,l2,l3,dz,dW⟩:=MS w (.cells #[.pointer (some ⟨b,0,none⟩)] 72) (.cells #[.int .i64 0,.string ⟨#[]⟩,.int .i64 0,.slice none 0 0] 37) (.cells #[.slice none 0 0] 195) (.cells #[.pointer (some ⟨p,0,none⟩)] 75);obtain⟨w4,fp⟩:∃W,(((w.alloc (.cells #[.pointer (some ⟨b,0,none⟩)] 72)).alloc (.cells #[.int .i64 0,.string ⟨#[]⟩,.int .i64 0,.slice none 0 0] 37)).alloc (.cells #[.slice none 0 0] 195)).alloc (.cells #[.pointer (some ⟨p,0,none⟩)] 75)=W:=⟨_,rfl⟩;rw[fp]at l0 l1 l2 l3 dz dW;have bV:=R8 (w.heap.size+1+1) (w.heap.size+1+1+1) 195 #[.slice none 0 0] (by simp) [] [p] (.slice none 0 0) (some ⟨w.heap.size+1+1+1,0,none⟩) 1 w4 l2 (CM _ _ _ _) (by omega) (by simp[Value.ownBlock]) (by simp) (λj q hq=>by
  rw[List.getElem?_singleton]at hq;split at hq
  ·rename_i hj
   injection hq with hq;subst hj hq;exact⟨w.heap.size+1+1+1,rfl,by omega,by omega,by simp[Value.ownBlock],(show ar w4 (w.heap.size+1+1+1) _ _ from l3).cell 0⟩
  ·cases hq)
 rw[<-fp]at bV;have ed:=EP bV;have jf:=EP fp;have fQ:=EP l0;have iq:=EP l1;have vL:=EP l2;have nF:=EP dW;have HM:=EP hm;clear bV fp l0 l1 l2 l3 dW hm;gi_wp2;refine⟨trivial,?_⟩;refine((callsIn_wide (n:=9)).2 ed.o).mono ?_;rintro e w6 ⟨⟨v0,rfl⟩,Mg⟩;rw[jf.o]at Mg;gi_wp2
 obtain⟨v6,a1,a2,-,-,-,a6⟩:=Mg;have dS:=a6.size;have bG:Below w.heap.size w w6:=(nF.o).trans (a6.toBelow (by omega) (λk hk h=>by rcases h with h|h;omega;cases h));have kG:∀(g:Nat) (cs:Array Value) (t:TypeId),ar w4 g t cs->g≠w.heap.size+1+1->ar w6 g t cs:=λg cs t hg hn=>hg.iF a6 (λh=>by rcases h with h|h;exact hn h;cases h);have Aj:GN b mk lo c0 c1 c2 c4 G k hd T D w6:=HM.o.al (λg hg=>bG.block g (by omega)) (λg hg=>bG.block g (by obtain⟨_,cur,aa⟩:=HM.o.tt g hg;exact(BV.1 aa).1)) (λx ⟨cs,hx⟩=>⟨cs,(bG.block x (BV.1 hx).1).trans hx⟩) bG.size;have sZ:GB b mk lo p w.heap.size (w.heap.size+1) (w.heap.size+1+1) c0 c1 c2 c4 G k hd T w (Gg G k [(p,false)]) [] [p] w6:=by
  refine⟨[(p,false)],D,T,v6,rfl,?_,?_,rfl,Aj,λ_ h=>h,.inr (by simp),kG _ _ _ fQ.o (by omega),kG _ _ _ iq.o (by omega),λh=>?_,a1,a2,b_.c_ bG,by omega,by omega,by omega,by omega,by omega⟩
  ·rw[Fb,Fb]
   exact⟨hp,hh,(λe=>by cases e),trivial⟩
  ·rw[Fq,Fq];exact BU _
  ·obtain⟨_,cur,aa⟩:=HM.o.tt _ h
   have:=(BV.1 aa).1;omega
 have H0:=EP sZ;have HS:=EP S;have nj:=EP hw;have dO:Hid (w.heap.size+1+1+1+1<=w6.heap.size):=EP (by omega);have iN:=EP kA;have HY:=EP hy;clear sZ Aj kG bG dS a1 a2 a6 hw S dz ed jf fQ iq vL nF HM kA hp hy;obtain⟨bg,pC⟩:∃n,w.heap.size+1+1=n:=⟨_,rfl⟩;rw[pC]at H0 dO ⊢;have jG:=EP pC;clear pC;refine P5 (σ:=Nat × Nat × List Nat) rfl (by omega) (gf:=120) (fb:=#[.pointer (some ⟨bg,0,none⟩)]) (lb:=#[]) rfl trivial (enters_of func120 (by kernel_rfl) rfl)
  (λx=>#[.pointer (some ⟨x.2.1,0,none⟩)]) (λ_=>rfl)
  (λx W=>GB b mk lo p w.heap.size (w.heap.size+1) bg c0 c1 c2 c4 G k hd T w x.1 [x.2.1] x.2.2 W)
  (λx W=>∃N' l',N'<x.1/\GB b mk lo p w.heap.size (w.heap.size+1) bg c0 c1 c2 c4 G k hd T w N' [] l' W)
  (λx a₁ W=>GB b mk lo p w.heap.size (w.heap.size+1) bg c0 c1 c2 c4 G k hd T w x.1 [x.2.1] x.2.2 W/\a₁ = { tmps:=#[Value.pointer (some ⟨b,0,none⟩),Value.pointer (some ⟨p,0,none⟩),Value.pointer (some ⟨w.heap.size,0,none⟩),undef,Value.pointer (some ⟨w.heap.size+1,0,none⟩),Value.pointer (some ⟨bg,0,none⟩),Value.pointer (some ⟨x.2.1,0,none⟩),undef,undef,
   Value.pointer (some ⟨p,0,none⟩),Value.slice (some ⟨bg+1,0,none⟩) 1 1,v0,Value.func (Fn.func 120) #[Value.pointer (some ⟨bg,0,none⟩)] #[],Value.pointer (some ⟨x.2.1,0,none⟩),undef,undef,undef,undef,undef,undef,undef,undef,undef,undef,undef,undef,undef,undef,undef,undef,undef,undef,undef,undef,undef,undef,undef,undef,undef,undef,undef,undef,undef,undef],defers:=[] })
  (λW=>∃N,GB b mk lo p w.heap.size (w.heap.size+1) bg c0 c1 c2 c4 G k hd T w N [] [] W) (λ_ _=>False)
  (λx a₁ W r r' h hl=>⟨h.1.KY (by have:=dO.o;have:=jG.o;omega) hl (.inl ⟨_,rfl⟩),h.2⟩)
  (λx W r r' h hl=>by obtain⟨N',l',af,h⟩:=h;exact⟨N',l',af,h.KY (by have:=dO.o;have:=jG.o;omega) hl (.inl ⟨_,rfl⟩)⟩)
  (λW r r' h hl=>by obtain⟨N,h⟩:=h;exact⟨N,h.KY (by have:=dO.o;have:=jG.o;omega) hl (.inl ⟨_,rfl⟩)⟩) (λ_ _ _ _ h _=>h) ?assign ?body ?iter ?done ?stop
 case assign =>
  intro r x W hj hl;have HJ:=EP hj;have gT:=EP hl;clear hj hl;gi_wp2;exact⟨gT.o,HJ.o,trivial⟩
 case stop=>intro c W h;exact h.elim
 case iter =>
  intro rec W1 av aH cR hY;refine(zij Fence.wide (10-1) trivial rfl (by omega) (w6.heap.size+1) bg (λN l W=>GB b mk lo p w.heap.size (w.heap.size+1) bg c0 c1 c2 c4 G k hd T w N [] l W/\i_ (rec .ready none) (w6.heap.size+1) w6.heap.size W)
   (λN x l W=>GB b mk lo p w.heap.size (w.heap.size+1) bg c0 c1 c2 c4 G k hd T w N [x] l W/\i_ (rec .ready none) (w6.heap.size+1) w6.heap.size W) (λ_=>False) (λN l W h=>?_) (λN x l W h=>?_) W1 _ _ ⟨H0.o.below av,cR⟩).mono ?_
  ·obtain⟨A,c,h1,h2⟩:=h.1.stack HS.o nj.o (by have:=jG.o;omega)
   have:=dO.o;exact⟨A,c,h1,λx l' e=>⟨h2 x l' e,h.2.setCell ⟨bg,0,none⟩ _ (by show bg≠_;omega) (by show bg≠_;omega)⟩⟩
  ·refine(hY (N,x,l) W h.1 h.2).mono ?_
   intro e W' hs;rcases hs with⟨h1,⟨N',l',af,h2⟩,h3⟩|⟨_,_,h2,_⟩
   ·exact .inl ⟨h1,N',l',af,h2,h3⟩
   ·exact h2.elim
  ·rintro e W' ⟨hv,⟨N,hj,hl⟩|h⟩
   ·exact⟨hv,.inl ⟨⟨N,hj⟩,hl⟩⟩
   ·exact h.elim
 case done =>
  rintro W ⟨N,F,D1,T1,v1,h1,h2,h3,h4,h5,h6,h7,h8,h9,fF,nf,nO,qv,nN⟩ hD;have gO:(D1 p).fl=true:=by
   rcases h7 with h|h
   ·exact h
   ·simp at h
  obtain⟨f1,f2,A,c,f3,f4⟩:=h5.fd p y HY.o gO;obtain⟨A9,c9,cM,-⟩:=h5.pd p y HY.o;obtain⟨t1,t2,t3,t4,-,-⟩:=HS.o.Iq f1 f2 HY.o;have z0:W.cell? ⟨p,0,none⟩=some (.int .i64 (y.kd:Nat)):=cM.cell 0;have z1:W.cell? ⟨p,1,none⟩=some (.string y.nm):=cM.cell 1;have z2:W.cell? ⟨p,2,none⟩=some (.int .i64 (y.n:Nat)):=cM.cell 2;have z3:W.cell? ⟨p,3,none⟩=some (.slice A y.kids.length c):=by rw[<-f3];exact cM.cell 3
  have lz:=cM.lt;have HD:=EP hD;have H5:=EP h5;have H9:=EP h9;have UB:=EP fF;have F4:=EP f4;have HT:=EP (show y.kd=_/\y.nm=_/\y.n=_/\_ from⟨t1,t2,t3,t4⟩);have Uz:=EP qv;have H6:=EP h6;have HE:Hid (lo<=w.heap.size+1/\w.heap.size+1<bg):=EP ⟨nN.1,nN.2.2.2.1⟩;obtain⟨k0,k1,k2,k3,g0,g1,g2,g3,gl⟩:=n_ h9;clear h1 h2 h3 h4 h5 h6 h7 h8 h9 fF nf nO qv nN hD gO f1 f2 f3 f4 cM t1 t2 t3 t4;gi_wp2;have dT:=Fh (.int .i64 (y.kd:Nat)) (.string y.nm) (.int .i64 (y.n:Nat)) (.slice A y.kids.length c) H9.o;have ue:∀g,g≠w.heap.size+1->((((W.setCell ⟨w.heap.size+1,0,none⟩ (.int .i64 (y.kd:Nat))).setCell ⟨w.heap.size+1,1,none⟩ (.string y.nm)).setCell ⟨w.heap.size+1,2,none⟩ (.int .i64 (y.n:Nat))).setCell ⟨w.heap.size+1,3,none⟩ (.slice A y.kids.length c)).heap[g]?=W.heap[g]?:=λg hg=>(B8 _ _ _ _ hg).trans ((B8 _ _ _ _ hg).trans ((B8 _ _ _ _ hg).trans (B8 _ _ _ _ hg)));have lP:∀z,e_ W z->e_ ((((W.setCell ⟨w.heap.size+1,0,none⟩ (.int .i64 (y.kd:Nat))).setCell ⟨w.heap.size+1,1,none⟩ (.string y.nm)).setCell ⟨w.heap.size+1,2,none⟩ (.int .i64 (y.n:Nat))).setCell ⟨w.heap.size+1,3,none⟩ (.slice A y.kids.length c)) z:=λz hz=>(((hz.setCell _ _ _).setCell _ _ _).setCell _ _ _).setCell _ _ _;have Xp:b_ (λg=>g=mk\/∃x,G g=some x) w ((((W.setCell ⟨w.heap.size+1,0,none⟩ (.int .i64 (y.kd:Nat))).setCell ⟨w.heap.size+1,1,none⟩ (.string y.nm)).setCell ⟨w.heap.size+1,2,none⟩ (.int .i64 (y.n:Nat))).setCell ⟨w.heap.size+1,3,none⟩ (.slice A y.kids.length c)):=(((Uz.o.setCell (p:=⟨w.heap.size+1,0,none⟩) (.inl (by simp)) _).setCell (p:=⟨w.heap.size+1,1,none⟩) (.inl (by simp)) _).setCell (p:=⟨w.heap.size+1,2,none⟩) (.inl (by simp)) _).setCell (p:=⟨w.heap.size+1,3,none⟩) (.inl (by simp)) _;have dz:((((W.setCell ⟨w.heap.size+1,0,none⟩ (.int .i64 (y.kd:Nat))).setCell ⟨w.heap.size+1,1,none⟩ (.string y.nm)).setCell ⟨w.heap.size+1,2,none⟩ (.int .i64 (y.n:Nat))).setCell ⟨w.heap.size+1,3,none⟩ (.slice A y.kids.length c)).heap.size=W.heap.size:=by simp
  generalize ((((W.setCell ⟨w.heap.size+1,0,none⟩ (.int .i64 (y.kd:Nat))).setCell ⟨w.heap.size+1,1,none⟩ (.string y.nm)).setCell ⟨w.heap.size+1,2,none⟩ (.int .i64 (y.n:Nat))).setCell ⟨w.heap.size+1,3,none⟩ (.slice A y.kids.length c))=W4 at dT ue lP Xp dz ⊢;have h6:=dO.o;have h7:=jG.o;have kD:W4.heap[w6.heap.size]?=some (.deferred (some [])):=(ue _ (by omega)).trans HD.o;refine⟨by simp,.inl ⟨_,_,rfl,run_takeDeferred kD,?_⟩⟩;have r4:=dT.same (w':=W4.putObj w6.heap.size (.deferred none)) (MM kD dT (by simp));have ud:∀g,g≠w.heap.size+1->g≠w6.heap.size->(W4.putObj w6.heap.size (.deferred none)).heap[g]?=W.heap[g]?:=λg n1 n2=>(CC n2).trans (ue g n1);have TN:∀g,T1 g->g≠w.heap.size+1/\g≠w6.heap.size:=λg hg=>by
   refine⟨λe=>UB.o (e▸hg),λe=>?_⟩;obtain⟨_,cur,aa⟩:=H5.o.tt g hg;rw[e,HD.o]at aa;cases aa
  refine⟨_,CW rfl _ _ (w.heap.size+1) 37 _ (0,0) _ rfl r4 underlying37 rfl (by kernel_rfl),_,T1,D1,rfl,⟨A,c,?_,F4.o.al (λ_ h=>h) (λg hg=>ud g (TN g hg).1 (TN g hg).2)⟩,H5.o.al (λg hg=>ud g (by have:=HE.o;omega) (by have:=HE.o;omega)) (λg hg=>ud g (TN g hg).1 (TN g hg).2) (λz hz=>by
   obtain⟨cs,hx⟩:=lP z hz;exact⟨cs,(MM kD hx (by simp)).trans hx⟩) (by rw[Dq,dz];exact BU _),H6.o,Xp.putObj _ _ (by omega)⟩
  obtain⟨t1,t2,t3,t4⟩:=HT.o;rw[t1,t2,t3,t4,CE]
 case body =>
  rintro r ⟨N,x,l⟩ a₁ W ⟨⟨F,D1,T1,v1,h1,h2,h3,h4,h5,h6,h7,h8,h9,fF,nf,nO,qv,nN⟩,rfl⟩ hl;obtain⟨⟨x',e⟩,F',rfl⟩:∃p F',F=p::F':=by
   cases F with
   |nil=>simp at h1
   |cons a F'=>exact⟨a,F',rfl⟩
  simp only[CA,List.singleton_append,DF]at h1;obtain⟨rfl,h1⟩:=h1;have h4:N=_:=h4;subst h4;have iD:=h2;rw[Fb]at iD;obtain⟨q1,q2,q3,-⟩:=iD;obtain⟨yx,bU⟩:∃y,G x'=some y:=by obtain⟨d,g1,_⟩:=q1;obtain⟨y,hy,_⟩:=g1.node;exact⟨y,hy⟩
  obtain⟨A9,c9,cM,cV⟩:=h5.pd x' yx bU;have Yx:Hid (lo<=W.heap.size):=EP h5.ls;have z7:W.cell? ⟨x',7,none⟩=some (.bool (D1 x').fl):=cM.cell 7;have lx:=cM.lt;have x2:W.cell? ⟨w.heap.size,0,none⟩=some (.pointer (some ⟨b,0,none⟩)):=h8.cell 0;have l2:=h8.lt;cases hf:(D1 x').fl with
  |true =>
   rw[hf]at z7;have HF:Hid (∃N' l',N'<Gg G k ((x',e)::F')/\GB b mk lo p w.heap.size (w.heap.size+1) bg c0 c1 c2 c4 G k hd T w N' [] l' W):=EP (by
    refine⟨Gg G k F',l,?_,F',D1,T1,v1,h1,h2.pop (λ_ h=>h) hf,h3.tail,rfl,h5,h6,?_,h8,h9,fF,nf,nO,qv,nN⟩
    ·rw[Gg]
     have:=MF (tv G k x');cases e <;> simp <;> omega
    ·rcases h7 with h|h
     ·exact .inl h
     ·rcases Cr.1 h with h|h
      ·rw[Cx]at h;rw[h];exact .inl hf
      ·exact .inr (by simpa using h))
   have gT:=EP hl;clear h1 h2 h3 h5 h6 h7 h8 h9 fF nf nO qv nN hl hf cM cV q1 q2 q3 bU x2 l2;gi_wp2;obtain⟨N',l',n1,n2⟩:=HF.o;exact⟨⟨N',n1,l',n2⟩,gT.o⟩
  |false =>
   rw[hf]at z7;obtain⟨K1,fM⟩:=h5.kn;have kE:yx.kids.length+1<=wg G [] L:=by have:=Sk G x' [] yx bU (by simp) L (HS.o.gr.all _ _ bU);omega
   have sL:=ziI b mk x' yx c0 c1 c2 c4 G D1 K1 hd L W h5.sb fM h5.pd HS.o.gr bU h5.da (by have:=nj.o;omega);have BB:=EP sL;have H1:=EP h1;have H2:=EP h2;have H3:=EP h3;have H5:=EP h5;have H6:=EP h6;have H7:=EP h7;have H8:=EP h8;have H9:=EP h9;have UB:=EP fF;have BO:=EP nf;have UA:=EP nO;have Uz:=EP qv;have BM:=EP nN;have gT:=EP hl;have rI:=EP bU;have HQ:=EP (show FV G x'/\hd x'=x' from⟨q1,q2⟩);have HQ3:=EP q3;have HF:=EP hf;have HKL:=EP kE;have HR9:=EP cV;have se:=EP cM;clear sL h1 h2 h3 h5 h6 h7 h8 h9 fF nf nO qv nN hl hf cM cV q1 q2 q3 bU fM kE;gi_wp2;refine⟨trivial,?_⟩;refine(CallsIn.inRound _ ((callsIn_wide (n:=_)).2 BB.o)).mono ?_;rintro e1 W1 ⟨v4,v5,rfl,o4,o5,hI⟩;obtain⟨A4,a4,rfl⟩:=GS o4;obtain⟨A5,a5,rfl⟩:=GS o5;obtain⟨n5,fW⟩:∃n,(Jf D1 (yx.kids.map hd)).length=n:=⟨_,rfl⟩;have ko:∀(g:Nat) (z:Obj),W.heap[g]?=some z->g≠mk->W1.heap[g]?=W.heap[g]?:=λg z hg hm=>hI.ch.block g (BV.1 hg).1 (λe=>hm e);have bN:∀(g:Nat) (cs:Array Value) (t:TypeId),W.heap[g]?=some (.cells cs t (0,0))->g≠mk:=λg cs t hg e=>by
    obtain⟨K,hK⟩:=H5.o.kn;rw[e]at hg;exact d_.no hK.mp hg
   have jC:=H5.o.head hI.ch hI.kn;have fY:=jC.lb.2.1;have k14:=BM.o;have kz:i_ r (w6.heap.size+1) w6.heap.size W1:=gT.o.al (ko _ _ gT.o.1 (by have:=dO.o;omega)) (ko _ _ gT.o.2 (by have:=dO.o;omega));have k8:=H8.o.same (ko _ _ H8.o (bN _ _ _ H8.o));have k9:=H9.o.same (ko _ _ H9.o (bN _ _ _ H9.o));have wk:=BO.o.same (ko _ _ BO.o (bN _ _ _ BO.o));have tC:=GF UA.o (λg hg=>by obtain⟨_,_,cur,aa⟩:=s_ UA.o g hg;exact ko g _ aa (bN g cur _ aa));have xL:=Uz.o.trans' hI.ch (λg _ h=>.inl h);obtain⟨A8,c8,jb,hr8⟩:=jC.pd x' yx rI.o;rw[fW]at o5;have so:=hI.ch.size;have dP:=EP jC;have vI:=EP kz;have K8:=EP k8;have K9:=EP k9;have X0:=EP wk;have Uh:=EP tC;have XZ:=EP xL;have O4:=EP o4;have O5:=EP o5;have Bg:=EP fW;have AX:=EP so;have fO:Hid (∀g,v1.ownBlock=some g->g<W.heap.size):=EP (λg hg=>(s_ UA.o g hg).2.1);have qw:Hid (∀g,T1 g->g<W.heap.size):=EP (λg hg=>by obtain⟨_,cur,aa⟩:=H5.o.tt g hg;exact(BV.1 aa).1);have dv:Hid (bg<W.heap.size):=EP BO.o.lt;have Bm:Hid (w6.heap.size+1<W.heap.size):=EP gT.o.lt.1;clear ko bN jC kz k8 k9 wk tC xL o4 o5 hI so z7 lx x2 l2 BB gT H8 H9 BO UA Uz H5 se HR9;rw[fW];clear fW;by_cases hz:n5=0
   ·subst hz
    have g3:W1.cell? ⟨x',3,none⟩=some (D1 x').A:=jb.cell 3;have g7:W1.cell? ⟨x',7,none⟩=some (.bool (D1 x').fl):=jb.cell 7;have m3:=jb.frozen 3;have m7:=jb.frozen 7;have lx:=jb.lt;have mJ:Jf D1 (yx.kids.map hd)=[]:=Cn Bg.o;have aK:∀c∈yx.kids,(D1 (hd c)).fl=true:=λc hc=>by
     unfold Jf at mJ;rw[List.filter_eq_nil_iff]at mJ;have:=mJ (hd c) (Ct.2 ⟨c,hc,rfl⟩);simpa using this
    have sK:=dP.o.fill HS.o rI.o HQ.o.1 HQ.o.2 aK (B:=W.heap.size) Yx.o O4.o;have mj:=EP sK;have gy:=EP aK;clear sK aK mJ jb hr8;gi_wp2;have h6:=dO.o;have k14:=BM.o;have art:=dP.o.lb.2.2.1 x' yx rI.o;have gK:∀g,g≠x'->((W1.setCell ⟨x',3,none⟩ (.slice A4 yx.kids.length a4)).setCell ⟨x',7,none⟩ (.bool true)).heap[g]?=W1.heap[g]?:=λg hg=>(B8 _ _ _ _ hg).trans (B8 _ _ _ _ hg);have TC:∀q,(D1 q).fl=true->(Gn D1 x' { D1 x' with A:=.slice A4 yx.kids.length a4,fl:=true } q).fl=true:=λq hq=>by
     by_cases e:q=x'
     ·rw[e,Gm]
     ·rw[Fk _ _ _ _ e];exact hq
    have so:=AX.o;have arS:=Bm.o;refine⟨⟨Gg G k F',l,?_,F',Gn D1 x' { D1 x' with A:=.slice A4 yx.kids.length a4,fl:=true },_,v1,H1.o,H2.o.pop TC (by rw[Gm]),H3.o.tail,rfl,mj.o,λg hg=>.inl (H6.o g hg),?_,K8.o.same (gK _ (by omega)),K9.o.same (gK _ (by omega)),?_,X0.o.same (gK _ (by omega)),GF Uh.o (λg hg=>gK g (by have:=(s_ Uh.o g hg).1;omega)),(XZ.o.setCell (p:=⟨x',3,none⟩) (.inr (.inr ⟨yx,rI.o⟩)) _).setCell (p:=⟨x',7,none⟩) (.inr (.inr ⟨yx,rI.o⟩)) _,BM.o⟩,?_⟩
    ·show _<Gg G k ((x',e)::F')
     rw[Gg];have:=MF (tv G k x');cases e <;> simp <;> omega
    ·rcases H7.o with h|h
     ·exact .inl (TC p h)
     ·rcases Cr.1 h with h|h
      ·rw[Cx]at h;rw[h];exact .inl (by rw[Gm])
      ·exact .inr (by simpa using h)
    ·rintro(h|h)
     ·exact UB.o h
     ·have:=(s_ O4.o _ h).1
      omega
    ·exact(vI.o.setCell ⟨x',3,none⟩ _ (by show x'≠_;omega) (by show x'≠_;omega)).setCell ⟨x',7,none⟩ _ (by show x'≠_;omega) (by show x'≠_;omega)
   ·have he:e=false:=by
     cases e with
     |false=>rfl
     |true =>
      exfalso
      refine hz ?_;rw[<-Bg.o];unfold Jf;rw[List.length_eq_zero_iff,List.filter_eq_nil_iff];intro c hc;obtain⟨c0',eL,rfl⟩:=Ct.1 hc;rcases(HQ3.o rfl).1 yx rI.o c0' eL with h|h
      ·simpa using h
      ·cases h
    subst he;obtain⟨P1,P2,P3⟩:=H2.o.open_ HS.o H3.o rI.o (Jf D1 (yx.kids.map hd)) rfl;have arK:¬((n5:Int)=0):=by omega
    have hgt:decide ((0:Int)<(n5:Int))=true:=by rw[EM];omega
    have arL:n5<=2000000000000:=by
     rw[<-Bg.o];unfold Jf;refine Cm (D7 _ _) ?_;rw[CE];have:=HKL.o;have:=nj.o;omega
    obtain⟨j0,kH,wm,lE,mq⟩:=Dx Ir;have pR:=EP (O5.o.alloc (.cells #[.pointer (some ⟨x',0,none⟩)] 75));have nT:=EP (show _/\_/\_ from⟨P1,P2,P3⟩);clear P1 P2 P3 jb hr8;gi_wp2_with (gi_at_builtin;go_loud (refine wpListIn_append_own _ rfl (.tmp 27) (.tmp 29) 130 rfl W.heap.size 75 j0 _ 1 8 underlying130 kH wm lE mq rfl (by decide) _ n5 ((Jf D1 (yx.kids.map hd)).map PK) rfl pR.o ⟨W1.heap.size,0,none⟩ 1 1 [.pointer (some ⟨x',0,none⟩)] rfl rfl (Iz _ _ _ _ (by simp)) (by intro u hu;simp at hu;subst hu;rfl) (by unfold maxLen;omega) (by omega) (by have:=AX.o;simp;omega) ?_);go_loud (intro v9 w9 dm ae mJ);go_loud (obtain⟨A9',c9',rfl⟩:=GS dm);have rR:=EP dm;have nD:=EP ae;clear dm ae mJ);have WK:=AX.o;have aW:=dv.o;have k14:=BM.o;have arR:=Bm.o;have h6:=dO.o;have hs9:W1.heap.size<w9.heap.size:=by have:=nD.o.size;simp only[World.size_alloc]at this;omega
    have aQ:∀g,(Value.slice A5 n5 a5).ownBlock=some g->W.heap.size<=g/\∃cur,W1.heap[g]?=some (.cells cur 75 (0,0)):=λg hg=>by
     obtain⟨n1,_,n2⟩:=s_ O5.o g hg;exact⟨n1,n2⟩
    have rh:∀g,g<W.heap.size->w9.heap[g]?=W1.heap[g]?:=λg hg=>(nD.o.block g (by simp only[World.size_alloc];omega) (λe=>by have:=(aQ g e.symm).1;omega)).trans (BX _ _ _ (by omega));have hl9:∀z,e_ W1 z->e_ w9 z:=λz ⟨cs,hx⟩=>⟨cs,((nD.o.block z (by simp only[World.size_alloc];have:=(BV.1 hx).1;omega) (λe=>by
     obtain⟨_,cur,aa⟩:=aQ z e.symm;exact ar.Gw (show ar W1 z _ cs from hx) (show ar W1 z _ cur from aa) (by decide) rfl)).trans (BX _ _ _ (BV.1 hx).1)).trans hx⟩
    have hM9:=dP.o.al (W':=w9) (λg hg=>rh g (by have:=Yx.o;omega)) (λg hg=>rh g (qw.o g hg)) hl9 (by omega);have wk:=X0.o.same (rh _ aW);have tC:=GF Uh.o (w':=w9) (λg hg=>rh g (fO.o g hg));have xL:b_ (λg=>g=mk\/∃x,G g=some x) w w9:=(XZ.o.alloc (.cells #[.pointer (some ⟨x',0,none⟩)] 75)).grown nD.o (λk hk=>.inl (by have:=(aQ k hk).1;have:=jG.o;omega));have yV:i_ r (w6.heap.size+1) w6.heap.size w9:=vI.o.al (rh _ (by omega)) (rh _ (by omega));have oS:(Jf D1 (yx.kids.map hd)++[x']).length=n5+1:=by rw[Cb,Bg.o];rfl
    have sE:=nT.o.1.len nT.o.2.1 HS.o.gr.all;rw[Cb,CE,Bg.o,Ca,<-CE (f:=λz:Nat × Bool=>z.1),H1.o,DO]at sE;have mw:=nj.o;have o9:w9.ownsRow W.heap.size 75 1 (.slice A9' (n5+1) c9') (n5+1) ((Jf D1 (yx.kids.map hd)++[x']).map PK):=by rw[Dn];exact rR.o
    have bV:=R8 bg (bg+1) 195 #[v1] (by simp) l (Jf D1 (yx.kids.map hd)++[x']) v1 A9' c9' w9 wk tC (by omega) (λe=>by have:=(s_ tC _ e).1;omega) (by rw[oS];omega) (λj q hq=>by
     obtain⟨g,cap,cur,hv,n1,n2,n3⟩:=Qp o9 (by omega);injection hv with e1 _ _;exact⟨g,e1,(BV.1 n2).1,by omega,λe=>by have:=fO.o g e;omega,(cell_of_row w9 g j cur _ (0,0) n2).trans (n3 j q hq)⟩)
    rw[oS]at bV;have ed:=EP bV;have Uq:=EP hM9;have ZM:=EP xL;have vH:=EP yV;have ZN:=EP wk;have vl:=EP tC;have K8':=EP (K8.o.same (rh _ (by omega)));have K9':=EP (K9.o.same (rh _ (by omega)));clear bV hM9 xL yV wk tC o9 sE oS hl9 rh aQ dP K8 K9 X0 Uh XZ vI rR nD pR;refine⟨trivial,?_⟩;refine(CallsIn.inRound _ ((callsIn_wide (n:=_)).2 ed.o)).mono ?_;rintro e2 W4 ⟨⟨ve2,rfl⟩,v9,d1,d2,-,-,-,d6⟩;have ay:∀(g:Nat) (z:Obj),w9.heap[g]?=some z->(∀cs t,z=.cells cs t (0,0)->t≠195/\t≠75)->W4.heap[g]?=w9.heap[g]?:=λg z hg ht=>d6.block g (BV.1 hg).1 (by
     rintro(h|h)
     ·have hs:w9.heap[bg]?=_:=ZN.o
      rw[h,hs]at hg;injection hg with hg;exact(ht _ _ hg.symm).1 rfl
     ·obtain⟨_,_,cur,aa⟩:=s_ vl.o g h
      rw[aa]at hg;injection hg with hg;exact(ht _ _ hg.symm).2 rfl)
    have qp:∀(g:Nat) (cs:Array Value) (t:TypeId),ar w9 g t cs->t≠195->t≠75->ar W4 g t cs:=λg cs t hg t1 t2=>hg.same (ay g _ hg (λP' t' e=>by injection e with _ e;subst e;exact⟨t1,t2⟩));have bO:∀g,g<lo->W4.heap[g]?=w9.heap[g]?:=λg hg=>d6.block g (by have:=Yx.o;omega) (by
     rintro(h|h)
     ·omega
     ·have:=(s_ vl.o g h).1;omega)
    have Aj:=Uq.o.al (W':=W4) bO (λg hg=>by
     obtain⟨_,cur,aa⟩:=Uq.o.tt g hg;exact ay g _ aa (λcs t e=>by injection e with _ e;subst e;exact⟨by decide,by decide⟩)) (λz ⟨cs,hx⟩=>⟨cs,(ay z _ hx (λP' t e=>by injection e with _ e;subst e;exact⟨by decide,by decide⟩)).trans hx⟩) d6.size
    have hJ:GB b mk lo p w.heap.size (w.heap.size+1) bg c0 c1 c2 c4 G k hd T w (Gg G k ((Jf D1 (yx.kids.map hd)).map (·,false)++(x',true)::F')) [] (l++(Jf D1 (yx.kids.map hd)++[x']).reverse) W4:=by
     refine⟨_,D1,T1,v9,?_,nT.o.1,nT.o.2.1,rfl,Aj,H6.o,?_,qp _ _ _ K8'.o (by decide) (by decide),qp _ _ _ K9'.o (by decide) (by decide),UB.o,d1,by simpa using d2,ZM.o.trans' d6 (λg hg h=>?_),BM.o⟩
     ·rw[Dn,DS,CA,H1.o,Ec,DU,DC]
      have dU:List.map ((λz:Nat × Bool=>z.1) ∘ λz=>(z,false)) (Jf D1 (yx.kids.map hd))=Jf D1 (yx.kids.map hd):=by
       conv=>rhs;rw[<-List.map_id (Jf D1 (yx.kids.map hd))]
       rfl
      rw[dU];rfl
     ·rcases H7.o with h|h
      ·exact .inl h
      ·right
       rw[Cu,Ec,DU];rcases Cr.1 h with h|h
       ·rw[Cx]at h;rw[h];simp
       ·exact CP _ h
     ·rcases h with h|h
      ·have:=jG.o;omega
      ·have:=(s_ vl.o g h).1;have:=jG.o;omega
    have oN:i_ r (w6.heap.size+1) w6.heap.size W4:=vH.o.al (ay _ _ vH.o.1 (λcs t e=>by cases e)) (ay _ _ vH.o.2 (λcs t e=>by cases e));have HJ:=EP hJ;have Z8:=EP oN;clear hJ oN Aj bO qp ay d1 d2 d6;gi_wp2;exact⟨⟨_,_,nT.o.2.2,HJ.o⟩,Z8.o⟩
end
end Go.Proofs.YtfafilmklhnngaaGreatDoor
