import Derived.Test.YtfafilmklhnngaaGreatDoorBkAJ
import Derived.Test.YtfafilmklhnngaaGreatDoorBkAD
set_option maxHeartbeats 12800000
namespace Go.Proofs.YtfafilmklhnngaaGreatDoor
open Go.RowKit Lx Tx Go.Maps Go.WideMaps
set_option maxRecDepth 100000
def EqsAt(S:Nat->Prop)(w:World)(ts:List (Ty × Ty))(A:Option Addr):Prop :=
 ∀(i:Nat) (t u:Ty),ts[i]?=some (t,u)->∃g At ct Au cu,A=some ⟨g,0,none⟩/\g<w.heap.size/\Cell4 w t At ct g (i*8)/\Args S w t At/\Cell4 w u Au cu g (i*8+4)/\Args S w u Au
theorem UfC.but {b mv mu mk:Nat} {w0:World} {G:Nat->Option Nd} {D:Nat->Dy} {V:Name->Option Nat} {U:Nat->Option Nat} {W W':World} {ob:Option Nat}(h:UfC b mv mu mk w0 G D V U W)(hk:∀g,g<W.heap.size->some g≠ob->W'.heap[g]?=W.heap[g]?)
  (kM:∀g,ob=some g->∃cur,W.heap[g]?=some (.cells cur 78 (0,0)))(hC:Chg (λg=>g=mv\/g=mu) w0 W'):UfC b mv mu mk w0 G D V U W':=by
 have af:∀(g:Nat) (o:Obj),W.heap[g]?=some o->(∀cur,o≠.cells cur 78 (0,0))->W'.heap[g]?=W.heap[g]?:=λg o hg ho=>hk g (Aj.1 hg).1 (λe=>by
  obtain⟨cur,hc⟩:=kM g e.symm;rw[hc]at hg
  injection hg with hg;exact ho cur hg.symm)
 have au:∀(g:Nat) (cs:Array Value) (t:TypeId),W.heap[g]?=some (.cells cs t (0,0))->t≠78->W'.heap[g]?=W.heap[g]?:=λg cs t hg ht=>af g _ hg (λcur e=>by injection e with _ e;exact ht e);have sL:∀ {κ:Type} [DecidableEq κ] {kv:κ->Value} {ok:World->κ->Prop} {m:Nat} {f:κ->Option Nat},MapK kv ok W m f->W'.heap[m]?=W.heap[m]?:=fun {κ} _ {kv ok m f} hm=>hk m (MapK.lt hm) (λe=>by
  obtain⟨cur,hc⟩:=kM m e.symm;exact MapK.no hm hc)
 refine⟨h.sb.same (au _ _ _ h.sb (by decide)),⟨MapK.keep h.lays.ms (sL h.lays.ms) (λ_ h=>h),MapK.keep h.lays.mi (sL h.lays.mi) (λ_ h=>h),?_,h.lays.vn,h.lays.un,h.lays.dn⟩,h.vf,h.kn.keep (sL h.kn.mp) (λx ⟨cs,hx⟩=>⟨cs,(au x cs _ hx (by decide)).trans hx⟩),hC,h.lo⟩;intro p x hx;obtain⟨A,c,hb,hr⟩:=h.lays.pd p x hx;refine PartC.keep ⟨A,c,hb,hr⟩ (au _ _ _ hb (by decide)) (λhn=>?_);obtain⟨_,cur,hc,_⟩:=hr hn;exact au _ _ _ hc (by decide)
def UfH(b mv mu mk:Nat)(w0:World)(ts:List (Ty × Ty))(n gg:Nat)(v5 vi:Value)(wr:World):Prop :=
 ∃i es ns G D V U,gg=n-i/\vi=.int .i64 (i:Nat)/\i<=n/\es.length=i/\UfC b mv mu mk w0 G D V U wr/\LayQ G U V (ts.take i) es ns/\ns.Nodup/\(∀x∈ns,x<wr.heap.size)/\wr.ownsRow w0.heap.size 78 3 v5 i (eqCells es)
theorem UfH.next {b mv mu mk:Nat} {w0:World} {ts:List (Ty × Ty)} {n i:Nat} {v5 v5':Value} {es:List Eqn} {ns:List Nat} {G:Nat->Option Nd} {D:Nat->Dy} {V:Name->Option Nat} {U:Nat->Option Nat} {wr W7 W2 w6:World} {t u:Ty} {pl pr:Nat} {o:Obj}
  (hin:i<n)(ht:ts[i]?=some (t,u))(hle:es.length=i)(hC:UfC b mv mu mk w0 G D V U wr)(hq:LayQ G U V (ts.take i) es ns)(dQ:ns.Nodup)(ah:∀x∈ns,x<wr.heap.size)(h7:Below wr.heap.size wr W7)(hT:UfT b mv mu mk w0 G D V U W7 t u pl pr W2)
  (kM:∀g,v5.ownBlock=some g->w0.heap.size<=g/\∃cur,W2.heap[g]?=some (.cells cur 78 (0,0)))(hg:(W2.alloc o).grownBy w6 v5.ownBlock)(ho:w6.ownsRow w0.heap.size 78 3 v5' (i+1) (eqCells (es++[⟨pl,pr,false⟩]))):UfH b mv mu mk w0 ts n (n-(i+1)) v5' (.int .i64 ((i+1:Nat):Nat)) w6:=by
 obtain⟨nl,nr,G2,D2,V2,U2,k1,k2,k3,k4,k5,k6,k7⟩:=hT;have s7:=h7.size;have s2:=k7.size;have sg:W2.heap.size<=w6.heap.size:=by have:=hg.size;simp only[World.size_alloc]at this;omega
 refine⟨i+1,_,ns++(nl++nr),G2,D2,V2,U2,rfl,rfl,by omega,by simp[hle],?_,?_,?_,?_,ho⟩
 ·refine k1.but (ob:=v5.ownBlock) (λg oH he=>?_) (λg h=>(kM g h).2) ((k1.ch.alloc o).grown hg (λk hk=>.inl (kM k hk).1))
  exact(hg.block g (by simp;omega) he).trans (Below.heap_alloc _ _ _ oH)
 ·have:ts.take (i+1)=ts.take i++[(t,u)]:=by rw[B8,ht];rfl
  rw[this]
  refine LayQ.snoc k3 k4 _ (LayQ.more ?_ k2.ux k2.vx _ hq);exact k2.gx λq x hx=>by have:=hC.lays.lt hx;omega
 ·exact BL.2 ⟨dQ,k5,λa ha b hb e=>by have:=ah a ha;have:=(k6 b hb).1;omega⟩
 ·intro x hx
  rcases AA.1 hx with hx|hx
  ·have:=ah x hx;omega
  ·have:=(k6 x hx).2;omega
end Go.Proofs.YtfafilmklhnngaaGreatDoor
namespace Go.Proofs.YtfafilmklhnngaaGreatDoor
open Go.RowKit Go.Shelf Lx Tx Go.Maps Go.WideMaps
set_option maxRecDepth 100000
structure UrB (e2 e3 e4 b:Nat) (W:World):Prop where
 b2:Blk W e2 28 #[.slice none 0 0]
 b3:Blk W e3 29 #[.int .i64 0]
 b4:Blk W e4 72 #[.pointer (some ⟨b,0,none⟩)]
theorem UrB.keep {e2 e3 e4 b:Nat} {W W':World}(h:UrB e2 e3 e4 b W)(hk:∀(g:Nat)(cs:Array Value)(t:TypeId),W.heap[g]?=some (.cells cs t (0,0))->t≠85->t≠132->t≠78->W'.heap[g]?=W.heap[g]?):UrB e2 e3 e4 b W' :=
 ⟨h.b2.same (hk _ _ _ h.b2 (by decide) (by decide) (by decide)),h.b3.same (hk _ _ _ h.b3 (by decide) (by decide) (by decide)),h.b4.same (hk _ _ _ h.b4 (by decide) (by decide) (by decide))⟩
def UrJ(b mu mk B:Nat)(G:Nat->Option Nd)(L:List Nat)(U:Nat->Option Nat)(mv:Value)(C N0:Nat)(o:Nat ⊕ Sb)(e2 e3 e4:Nat)(w:World)(N:Nat)(top stk:List Eqn)(W:World):Prop :=
 ∃hd k f s D v,N=msr f (top++stk.reverse)/\Sim G L hd k (top++stk.reverse) f o/\StkS G k [] (top++stk.reverse)/\StkN G C 0 (top++stk.reverse)/\SolW b mu mk B G U hd s D mv v stk W/\0<=s/\s+(heads hd L:Nat)<=N0/\(∀p,hd p≠p->∃x,G p=some x)/\UrB e2 e3 e4 b W/\Below w.heap.size w W
theorem zoj {w:World} {B:Nat} {e:TypeId} {v:Value} {l:List Eqn} {x:Eqn}(h:w.ownsRow B e 3 v (l++[x]).length (eqCells (l++[x]))):∃g cap,v=.slice (some ⟨g,0,none⟩) (l++[x]).length cap/\w.ownsRow B e 3 (.slice (some ⟨g,0,none⟩) l.length cap) l.length (eqCells l):=by
 obtain⟨h0,⟨_,h1⟩|⟨g,cap,cur,hv,h1,h2,h3,h4,h5,h6⟩⟩:=h
 ·simp at h1
 ·refine⟨g,cap,hv,zcz l,.inr ⟨g,cap,cur,rfl,h1,h2,?_,h4,h5,?_⟩⟩
  ·rw[Ap]at h3;simp at h3;omega
  ·rw[zbH,Ap]at h6
   have:=Az (List.take (l.length*3)) h6;rw[List.take_take,List.take_left' (zcz l)]at this
   rw[<-this]
   congr 1
   first|(simp;done)|(simp;omega)
theorem zpw {W:World} {B b:Nat} {v:Value} {cs:Array Value} {l:List Eqn} {t:TypeId}(hb:Blk W b t (cs.setIfInBounds 0 v))(gA:0<cs.size)(ho:W.ownsRow B 78 3 v l.length (eqCells l))(hl:l.length<=1000000000):∃A c,v=.slice A l.length c/\StkE W b l A c:=by
 have eO:W.cell? ⟨b,0,none⟩=some v:=by
  rw[cell_of_row W b 0 _ _ (0,0) hb]
  simp[gA]
 have hf0:W.frozen? ⟨b,0,none⟩=false:=frozen_of_row W b 0 _ _ hb;have et:=ho;obtain⟨h0,⟨hv,h1⟩|⟨g,cap,cur,hv,h1,h2,h3,h4,h5,h6⟩⟩:=ho
 ·refine⟨none,0,by rw[hv,h1],by rw[h1,<-hv];exact eO,hf0,hb.lt,by omega,hl,λhn=>?_⟩
  exact(hn (AD h1)).elim
 ·refine⟨some ⟨g,0,none⟩,cap,hv,by rw[<-hv];exact eO,hf0,hb.lt,h3,hl,λ_=>⟨g,rfl,?_⟩⟩
  rw[hv]at et
  exact(zgl et).2.2
section
variable {b mu mk B:Nat} {G:Nat->Option Nd} {L:List Nat} {U:Nat->Option Nat} {mv:Value} {C N0:Nat} {o:Nat ⊕ Sb} {e2 e3 e4:Nat} {w:World} {N:Nat} {W W':World}
theorem SolW.keepB {hd:Nat->Nat} {s:Int} {D:Nat->Dy} {v:Value} {stk:List Eqn}(h:SolW b mu mk B G U hd s D mv v stk W)(hk:∀(g:Nat)(x:Obj),W.heap[g]?=some x->(∀r,x≠.loop r)->(∀r,x≠.deferred r)->W'.heap[g]?=W.heap[g]?)(hs:W.heap.size<=W'.heap.size):SolW b mu mk B G U hd s D mv v stk W':=by
 have hc:∀(g:Nat) (cs:Array Value) (t:TypeId),W.heap[g]?=some (.cells cs t (0,0))->W'.heap[g]?=W.heap[g]?:=λg cs t hg=>hk g _ hg (λ_ e=>by cases e) (λ_ e=>by cases e);have hm:∀ {κ:Type} [DecidableEq κ] {kv:κ->Value} {ok:World->κ->Prop} {m:Nat} {f:κ->Option Nat},MapK kv ok W m f->W'.heap[m]?=W.heap[m]?:=fun {κ} _ {kv ok m f} h=>by
  obtain⟨es,n,l,h1,_⟩:=h;exact hk m _ h1 (λ_ e=>by cases e) (λ_ e=>by cases e)
 obtain⟨K,hK⟩:=h.kn;exact⟨h.sb.same (hc _ _ _ h.sb),zan h.own (λg hg=>by obtain⟨_,_,cur,aa⟩:=zab h.own g hg;exact hc g cur _ aa),⟨K,hK.keep (hm hK.mp) (λx ⟨cs,hx⟩=>⟨cs,(hc x cs _ hx).trans hx⟩)⟩,
  h.pd.same (λg _ ⟨cs,t,hg⟩=>hc g cs t hg),MapK.keep h.mi (hm h.mi) (λ_ h=>h),λn p hn=>by obtain⟨cs,hx⟩:=h.lq n p hn;exact⟨cs,(hc p cs _ hx).trans hx⟩,h.sr,h.fl,h.da,h.mm,AB h.hB hs⟩
theorem SolW.below {hd:Nat->Nat} {s:Int} {D:Nat->Dy} {v:Value} {stk:List Eqn}(h:SolW b mu mk B G U hd s D mv v stk W)(hb:Below W.heap.size W W'):SolW b mu mk B G U hd s D mv v stk W' :=
 h.keepB (λg _ hg _ _=>hb.block g (Aj.1 hg).1) hb.size
theorem UrJ.keep {top stk:List Eqn}(h:UrJ b mu mk B G L U mv C N0 o e2 e3 e4 w N top stk W)(hb:Below W.heap.size W W'):UrJ b mu mk B G L U mv C N0 o e2 e3 e4 w N top stk W':=by
 obtain⟨hd,k,f,s,D,v,h1,h2,h3,h4,h5,h6,h7,yG,h8,h9⟩:=h;exact⟨hd,k,f,s,D,v,h1,h2,h3,h4,h5.below hb,h6,h7,yG,h8.keep (λg cs t hg _ _ _=>hb.block g (Aj.1 hg).1),h9.trans (hb.mono h9.size)⟩
theorem za0 {W:World} {lp:Nat} {x y:Obj}(hl:W.heap[lp]?=some x) {g:Nat} {z:Obj}(hg:W.heap[g]?=some z)(af:z≠x):(W.putObj lp y).heap[g]?=W.heap[g]?:=World.putObj_heap_other λe=>by
 rw[e,hl]at hg
 injection hg with hg;exact af hg.symm
theorem UrJ.rec_ {top stk:List Eqn} {lp:Nat} {x y:Obj}(h:UrJ b mu mk B G L U mv C N0 o e2 e3 e4 w N top stk W)(lS:w.heap.size<=lp)(hl:W.heap[lp]?=some x)(hx:(∃r,x=.loop r)\/∃r,x=.deferred r):UrJ b mu mk B G L U mv C N0 o e2 e3 e4 w N top stk (W.putObj lp y):=by
 obtain⟨hd,k,f,s,D,v,h1,h2,h3,h4,h5,h6,h7,yG,h8,h9⟩:=h;refine⟨hd,k,f,s,D,v,h1,h2,h3,h4,h5.keepB (λg z hg a b=>za0 hl hg (by rcases hx with⟨r,rfl⟩|⟨r,rfl⟩;exact a r;exact b r)) (by rw[World.putObj_size];exact Ai _),h6,h7,yG,h8.keep (λg cs t hg _ _ _=>za0 hl hg (by rcases hx with⟨r,rfl⟩|⟨r,rfl⟩ <;> simp)),?_⟩;exact⟨h9.os,h9.tape,h9.output,by rw[World.putObj_size];exact h9.size,λg hg=>(World.putObj_heap_other (by omega)).trans (h9.block g hg)⟩
theorem UrJ.stk {l:List Eqn}(h:UrJ b mu mk B G L U mv C N0 o e2 e3 e4 w N [] l W)(kz:1+C+wg G [] L<=1000000)(dM:w.heap.size<=b):∃A c,StkE W b l A c/\∀x l',l=l'++[x]->UrJ b mu mk B G L U mv C N0 o e2 e3 e4 w N [x] l' ((W.setCell ⟨b,0,none⟩ (.slice A l'.length c)).alloc (.cells #[.pointer (some ⟨x.l,0,none⟩),.pointer (some ⟨x.r,0,none⟩),.bool x.d] 78)):=by
 obtain⟨hd,k,f,s,D,v,h1,h2,h3,h4,h5,h6,h7,yG,h8,h9⟩:=h;rw[AL]at h1 h2 h3 h4
 have hlen:l.length<=1000000000:=by
  have h2':=h2;obtain⟨_,_,_,_,S,_⟩:=h2';have:=h3.len h4 S.gr.all;rw[BU]at this
  omega
 obtain⟨A,c,rfl,aI⟩:=zpw (cs:=#[v,mv,.map (some mu),.map (some mk),.int .i64 s]) h5.sb (by simp) h5.own hlen;refine⟨A,c,aI,λx l' e=>?_⟩;subst e;obtain⟨g,cap,xJ,ho⟩:=zoj h5.own;injection xJ with e1 _ e2';subst e1 e2';rw[Cd]at h1 h2 h3 h4
 have la:g≠b:=λe=>by
  obtain⟨_,_,cur,aa⟩:=zab ho g rfl;rw[e]at aa
  exact Blk.ne_ (show Blk W b _ cur from aa) h5.sb (by decide) rfl
 have af:∀z,z≠b->(W.setCell ⟨b,0,none⟩ (.slice (some ⟨g,0,none⟩) l'.length c)).heap[z]?=W.heap[z]?:=λz hz=>Below.heap_setCell _ _ _ _ hz;obtain⟨K,hK⟩:=h5.kn;have cf:∀(z:Nat) (cs:Array Value) (t:TypeId),W.heap[z]?=some (.cells cs t (0,0))->t≠85->z≠b:=λz cs t hz ht=>Blk.ne_ (show Blk W z t cs from hz) h5.sb ht;have hsw:SolW b mu mk B G U hd s D mv (.slice (some ⟨g,0,none⟩) l'.length c) l' (W.setCell ⟨b,0,none⟩ (.slice (some ⟨g,0,none⟩) l'.length c)):=by
  refine⟨heap_setCell_same W b 0 _ _ _ h5.sb,ownsRow_setCell_other (a:=⟨b,0,none⟩) ho (λe=>la (by simpa[Value.ownBlock] using e)) _,⟨K,hK.keep (af _ (λe=>by have:=h5.sb;rw[<-e]at this;exact MapK.no hK.mp this)) (λy hy=>hy.setCell _ _ _)⟩,?_,MapK.keep h5.mi (af _ (λe=>by have:=h5.sb;rw[<-e]at this;exact MapK.no h5.mi this)) (λ_ h=>h),λn p hn=>(h5.lq n p hn).setCell _ _ _,h5.sr,h5.fl,h5.da,h5.mm,by rw[World.size_setCell];exact h5.hB⟩;intro q x hx;obtain⟨A9,c9,bM,ft⟩:=h5.pd q x hx;refine PartC.keep ⟨A9,c9,bM,ft⟩ (af _ (cf _ _ _ bM (by decide))) (λhn=>?_);obtain⟨_,cur,aa,_⟩:=ft hn;exact af _ (cf _ _ _ aa (by decide))
 refine⟨hd,k,f,s,D,_,h1,h2,h3,h4,hsw.below ((Below.refl _ _).alloc (Ai _) _),h6,h7,yG,?_,?_⟩
 ·refine UrB.keep (W:=W) h8 (λz cs t hz ht _ _=>?_)
  exact(Below.heap_alloc _ _ _ (by rw[World.size_setCell];exact(Aj.1 hz).1)).trans (af z (cf z cs t hz ht))
 ·exact((h9.setCell (p:=⟨b,0,none⟩) dM _).alloc (by rw[World.size_setCell];exact h9.size) _)
end
def knV(n:Nat)(t:Ty)(A:Option Addr)(c:Nat):List Value:=.int .i64 (n:Nat)::tyV t A c
def KnRow(S:Nat->Prop)(w:World):List (Nat × Ty)->List Value->Prop
 |[],vs=>vs=[]
 |(n,t)::r,vs=>∃A c rest,vs=knV n t A c++rest/\Args S w t A/\KnRow S w r rest
theorem KnRow.keep {S S':Nat->Prop} {w w':World}(hS:∀g,S g->S' g)(hk:∀g,S g->w'.heap[g]?=w.heap[g]?):(l:List (Nat × Ty))->∀vs,KnRow S w l vs->KnRow S' w' l vs
 |[],vs,h=>by rw[KnRow]at h ⊢;exact h
 |(n,t)::r,vs,h=>by
  rw[KnRow]at h ⊢
  obtain⟨A,c,rest,h1,h2,h3⟩:=h;exact⟨A,c,rest,h1,h2.keep hS hk,KnRow.keep hS hk r rest h3⟩
def KnsV(S:Nat->Prop)(B:Nat)(w:World)(l:List (Nat × Ty))(v:Value):Prop :=
 ∃vs,w.ownsRow B 39 5 v l.length vs/\KnRow S w l vs
def AnsPost(mk:Nat)(G:Nat->Option Nd)(k:Sb)(w:World)(e:Ending)(w':World):Prop :=
 ∃v l T,e=.returned v/\KnsV T w.heap.size w' l v/\Told k l/\(∀g,T g->w.heap.size<=g/\g<w'.heap.size)/\Chg (λg=>g=mk\/∃x,G g=some x) w w'
def zoN:Prop:=∀(b mu mk B:Nat)(G:Nat->Option Nd)(L:List Nat)(U:Nat->Option Nat)(hd:Nat->Nat)(s:Int)(D:Nat->Dy)(mv v:Value)(k:Sb)(O:List Nat)(W:World),SolW b mu mk B G U hd s D mv v [] W->HdS G L hd k [] O->GrS G ->
 (∀n p,U n=some p->G p=some ⟨2,⟨#[]⟩,n,[],none,false⟩\/(hd p=p/\k n=.mt n))->(∀n,k n≠.mt n->∃p,U n=some p)->1+wg G [] L<=1000000 ->
 Calls Tryz.prog 37 #[.pointer (some ⟨b,0,none⟩)] W (AnsPost mk G k W)
def UnPost(ts:List (Ty × Ty))(w:World)(e:Ending)(w':World):Prop :=
 ∃f o,unF f (dbQ ts) .mt=some o/\Below w.heap.size w w'/\((∃m:Nat,o=.inl m/\m≠0/\e=.returned (.tuple #[.slice none 0 0,.int .i64 (m:Nat)])) \/
  ∃k v l T,o=.inr k/\e=.returned (.tuple #[v,.int .i64 0])/\KnsV T w.heap.size w' l v/\Told k l/\(∀g,T g->w.heap.size<=g/\g<w'.heap.size))
theorem zmw {G:Nat->Option Nd} :(L:List Nat)->(∀q∈L,∃x,G q=some x)->L.length<=wg G [] L
 |[],_=>AV _
 |q::L,h=>by
  obtain⟨x,hx⟩:=h q (by simp);have:=zmw L λz hz=>h z (by simp[hz]);rw[wg,hx,Ao]
  simp only[AT,BX];omega
theorem UrJ.start {b mv mu mk i:Nat} {w0 wr w6 w:World} {G:Nat->Option Nd} {D:Nat->Dy} {V:Name->Option Nat} {U:Nat->Option Nat} {L:List Nat} {f:Nat} {o:Nat ⊕ Sb} {es:List Eqn} {v6:Value} {e2 e3 e4:Nat}(hC:UfC b mv mu mk w0 G D V U wr)(py:Sim (rst G L) L (λp=>p) .mt es f o)(ru:∀q∈es,q.d=false)(hle:es.length=i)
  (hm:mu≠mk)(a1:Blk w6 b 85 #[v6,.map (some mv),.map (some mu),.map (some mk),.int .i64 0])(a2:w6.ownsRow w0.heap.size 78 3 v6 es.reverse.length (eqCells es.reverse))(a6:Chg (λg=>g=b) wr w6)(hB:UrB e2 e3 e4 b w6)(hb:Below w.heap.size w w6):UrJ b mu mk w0.heap.size (rst G L) L U (.map (some mv)) i L.length o e2 e3 e4 w (msr f es) [] es.reverse w6:=by
 have hk:∀(g:Nat) (x:Obj),wr.heap[g]?=some x->(∀cs,x≠.cells cs 85 (0,0))->w6.heap[g]?=wr.heap[g]?:=λg x hg hx=>a6.block g (Aj.1 hg).1 (λe=>by
  have e:g=b:=e;have hs:wr.heap[b]?=_:=hC.sb;rw[e,hs]at hg
  injection hg with hg;exact hx _ hg.symm)
 have hc:∀(g:Nat) (cs:Array Value) (t:TypeId),wr.heap[g]?=some (.cells cs t (0,0))->t≠85->w6.heap[g]?=wr.heap[g]?:=λg cs t hg ht=>hk g _ hg (λcs' e=>by injection e with _ e;exact ht e);have dC:∀ {κ:Type} [DecidableEq κ] {kv:κ->Value} {ok:World->κ->Prop} {m:Nat} {f:κ->Option Nat},MapK kv ok wr m f->w6.heap[m]?=wr.heap[m]?:=fun {κ} _ {kv ok m f} h=>by
  obtain⟨es,n,l,h1,_⟩:=h;exact hk m _ h1 (λ_ e=>by cases e)
 have bC:∀x,LaidQ wr x->LaidQ w6 x:=λx ⟨cs,hx⟩=>⟨cs,(hc x cs _ hx (by decide)).trans hx⟩;have hh:heads (λp=>p) L<=L.length:=Ci _ _;refine⟨λp=>p,.mt,f,0,D,v6,by rw[AL,BQ],by rw[AL,BQ];exact py,by rw[AL,BQ];exact StkS.start _ ru,by rw[AL,BQ];exact StkN.start _ ru (by omega),⟨a1,a2,⟨_,hC.kn.keep (dC hC.kn.mp) bC⟩,?_,MapK.keep hC.lays.mi (dC hC.lays.mi) (λ_ h=>h),λn p hn=>?_,λq x hx=>?_,λq x hx=>?_,λq x hx=>?_,hm,?_⟩,Int.le_refl _,by omega,λp hp=>absurd rfl hp,hB,hb⟩
 ·intro q x hx
  obtain⟨_,hx⟩:=zbD hx;obtain⟨A,c,hb,hr⟩:=hC.lays.pd q x hx;refine PartC.keep ⟨A,c,hb,hr⟩ (hc _ _ _ hb (by decide)) (λhn=>?_);obtain⟨_,cur,aa,_⟩:=hr hn;exact hc _ _ _ aa (by decide)
 ·exact bC p (hC.lays.pd p _ (hC.lays.un n p hn)).laid
 ·obtain⟨_,hx⟩:=zbD hx
  rw[(hC.lays.dn q x hx).2.1];exact Int.le_refl _
 ·obtain⟨_,hx⟩:=zbD hx
  exact(hC.lays.dn q x hx).1
 ·obtain⟨_,hx⟩:=zbD hx
  exact(hC.lays.dn q x hx).2.2
 ·exact AB hC.ch.size a6.size
attribute [local go_sem] Oper.semAt_some
theorem ziU(S:Nat->Prop)(ts:List (Ty × Ty))(A:Option Addr)(c:Nat)(w:World)(hin:EqsAt S w ts A)(hS:∀g,S g->g<w.heap.size)(az:∀t u,(t,u)∈ts->Nm t/\Nm u/\t.size<=1000000/\u.size<=1000000)(hn:ts.length<=1000)(hz:3*szQ ts+ts.length+1<=1000000)(yf:zoN):Calls Tryz.prog 14 #[.slice A ts.length c] w (UnPost ts w):=by
 obtain⟨i0,bm,bO,bD,bj⟩:=info_parts infoEq;refine(callsIn_wide (n:=10)).1 ?_;refine callsIn_of_wp_marks Tryz.func14 rfl trivial ?_ rfl;simp only[Tryz.ntmps14,Bf,Ao,Be,Nat.reduceAdd,Nat.reduceSub,Bq,Bp,BD,Bu,AL,AE];refine wpIn_wide.2 ?_;obtain⟨n,pI⟩:∃n,ts.length=n:=⟨_,rfl⟩;have HZ:=CS hz;have HANS:=CS yf;clear hz yf;rw[pI]at hn ⊢
 obtain⟨l0,l1,bk,aT⟩:=zaZ w (.cells #[.slice none 0 0] 28) (.cells #[.int .i64 0] 29);obtain⟨w2,dJ⟩:∃W,(w.alloc (.cells #[.slice none 0 0] 28)).alloc (.cells #[.int .i64 0] 29)=W:=⟨_,rfl⟩;rw[dJ]at l0 l1 bk aT
 have dz:=CS (zp0 w2);have HW2:=CS dJ;clear dJ;go_wp2_with fail
 rw[HW2.out]
 refine dz.out.mono ?_;rintro e w3 ⟨b,mv,mu,mk,rfl,n1,n2,n3,n4,n5,n6,n7,n8,n9,n10,n11,n12⟩;obtain⟨w0,qG⟩:∃X,w3.alloc (.cells #[.pointer (some ⟨b,0,none⟩)] 72)=X:=⟨_,rfl⟩;have aE:Below w3.heap.size w3 w0:=by rw[<-qG];exact(Below.refl _ w3).alloc (Ai _) _
 have fP:w0.heap.size=w3.heap.size+1:=by rw[<-qG];simp
 have xZ:Blk w0 w3.heap.size 72 #[.pointer (some ⟨b,0,none⟩)]:=by rw[<-qG];exact heap_alloc_new _ _
 have cY:=n8.size;have xF:∀(i:Nat) (t u:Ty),ts[i]?=some (t,u)->∃g At ct Au cu,A=some ⟨g,0,none⟩/\g<w.heap.size/\Cell4 w0 t At ct g (i*8)/\Args S w0 t At/\Cell4 w0 u Au cu g (i*8+4)/\Args S w0 u Au:=λi t u h=>by
  obtain⟨g,At,ct,Au,cu,h1,h2,h3,h4,h5,h6⟩:=hin i t u h;have hk:∀z,z<w.heap.size->w0.heap[z]?=w.heap[z]?:=λz hz=>(aE.block z (by omega)).trans ((n8.block z (by omega)).trans (aT.block z hz));exact⟨g,At,ct,Au,cu,h1,h2,h3.keep (hk g h2),h4.keep (λ_ h=>h) (λz hz=>hk z (hS z hz)),h5.keep (hk g h2),h6.keep (λ_ h=>h) (λz hz=>hk z (hS z hz))⟩
 have hC0:UfC b mv mu mk w0 (λ_=>none) (λ_=>⟨.slice none 0 0,false,0,0⟩) (λ_=>none) (λ_=>none) w0 :=
  ⟨n1.below aE n1.lt,⟨MapK.keep n2 (aE.block _ (MapK.lt n2)) (λ_ h=>h),MapK.keep n3 (aE.block _ (MapK.lt n3)) (λ_ h=>h),(λp x h=>by cases h),(λx p h=>by cases h),(λn p h=>by cases h),(λp x h=>by cases h)⟩,(λx p h=>by cases h),
   n4.keep (aE.block _ (MapK.lt n4.mp)) (λx ⟨cs,hx⟩=>⟨cs,(aE.block x (Aj.1 hx).1).trans hx⟩),Chg.refl _ _,(λq x h=>by cases h)⟩
 have gE:=CS hC0;have HIN:=CS xF;have cH:Hid (mv≠mu/\mk≠mv/\mk≠mu):=CS ⟨n5,Cw n6,Cw n7⟩;have zX:=CS xZ;have bK:=CS az;have HS:=CS hS;have vE:=CS pI;have iy:=CS qG;have HN8:=CS n8;have cQ:=CS aE;have bQ:=CS aT;have eU:=CS l0;have fp:=CS l1;have aC:Hid (mv<w3.heap.size/\mu<w3.heap.size/\w2.heap.size<=mv/\w2.heap.size<=mu/\w2.heap.size<=mk/\w2.heap.size<=b/\b<w3.heap.size/\mk<w3.heap.size):=CS ⟨MapK.lt n2,MapK.lt n3,n9,n10,n11,n12,n1.lt,MapK.lt n4.mp⟩;clear hin hS az n1 n2 n3 n4 n5 n6 n7 n8 n9 n10 n11 n12 xF hC0 xZ pI qG aE aT l0 l1;go_wp2_with fail
 rw[iy.out]
 go_loopg [5,13] n (λgg v5 vi wr=>UfH b mv mu mk w0 ts n gg v5 vi wr)
 case atStart =>
  refine⟨0,[],[],_,_,_,_,rfl,rfl,AV _,rfl,gE.out,?_,Bw,(λx hx=>by cases hx),World.ownsRow_nil _ _ _ _⟩;rw[Ba,LayQ]
  exact⟨rfl,rfl⟩
 case round =>
  obtain⟨i,es,ns,G,D,V,U,rfl,rfl,hi,hle,hC,hq,dQ,ah,ho⟩:=hrel;obtain⟨A5,c5,rfl⟩:=zam ho;have dE:=hC.ch;by_cases hin:i<n
  ·obtain⟨⟨t,u⟩,htu⟩:∃p,ts[i]?=some p:=⟨_,Ak (by rw[vE.out];exact hin)⟩
   obtain⟨g,At,ct,Au,cu,rfl,hg,bc,tn,cw,tm⟩:=HIN.out i t u htu;have xI:∀z,z<w.heap.size->wr.heap[z]?=w0.heap[z]?:=λz hz=>dE.block z (by omega) (λe=>by have:=aC.out;have:=bQ.out.size;omega);have vb:=bc.keep (w':=wr) (xI g hg);have oJ:=cw.keep (w':=wr) (xI g hg);have e1:=tn.keep (w':=wr) (S':=S) (λ_ h=>h) (λz hz=>xI z (HS.out z hz));have e2:=tm.keep (w':=wr) (S':=S) (λ_ h=>h) (λz hz=>xI z (HS.out z hz));obtain⟨f0,f1,f2,f3⟩:=vb;obtain⟨f4,f5,f6,f7⟩:=oJ;replace f5:wr.cell? ⟨g,i*8+5,none⟩=_:=f5;replace f6:wr.cell? ⟨g,i*8+6,none⟩=_:=f6;replace f7:wr.cell? ⟨g,i*8+7,none⟩=_:=f7;have fy:Blk wr w3.heap.size 72 #[.pointer (some ⟨b,0,none⟩)]:=zX.out.chg dE (λe=>by have:=aC.out;omega);have b4:wr.cell? ⟨w3.heap.size,0,none⟩=some (.pointer (some ⟨b,0,none⟩)):=fy.cell 0;have l4:=fy.lt;have ey:i<n:=hin;go_upto_region 6 with fail
   have iP:=bK.out t u (AX htu);obtain⟨W7,rF⟩:∃X,wr.alloc (.cells #[.int .i64 (kd t:Nat),.string (nmB t),.int .i64 (nn t:Nat),.slice At (kids t).length ct,.int .i64 (kd u:Nat),.string (nmB u),.int .i64 (nn u:Nat),.slice Au (kids u).length cu] 52)=X:=⟨_,rfl⟩;have ef:Below wr.heap.size wr W7:=by rw[<-rF];exact(Below.refl _ wr).alloc (Ai _) _
   have ju:Below wr.heap.size wr W7.drew:=⟨ef.os,ef.tape,ef.output,ef.size,ef.block⟩;have kG:W7.heap.size=wr.heap.size+1:=by rw[<-rF];simp
   have lu:Blk W7.drew w3.heap.size 72 #[.pointer (some ⟨b,0,none⟩)]:=fy.below ju l4;have kK:Blk W7.drew wr.heap.size 52 #[.int .i64 (kd t:Nat),.string (nmB t),.int .i64 (nn t:Nat),.slice At (kids t).length ct,.int .i64 (kd u:Nat),.string (nmB u),.int .i64 (nn u:Nat),.slice Au (kids u).length cu]:=by
    rw[<-rF];exact heap_alloc_new _ _
   have y0:W7.drew.cell? ⟨wr.heap.size,0,none⟩=some (.int .i64 (kd t:Nat)):=kK.cell 0;have y1:W7.drew.cell? ⟨wr.heap.size,1,none⟩=some (.string (nmB t)):=kK.cell 1;have y2:W7.drew.cell? ⟨wr.heap.size,2,none⟩=some (.int .i64 (nn t:Nat)):=kK.cell 2;have y3:W7.drew.cell? ⟨wr.heap.size,3,none⟩=some (.slice At (kids t).length ct):=kK.cell 3;have y4:W7.drew.cell? ⟨wr.heap.size,4,none⟩=some (.int .i64 (kd u:Nat)):=kK.cell 4;have y5:W7.drew.cell? ⟨wr.heap.size,5,none⟩=some (.string (nmB u)):=kK.cell 5;have y6:W7.drew.cell? ⟨wr.heap.size,6,none⟩=some (.int .i64 (nn u:Nat)):=kK.cell 6;have y7:W7.drew.cell? ⟨wr.heap.size,7,none⟩=some (.slice Au (kids u).length cu):=kK.cell 7;have yl:wr.heap.size<W7.drew.heap.size:=kK.lt;have x4:W7.drew.cell? ⟨w3.heap.size,0,none⟩=some (.pointer (some ⟨b,0,none⟩)):=lu.cell 0;have xl:w3.heap.size<W7.drew.heap.size:=lu.lt;have hC7:=hC.keep ju;have hS7:∀z,S z->z<W7.drew.heap.size/\z≠mv/\z≠mu:=λz hz=>by have h1:=HS.out z hz;have:=aC.out;have:=bQ.out.size;have:=dE.size;have:W7.drew.heap.size=wr.heap.size+1:=kG;omega
   have bE:RdV S W7.drew t (.agg #[.int .i64 (kd t:Nat),.string (nmB t),.int .i64 (nn t:Nat),.slice At (kids t).length ct]):=⟨At,ct,rfl,e1.keep (λ_ h=>h) (λz hz=>ju.block z (by have:=HS.out z hz;have:=bQ.out.size;have:=dE.size;omega))⟩;have cR:RdV S W7.drew u (.agg #[.int .i64 (kd u:Nat),.string (nmB u),.int .i64 (nn u:Nat),.slice Au (kids u).length cu]):=⟨Au,cu,rfl,e2.keep (λ_ h=>h) (λz hz=>ju.block z (by have:=HS.out z hz;have:=bQ.out.size;have:=dE.size;omega))⟩;have hseq:=hle;have e6:mv<wr.heap.size/\mu<wr.heap.size/\w3.heap.size≠mv/\w3.heap.size≠mu/\wr.heap.size≠mv/\wr.heap.size≠mu/\w0.heap.size<=wr.heap.size/\(∀k,w0.heap.size<=k->k≠mv/\k≠mu):=by
    have h1:=aC.out;have h2:=dE.size;refine⟨by omega,by omega,by omega,by omega,by omega,by omega,h2,λk hk=>by omega⟩
   have wC:∀p w5,UfP b mv mu mk w0 G D V U W7.drew t p w5->Calls Tryz.prog 33 #[.pointer (some ⟨b,0,none⟩),.agg #[.int .i64 (kd u:Nat),.string (nmB u),.int .i64 (nn u:Nat),.slice Au (kids u).length cu]] w5 λe w6=>∃q,e=.returned (.pointer (some ⟨q,0,none⟩))/\w0.heap.size<=w6.heap.size /\
     Hid (∀j v,[Value.pointer (some ⟨p,0,none⟩),.pointer (some ⟨q,0,none⟩),.bool false][j]?=some v->(w6.alloc (.cells #[.pointer (some ⟨p,0,none⟩),.pointer (some ⟨q,0,none⟩),.bool false] 78)).cell? ((⟨w6.heap.size,0,none⟩:Addr).add j)=some v) /\
     Hid ((w6.alloc (.cells #[.pointer (some ⟨p,0,none⟩),.pointer (some ⟨q,0,none⟩),.bool false] 78)).ownsRow w0.heap.size 78 3 (.slice A5 i c5) i (eqCells es))/\Hid (UfT b mv mu mk w0 G D V U W7.drew t u p q w6)/\Hid (w6.cell? ⟨w3.heap.size,0,none⟩=some (.pointer (some ⟨b,0,none⟩))/\w6.cell? ⟨wr.heap.size,0,none⟩=some (.int .i64 (kd t:Nat))/\w6.cell? ⟨wr.heap.size,1,none⟩=some (.string (nmB t))/\w6.cell? ⟨wr.heap.size,2,none⟩=some (.int .i64 (nn t:Nat))/\w6.cell? ⟨wr.heap.size,3,none⟩=some (.slice At (kids t).length ct)/\w6.cell? ⟨wr.heap.size,4,none⟩=some (.int .i64 (kd u:Nat))/\w6.cell? ⟨wr.heap.size,5,none⟩=some (.string (nmB u))/\w6.cell? ⟨wr.heap.size,6,none⟩=some (.int .i64 (nn u:Nat))/\w6.cell? ⟨wr.heap.size,7,none⟩=some (.slice Au (kids u).length cu))/\Hid ((w6.alloc (.cells #[.pointer (some ⟨p,0,none⟩),.pointer (some ⟨q,0,none⟩),.bool false] 78)).cell? ⟨w3.heap.size,0,none⟩=some (.pointer (some ⟨b,0,none⟩))/\(w6.alloc (.cells #[.pointer (some ⟨p,0,none⟩),.pointer (some ⟨q,0,none⟩),.bool false] 78)).cell? ⟨wr.heap.size,0,none⟩=some (.int .i64 (kd t:Nat))/\(w6.alloc (.cells #[.pointer (some ⟨p,0,none⟩),.pointer (some ⟨q,0,none⟩),.bool false] 78)).cell? ⟨wr.heap.size,1,none⟩=some (.string (nmB t))/\(w6.alloc (.cells #[.pointer (some ⟨p,0,none⟩),.pointer (some ⟨q,0,none⟩),.bool false] 78)).cell? ⟨wr.heap.size,2,none⟩=some (.int .i64 (nn t:Nat))/\(w6.alloc (.cells #[.pointer (some ⟨p,0,none⟩),.pointer (some ⟨q,0,none⟩),.bool false] 78)).cell? ⟨wr.heap.size,3,none⟩=some (.slice At (kids t).length ct)/\(w6.alloc (.cells #[.pointer (some ⟨p,0,none⟩),.pointer (some ⟨q,0,none⟩),.bool false] 78)).cell? ⟨wr.heap.size,4,none⟩=some (.int .i64 (kd u:Nat))/\(w6.alloc (.cells #[.pointer (some ⟨p,0,none⟩),.pointer (some ⟨q,0,none⟩),.bool false] 78)).cell? ⟨wr.heap.size,5,none⟩=some (.string (nmB u))/\(w6.alloc (.cells #[.pointer (some ⟨p,0,none⟩),.pointer (some ⟨q,0,none⟩),.bool false] 78)).cell? ⟨wr.heap.size,6,none⟩=some (.int .i64 (nn u:Nat))/\(w6.alloc (.cells #[.pointer (some ⟨p,0,none⟩),.pointer (some ⟨q,0,none⟩),.bool false] 78)).cell? ⟨wr.heap.size,7,none⟩=some (.slice Au (kids u).length cu))/\Hid (∀w9,(w6.alloc (.cells #[.pointer (some ⟨p,0,none⟩),.pointer (some ⟨q,0,none⟩),.bool false] 78)).grownBy w9 (Value.slice A5 i c5).ownBlock->w9.cell? ⟨w3.heap.size,0,none⟩=some (.pointer (some ⟨b,0,none⟩))/\w9.cell? ⟨wr.heap.size,0,none⟩=some (.int .i64 (kd t:Nat))/\w9.cell? ⟨wr.heap.size,1,none⟩=some (.string (nmB t))/\w9.cell? ⟨wr.heap.size,2,none⟩=some (.int .i64 (nn t:Nat))/\w9.cell? ⟨wr.heap.size,3,none⟩=some (.slice At (kids t).length ct)/\w9.cell? ⟨wr.heap.size,4,none⟩=some (.int .i64 (kd u:Nat))/\w9.cell? ⟨wr.heap.size,5,none⟩=some (.string (nmB u))/\w9.cell? ⟨wr.heap.size,6,none⟩=some (.int .i64 (nn u:Nat))/\w9.cell? ⟨wr.heap.size,7,none⟩=some (.slice Au (kids u).length cu)):=λp w5 h5=>by
    refine(UfP.next cH.out h5 iP.2.2.2 cR hS7 iP.2.1).mono ?_;rintro e w6 ⟨q,rfl,h6⟩;have oL:Chg (λg=>g=mv\/g=mu) W7.drew w6:=by obtain⟨_,_,_,_,_,_,_,_,_,_,_,_,h⟩:=h6;exact h
    have mX:=oL.size;have pD:=kK.chg oL (λh=>by rcases h with h|h;exact e6.2.2.2.2.1 h;exact e6.2.2.2.2.2.1 h);have uN:=lu.chg oL (λh=>by rcases h with h|h;exact e6.2.2.1 h;exact e6.2.2.2.1 h);have gp:=pD.alloc (.cells #[.pointer (some ⟨p,0,none⟩),.pointer (some ⟨q,0,none⟩),.bool false] 78);have vT:=uN.alloc (.cells #[.pointer (some ⟨p,0,none⟩),.pointer (some ⟨q,0,none⟩),.bool false] 78);have h7s:W7.drew.heap.size=wr.heap.size+1:=kG;refine⟨q,rfl,by have:=e6.2.2.2.2.2.2.1;omega,CS (zas _ _ _ _ (by simp)),CS ((zan ho (λk hk=>(oL.block k (by have h1:=(zab ho k hk).2.1;omega) (λh=>by
     have h1:=e6.2.2.2.2.2.2.2 k (zab ho k hk).1;rcases h with h|h
     ·exact h1.1 h
     ·exact h1.2 h)).trans (ju.block k (zab ho k hk).2.1))).alloc _),CS h6,CS ⟨uN.cell 0,pD.cell 0,pD.cell 1,pD.cell 2,pD.cell 3,pD.cell 4,pD.cell 5,pD.cell 6,pD.cell 7⟩,CS ⟨vT.cell 0,gp.cell 0,gp.cell 1,gp.cell 2,gp.cell 3,gp.cell 4,gp.cell 5,gp.cell 6,gp.cell 7⟩,CS λw9 hg9=>?_⟩
    have qT:=gp.grown hg9 (λe=>by have:=(zab ho _ e.symm).2.1;omega);have hx9:=vT.grown hg9 (λe=>by have:=(zab ho _ e.symm).1;omega);exact⟨hx9.cell 0,qT.cell 0,qT.cell 1,qT.cell 2,qT.cell 3,qT.cell 4,qT.cell 5,qT.cell 6,qT.cell 7⟩
   have xM:Calls Tryz.prog 33 #[.pointer (some ⟨b,0,none⟩),.agg #[.int .i64 (kd t:Nat),.string (nmB t),.int .i64 (nn t:Nat),.slice At (kids t).length ct]] W7.drew λe w5=>∃p,e=.returned (.pointer (some ⟨p,0,none⟩))/\Hid (w5.cell? ⟨w3.heap.size,0,none⟩=some (.pointer (some ⟨b,0,none⟩))/\w5.cell? ⟨wr.heap.size,0,none⟩=some (.int .i64 (kd t:Nat))/\w5.cell? ⟨wr.heap.size,1,none⟩=some (.string (nmB t))/\w5.cell? ⟨wr.heap.size,2,none⟩=some (.int .i64 (nn t:Nat))/\w5.cell? ⟨wr.heap.size,3,none⟩=some (.slice At (kids t).length ct)/\w5.cell? ⟨wr.heap.size,4,none⟩=some (.int .i64 (kd u:Nat))/\w5.cell? ⟨wr.heap.size,5,none⟩=some (.string (nmB u))/\w5.cell? ⟨wr.heap.size,6,none⟩=some (.int .i64 (nn u:Nat))/\w5.cell? ⟨wr.heap.size,7,none⟩=some (.slice Au (kids u).length cu))/\wr.heap.size<w5.heap.size/\w3.heap.size<w5.heap.size /\
     Hid (Calls Tryz.prog 33 #[.pointer (some ⟨b,0,none⟩),.agg #[.int .i64 (kd u:Nat),.string (nmB u),.int .i64 (nn u:Nat),.slice Au (kids u).length cu]] w5 λe w6=>∃q,e=.returned (.pointer (some ⟨q,0,none⟩))/\w0.heap.size<=w6.heap.size /\
     Hid (∀j v,[Value.pointer (some ⟨p,0,none⟩),.pointer (some ⟨q,0,none⟩),.bool false][j]?=some v->(w6.alloc (.cells #[.pointer (some ⟨p,0,none⟩),.pointer (some ⟨q,0,none⟩),.bool false] 78)).cell? ((⟨w6.heap.size,0,none⟩:Addr).add j)=some v) /\
     Hid ((w6.alloc (.cells #[.pointer (some ⟨p,0,none⟩),.pointer (some ⟨q,0,none⟩),.bool false] 78)).ownsRow w0.heap.size 78 3 (.slice A5 i c5) i (eqCells es))/\Hid (UfT b mv mu mk w0 G D V U W7.drew t u p q w6)/\Hid (w6.cell? ⟨w3.heap.size,0,none⟩=some (.pointer (some ⟨b,0,none⟩))/\w6.cell? ⟨wr.heap.size,0,none⟩=some (.int .i64 (kd t:Nat))/\w6.cell? ⟨wr.heap.size,1,none⟩=some (.string (nmB t))/\w6.cell? ⟨wr.heap.size,2,none⟩=some (.int .i64 (nn t:Nat))/\w6.cell? ⟨wr.heap.size,3,none⟩=some (.slice At (kids t).length ct)/\w6.cell? ⟨wr.heap.size,4,none⟩=some (.int .i64 (kd u:Nat))/\w6.cell? ⟨wr.heap.size,5,none⟩=some (.string (nmB u))/\w6.cell? ⟨wr.heap.size,6,none⟩=some (.int .i64 (nn u:Nat))/\w6.cell? ⟨wr.heap.size,7,none⟩=some (.slice Au (kids u).length cu))/\Hid ((w6.alloc (.cells #[.pointer (some ⟨p,0,none⟩),.pointer (some ⟨q,0,none⟩),.bool false] 78)).cell? ⟨w3.heap.size,0,none⟩=some (.pointer (some ⟨b,0,none⟩))/\(w6.alloc (.cells #[.pointer (some ⟨p,0,none⟩),.pointer (some ⟨q,0,none⟩),.bool false] 78)).cell? ⟨wr.heap.size,0,none⟩=some (.int .i64 (kd t:Nat))/\(w6.alloc (.cells #[.pointer (some ⟨p,0,none⟩),.pointer (some ⟨q,0,none⟩),.bool false] 78)).cell? ⟨wr.heap.size,1,none⟩=some (.string (nmB t))/\(w6.alloc (.cells #[.pointer (some ⟨p,0,none⟩),.pointer (some ⟨q,0,none⟩),.bool false] 78)).cell? ⟨wr.heap.size,2,none⟩=some (.int .i64 (nn t:Nat))/\(w6.alloc (.cells #[.pointer (some ⟨p,0,none⟩),.pointer (some ⟨q,0,none⟩),.bool false] 78)).cell? ⟨wr.heap.size,3,none⟩=some (.slice At (kids t).length ct)/\(w6.alloc (.cells #[.pointer (some ⟨p,0,none⟩),.pointer (some ⟨q,0,none⟩),.bool false] 78)).cell? ⟨wr.heap.size,4,none⟩=some (.int .i64 (kd u:Nat))/\(w6.alloc (.cells #[.pointer (some ⟨p,0,none⟩),.pointer (some ⟨q,0,none⟩),.bool false] 78)).cell? ⟨wr.heap.size,5,none⟩=some (.string (nmB u))/\(w6.alloc (.cells #[.pointer (some ⟨p,0,none⟩),.pointer (some ⟨q,0,none⟩),.bool false] 78)).cell? ⟨wr.heap.size,6,none⟩=some (.int .i64 (nn u:Nat))/\(w6.alloc (.cells #[.pointer (some ⟨p,0,none⟩),.pointer (some ⟨q,0,none⟩),.bool false] 78)).cell? ⟨wr.heap.size,7,none⟩=some (.slice Au (kids u).length cu))/\Hid (∀w9,(w6.alloc (.cells #[.pointer (some ⟨p,0,none⟩),.pointer (some ⟨q,0,none⟩),.bool false] 78)).grownBy w9 (Value.slice A5 i c5).ownBlock->w9.cell? ⟨w3.heap.size,0,none⟩=some (.pointer (some ⟨b,0,none⟩))/\w9.cell? ⟨wr.heap.size,0,none⟩=some (.int .i64 (kd t:Nat))/\w9.cell? ⟨wr.heap.size,1,none⟩=some (.string (nmB t))/\w9.cell? ⟨wr.heap.size,2,none⟩=some (.int .i64 (nn t:Nat))/\w9.cell? ⟨wr.heap.size,3,none⟩=some (.slice At (kids t).length ct)/\w9.cell? ⟨wr.heap.size,4,none⟩=some (.int .i64 (kd u:Nat))/\w9.cell? ⟨wr.heap.size,5,none⟩=some (.string (nmB u))/\w9.cell? ⟨wr.heap.size,6,none⟩=some (.int .i64 (nn u:Nat))/\w9.cell? ⟨wr.heap.size,7,none⟩=some (.slice Au (kids u).length cu))):=by
    refine(zj0 hC7 cH.out iP.2.2.1 bE hS7 iP.1).mono ?_;rintro e w5 ⟨p,rfl,h5⟩;have br:Chg (λg=>g=mv\/g=mu) W7.drew w5:=by obtain⟨_,_,_,_,_,_,_,_,_,_,h⟩:=h5;exact h
    have pE:=kK.chg br (λh=>by rcases h with h|h;exact e6.2.2.2.2.1 h;exact e6.2.2.2.2.2.1 h);have gh:=lu.chg br (λh=>by rcases h with h|h;exact e6.2.2.1 h;exact e6.2.2.2.1 h);exact⟨p,rfl,CS ⟨gh.cell 0,pE.cell 0,pE.cell 1,pE.cell 2,pE.cell 3,pE.cell 4,pE.cell 5,pE.cell 6,pE.cell 7⟩,pE.lt,gh.lt,CS (wC p w5 h5)⟩
   have S0:Hid (W7.drew.cell? ⟨w3.heap.size,0,none⟩=some (.pointer (some ⟨b,0,none⟩))/\W7.drew.cell? ⟨wr.heap.size,0,none⟩=some (.int .i64 (kd t:Nat))/\W7.drew.cell? ⟨wr.heap.size,1,none⟩=some (.string (nmB t))/\W7.drew.cell? ⟨wr.heap.size,2,none⟩=some (.int .i64 (nn t:Nat))/\W7.drew.cell? ⟨wr.heap.size,3,none⟩=some (.slice At (kids t).length ct)/\W7.drew.cell? ⟨wr.heap.size,4,none⟩=some (.int .i64 (kd u:Nat))/\W7.drew.cell? ⟨wr.heap.size,5,none⟩=some (.string (nmB u))/\W7.drew.cell? ⟨wr.heap.size,6,none⟩=some (.int .i64 (nn u:Nat))/\W7.drew.cell? ⟨wr.heap.size,7,none⟩=some (.slice Au (kids u).length cu)):=CS ⟨x4,y0,y1,y2,y3,y4,y5,y6,y7⟩;have av:=CS xM;have HC:=CS hC;have HQ:=CS hq;have HND:=CS dQ;have HLTN:=CS ah;have HO:=CS ho;have HB7:=CS ju;have HQ7:=CS kK;have HBX7:=CS lu;have ov:=CS dE;have HW7:=CS rF;have lI:=CS htu;have HS7:Hid (W7.drew.heap.size=wr.heap.size+1):=CS kG;have ui:=CS hle;clear x4 y0 y1 y2 y3 y4 y5 y6 y7 f0 f1 f2 f3 f4 f5 f6 f7;clear hC hq dQ ah ef ju kK lu dE hC7 hS7 bE cR htu kG hle fy xI hseq e6 wC xM bc cw tn tm e1 e2 ho;rw[HW7.out]
   refine wp_region_noPanic ?_;go_region_held3 (λW:World=>W.cell? ⟨w3.heap.size,0,none⟩=some (.pointer (some ⟨b,0,none⟩))/\W.cell? ⟨wr.heap.size,0,none⟩=some (.int .i64 (kd t:Nat))/\W.cell? ⟨wr.heap.size,1,none⟩=some (.string (nmB t))/\W.cell? ⟨wr.heap.size,2,none⟩=some (.int .i64 (nn t:Nat))/\W.cell? ⟨wr.heap.size,3,none⟩=some (.slice At (kids t).length ct)/\W.cell? ⟨wr.heap.size,4,none⟩=some (.int .i64 (kd u:Nat))/\W.cell? ⟨wr.heap.size,5,none⟩=some (.string (nmB u))/\W.cell? ⟨wr.heap.size,6,none⟩=some (.int .i64 (nn u:Nat))/\W.cell? ⟨wr.heap.size,7,none⟩=some (.slice Au (kids u).length cu)) (first|(with_reducible exact S0.out)|(with_reducible exact S5.out)|(with_reducible exact S6.out)|(with_reducible exact S6a.out)|(with_reducible exact SG6.out _ qy.out))
    ((first
     |((with_reducible refine av.out.mono ?_);rintro e w5 ⟨p,rfl,S5,zl,zm,fC⟩)
     |((with_reducible refine fC.out.mono ?_);rintro e w6 ⟨q,rfl,mX,rS,nZ,H6,S6,S6a,SG6⟩)
     |(refine step_append_lies _ (by rfl) _ _ _ (by rfl) w0.heap.size 78 i0 _ 3 24 Tryz.underlying74 bm bO bD bj rfl (by decide) _ i (eqCells es) (by rfl) nZ.out ⟨w6.heap.size,0,none⟩ 1 1 [.pointer (some ⟨p,0,none⟩),.pointer (some ⟨q,0,none⟩),.bool false] rfl rfl rS.out (by intro v hv;simp at hv;rcases hv with rfl|rfl|rfl <;> rfl) (by omega) (by unfold maxLen;omega) (by omega) (by first|omega|(simp;done)|(simp;omega)) _ rfl ?_;intro g9 c9 w9 fS ae bF hlt9;have zu:=CS fS;have qy:=CS ae;have HA9:=CS bF;clear fS ae bF)))
   have HF:Hid (UfH b mv mu mk w0 ts n (n-(i+1)) (.slice (some ⟨g9,0,none⟩) (i+1) c9) (.int .i64 ((i+1:Nat):Nat)) w9):=CS (by
    refine UfH.next hin lI.out ui.out HC.out HQ.out HND.out HLTN.out HB7.out H6.out (λk hk=>?_) qy.out ?_
    ·obtain⟨h1,h2,_⟩:=zab HO.out k hk
     obtain⟨_,_,cur,aa⟩:=zab nZ.out k hk;have h4:wr.heap.size<=w6.heap.size:=by
      obtain⟨_,_,_,_,_,_,_,_,_,_,_,_,h⟩:=H6.out;have:=h.size;have:=HS7.out;omega
     exact⟨h1,cur,(Below.heap_alloc _ _ _ (by omega)).symm.trans aa⟩
    ·rw[zbH];exact zu.out)
   clear S0 S5 S6 S6a SG6 zu qy HA9 rS nZ H6 av fC zl zm;refine NoPanic.normal ?_;go_wp2_with fail
   go_roundg (n-(i+1))
   case measure=>omega
   case rel=>exact HF.out
  ·have dD:i=n:=by omega
   subst dD;have iE:ts.take i=ts:=AK (by rw[vE.out];exact Ai _);rw[iE]at hq
   obtain⟨L,f,o,vV,hgs,ru,hLn,iX,wj,py⟩:=hq.sim hC.lays.un hC.vf dQ;have hA:∀(j:Nat) (q:Eqn),es[j]?=some q->∃g,A5=some ⟨g,0,none⟩/\g<wr.heap.size/\g≠b/\(Value.slice none 0 0).ownBlock≠some g/\wr.cell? ⟨g,j*3,none⟩=some (.pointer (some ⟨q.l,0,none⟩))/\wr.cell? ⟨g,j*3+1,none⟩=some (.pointer (some ⟨q.r,0,none⟩))/\wr.cell? ⟨g,j*3+2,none⟩=some (.bool q.d):=λj q hj=>by
    have jU:j<es.length:=(Aw.1 hj).1;have et:=ho;rcases ho.2 with⟨_,h0⟩|⟨g,cap,cur,hv,h1,h2,_⟩
    ·omega
    ·injection hv with e1 _ _
     subst e1;obtain⟨g1,g2,g3⟩:=zgl et;exact⟨g,rfl,g2,Blk.ne_ (show Blk wr g _ cur from h2) hC.sb (by decide),by simp[Value.ownBlock],g3 j q hj⟩
   have bS:=zgO b w0.heap.size 85 #[.slice none 0 0,.map (some mv),.map (some mu),.map (some mk),.int .i64 0] (by simp) [] es (.slice none 0 0) A5 c5 wr hC.sb (World.ownsRow_nil _ _ _ _) dE.size (by simp[Value.ownBlock]) (by simp;omega) hA;rw[hle]at bS
   have fy:Blk wr w3.heap.size 72 #[.pointer (some ⟨b,0,none⟩)]:=zX.out.chg dE (λe=>by have:=aC.out;omega);have b4:wr.cell? ⟨w3.heap.size,0,none⟩=some (.pointer (some ⟨b,0,none⟩)):=fy.cell 0;have l4:=fy.lt;have dA:=CS bS;have HC:=CS hC;have oU:=CS fy;clear bS hA hC fy;have lb:b<wr.heap.size:=HC.out.sb.lt;go_wp2_with fail
   refine dA.out.mono ?_;rintro e w6 ⟨⟨ve,rfl⟩,v6,a1,a2,-,-,-,a6⟩;have x4:w6.cell? ⟨w3.heap.size,0,none⟩=some (.pointer (some ⟨b,0,none⟩)):=(oU.out.chg a6 (λh=>by rcases h with h|h;have:=aC.out;omega;cases h)).cell 0;have xl:=(oU.out.chg a6 (λh=>by rcases h with h|h;have:=aC.out;omega;cases h)).lt;have xb:b<w6.heap.size:=As lb a6.size;go_wp2_with fail
   refine(wpIn_wide (n:=10)).1 ?_;have hle0:=dE.size;have sk:w.heap.size<=w0.heap.size:=by have:=bQ.out.size;omega
   have tf:Below w.heap.size w w6:=by
    refine(bQ.out.trans (HN8.out.mono (by omega))).trans ((cQ.out.mono (by omega)).trans ((dE.toBelow sk (λk hk h=>?_)).trans (a6.toBelow (by omega) (λk hk h=>?_))))
    ·have:=aC.out;rcases h with h|h <;> omega
    ·have:=aC.out
     rcases h with h|h
     ·omega
     ·cases h
   have fy:∀(g:Nat) (cs:Array Value) (t:TypeId),Blk w2 g t cs->Blk w6 g t cs:=λg cs t hg=>by
    have hl:=hg.lt;have h0:Blk w0 g t cs:=(hg.below HN8.out hl).below cQ.out (by omega);refine(h0.chg dE (λh=>?_)).chg a6 (λh=>?_)
    ·have:=aC.out;rcases h with h|h <;> omega
    ·have:=aC.out
     rcases h with h|h
     ·omega
     ·cases h
   have uQ:UrB w.heap.size (w.heap.size+1) w3.heap.size b w6:=⟨fy _ _ _ eU.out,fy _ _ _ fp.out,oU.out.chg a6 (λh=>by rcases h with h|h;have:=aC.out;omega;cases h)⟩;have hlen:=zmw (G:=rst G L) L (λq hq=>by obtain⟨x,hx⟩:=hLn q hq;exact⟨x,by rw[zjb hq];exact hx⟩);have rH:=UrJ.start (w:=w) HC.out py (λq hq=>(ru q hq).1) hle (Cw cH.out.2.2) a1 (by simpa using a2) (a6.mono (λk _ h=>by rcases h with h|h;exact h;cases h)) uQ tf;have kz:1+i+wg (rst G L) [] L<=1000000:=by have:=HZ.out;have:=vE.out;omega
   have hN0:L.length<=1000000:=by omega
   have eA:∀n p,U n=some p->rst G L p=some ⟨2,⟨#[]⟩,n,[],none,false⟩\/p∉L:=λn p sy=>by
    by_cases hp:p∈L
    ·exact .inl (by rw[zjb hp];exact HC.out.lays.un n p sy)
    ·exact .inr hp
   have pL:∀q x,rst G L q=some x->w.heap.size<=q:=λq x hx=>by have:=HC.out.lo q x (zbD hx).2;omega
   obtain⟨G1,j8⟩:∃X,rst G L=X:=⟨_,rfl⟩;have pG:∀p,p∉L->G1 p=none:=λp hp=>by rw[<-j8];unfold rst;rw[Am hp]
   rw[j8]at hgs rH kz eA pL
   have hbwb:w.heap.size<=b:=by have:=aC.out;omega
   have hmkw:w.heap.size<=mk:=by have:=aC.out;omega
   have H0:=CS rH;have HGS:=CS hgs;have lH:=CS kz;have HN0:=CS hN0;have HFIN:=CS eA;have ug:=CS pL;have HNOT:=CS pG;have HOCC:=CS iX;have tI:=CS wj;have jC:Hid (w.heap.size<=w6.heap.size):=CS tf.size;have rO:Hid (w.heap.size+2<=w6.heap.size):=CS (by have h1:=a6.size;have h2:=dE.size;omega);have uh:Hid (b<w6.heap.size/\mk<w6.heap.size):=CS ⟨xb,by have:=aC.out;have:=a6.size;omega⟩;obtain⟨E4,hE4⟩:∃n,w3.heap.size=n:=⟨_,rfl⟩;obtain⟨B0,hB0⟩:∃n,w0.heap.size=n:=⟨_,rfl⟩;rw[hE4]at H0 ⊢
   rw[hB0]at H0
   have cQ:Hid (w.heap.size<=B0):=CS (by omega);clear hq dQ ah ho dE py ru hLn iX wj hgs kz hN0 eA pL pG rH uQ fy tf hlen vV a1 a2 a6 hle0 sk x4 xl xb l4 b4 lb fP cY dA HC oU hE4 hB0;refine zch (σ:=Nat × Eqn × List Eqn) rfl (by omega) (gf:=35) (fb:=#[.pointer (some ⟨b,0,none⟩)]) (lb:=#[]) rfl trivial (enters_of Tryz.func35 (by kernel_rfl) rfl)
    (λx=>#[.agg #[.pointer (some ⟨x.2.1.l,0,none⟩),.pointer (some ⟨x.2.1.r,0,none⟩),.bool x.2.1.d]]) (λ_=>rfl)
    (λx W=>UrJ b mu mk B0 G1 L U (.map (some mv)) i L.length o w.heap.size (w.heap.size+1) E4 w x.1 [x.2.1] x.2.2 W)
    (λx W=>∃N' l',N'<x.1/\UrJ b mu mk B0 G1 L U (.map (some mv)) i L.length o w.heap.size (w.heap.size+1) E4 w N' [] l' W)
    (λx a₁ W=>∃x8,Blk W x8 78 #[.pointer (some ⟨x.2.1.l,0,none⟩),.pointer (some ⟨x.2.1.r,0,none⟩),.bool x.2.1.d]/\UrJ b mu mk B0 G1 L U (.map (some mv)) i L.length o w.heap.size (w.heap.size+1) E4 w x.1 [x.2.1] x.2.2 W/\a₁ = { tmps:=#[Value.slice A i c,undef,Value.pointer (some ⟨w.heap.size,0,none⟩),
     Value.pointer (some ⟨w.heap.size+1,0,none⟩),Value.pointer (some ⟨E4,0,none⟩),Value.slice A5 i c5,undef,u7,Value.pointer (some ⟨x8,0,none⟩),undef,
     Value.pointer (some ⟨b,0,none⟩),Value.slice A i c,Value.int IntKind.i64 (i:Nat),Value.int IntKind.i64 (i:Nat),Value.bool false,u15,u16,u17,u18,u19,u20,u21,u22,u23,u24,u25,u26,u27,
     u28,u29,Value.pointer (some ⟨b,0,none⟩),Value.pointer (some ⟨b,0,none⟩),Value.pointer (some ⟨b,0,none⟩),Value.slice A5 i c5,ve,Value.pointer (some ⟨b,0,none⟩),Value.pointer (some ⟨b,0,none⟩),
     Value.pointer (some ⟨b,0,none⟩),Value.func (Fn.func 35) #[Value.pointer (some ⟨b,0,none⟩)] #[],Value.agg #[.pointer (some ⟨x.2.1.l,0,none⟩),.pointer (some ⟨x.2.1.r,0,none⟩),.bool x.2.1.d],undef,undef,undef,undef,undef,undef,undef,undef],defers:=[] })
    (λW=>∃N,UrJ b mu mk B0 G1 L U (.map (some mv)) i L.length o w.heap.size (w.heap.size+1) E4 w N [] [] W)
    (λcd W=>cd=.ret/\∃m:Nat,o=.inl m/\m≠0/\Blk W w.heap.size 28 #[.slice none 0 0]/\Blk W (w.heap.size+1) 29 #[.int .i64 (m:Nat)]/\Below w.heap.size w W)
    ?ax ?jn ?jd ?js ?assign ?body ?iter ?done ?stop
   case ax =>
    rintro x a₁ W r r' ⟨x8,fA,hu,ha⟩ hl;exact⟨x8,fA.same (zaH hl x8 ⟨_,_,fA⟩),hu.rec_ (by have:=jC.out;omega) hl (.inl ⟨_,rfl⟩),ha⟩
   case jn =>
    rintro x W r r' ⟨N',l',ah,hu⟩ hl;exact⟨N',l',ah,hu.rec_ (by have:=jC.out;omega) hl (.inl ⟨_,rfl⟩)⟩
   case jd =>
    rintro W r r' ⟨N,hu⟩ hl;exact⟨N,hu.rec_ (by have:=jC.out;omega) hl (.inl ⟨_,rfl⟩)⟩
   case js =>
    rintro cd W r r' ⟨hcd,m,h1,h2,h3,h4,h5⟩ hl;exact⟨hcd,m,h1,h2,h3.same (zaH hl _ ⟨_,_,h3⟩),h4.same (zaH hl _ ⟨_,_,h4⟩),h5.os,h5.tape,h5.output,by rw[World.putObj_size];exact h5.size,λg hg=>(World.putObj_heap_other (by have:=jC.out;omega)).trans (h5.block g hg)⟩
   case assign =>
    intro r x W hj hl;have HJ:=CS hj;have fM:=CS hl;clear hj hl;gi_wp2
    have hb:∀o,Below W.heap.size W (W.alloc o):=λo=>(Below.refl _ W).alloc (Ai _) _;exact⟨fM.out.below (hb _),W.heap.size,heap_alloc_new _ _,HJ.out.keep (hb _),rfl⟩
   case iter =>
    intro rec W1 aw aF cg hY;have xw:=uh.out.1;refine(zmt Fence.wide (10-1) trivial rfl (by omega) (w6.heap.size+1) b (λN l W=>UrJ b mu mk B0 G1 L U (.map (some mv)) i L.length o w.heap.size (w.heap.size+1) E4 w N [] l W/\LoopAt (rec .ready none) (w6.heap.size+1) w6.heap.size W)
     (λN x l W=>UrJ b mu mk B0 G1 L U (.map (some mv)) i L.length o w.heap.size (w.heap.size+1) E4 w N [x] l W/\LoopAt (rec .ready none) (w6.heap.size+1) w6.heap.size W)
     (λW=>∃cd,(cd=.ret/\∃m:Nat,o=.inl m/\m≠0/\Blk W w.heap.size 28 #[.slice none 0 0]/\Blk W (w.heap.size+1) 29 #[.int .i64 (m:Nat)]/\Below w.heap.size w W)/\LoopAt (rec .done (some cd)) (w6.heap.size+1) w6.heap.size W) (λN l W h=>?_) (λN x l W h=>?_) W1 _ _ ⟨H0.out.keep aw,cg⟩).mono ?_
    ·obtain⟨A',c',h1,h2⟩:=h.1.stk lH.out hbwb
     refine⟨A',c',h1,λx l' e=>⟨h2 x l' e,?_⟩⟩;exact(h.2.setCell ⟨b,0,none⟩ _ (by show b≠_;omega) (by show b≠_;omega)).below ((Below.refl _ _).alloc (Ai _) _)
    ·refine(hY (N,x,l) W h.1 h.2).mono ?_
     intro e W' hs;rcases hs with⟨h1,⟨N',l',ah,h2⟩,h3⟩|⟨h1,cd,h2,h3⟩
     ·exact .inl ⟨h1,N',l',ah,h2,h3⟩
     ·exact .inr ⟨h1,cd,h2,h3⟩
    ·rintro e W' ⟨hv,⟨N,hj,hl⟩|⟨cd,hj,hl⟩⟩
     ·exact⟨hv,.inl ⟨⟨N,hj⟩,hl⟩⟩
     ·exact⟨hv,.inr ⟨cd,hj,hl⟩⟩
   case stop =>
    rintro cd W ⟨rfl,m,h1,h2,h3,h4,h5⟩ hD;have H1:=CS h1;have H3:=CS h3;have H4:=CS h4;have H5:=CS h5;have HD:=CS hD;clear h1 h3 h4 h5 hD;gi_wp2
    refine⟨by simp,.inl ⟨_,_,rfl,run_takeDeferred HD.out,?_⟩⟩;have hle:=jC.out;have k3:=H3.out.same (w':=W.putObj w6.heap.size (.deferred none)) (za0 HD.out H3.out (by simp));have k4:=H4.out.same (w':=W.putObj w6.heap.size (.deferred none)) (za0 HD.out H4.out (by simp));refine⟨_,zel rfl _ _ w.heap.size (w.heap.size+1) _ _ _ _ _ _ rfl rfl k3 k4 Tryz.underlying28 rfl Tryz.underlying29 rfl,f,o,tI.out,?_,.inl ⟨m,H1.out,h2,rfl⟩⟩;exact⟨H5.out.os,H5.out.tape,H5.out.output,by rw[World.putObj_size];exact H5.out.size,λg hg=>(World.putObj_heap_other (by omega)).trans (H5.out.block g hg)⟩
   case body =>
    rintro r ⟨N,x,l⟩ a₁ W ⟨x8,fA,⟨hd,k,f',s,D,v,c1,c2,c3,c4,c5,c6,c7,yK,c8,c9⟩,rfl⟩ hl;have mC:=zoi b mu mk B0 G1 L U hd k s D _ v l x f' i L.length o W HGS.out c2 c3 c4 c5 c6 c7 HN0.out lH.out yK;have z4:W.cell? ⟨E4,0,none⟩=some (.pointer (some ⟨b,0,none⟩)):=c8.b4.cell 0;have l4:=c8.b4.lt;have y0:W.cell? ⟨x8,0,none⟩=some (.pointer (some ⟨x.l,0,none⟩)):=fA.cell 0;have y1:W.cell? ⟨x8,1,none⟩=some (.pointer (some ⟨x.r,0,none⟩)):=fA.cell 1;have y2:W.cell? ⟨x8,2,none⟩=some (.bool x.d):=fA.cell 2;have l8:=fA.lt;have tQ:=CS mC;have C1:=CS c1;have C5:=CS c5;have C8:=CS c8;have C9:=CS c9;have fM:=CS hl;clear mC c1 c2 c3 c4 c5 c6 c7 yK c8 c9 hl fA;gi_wp2
    refine⟨trivial,?_⟩;refine(CallsIn.inRound _ ((callsIn_wide (n:=_)).2 tQ.out)).mono ?_;rintro e W1 ⟨r1,rfl,hq,hc⟩;have af:∀(g:Nat) (z:Obj),W.heap[g]?=some z->(∀cs t,z=.cells cs t (0,0)->t≠85/\t≠132/\t≠78)->g≠mk->W1.heap[g]?=W.heap[g]?:=λg z hg ht hm=>hc.block g (Aj.1 hg).1 (by
     rintro(e|e|⟨y,e⟩|e)
     ·exact hm e
     ·have hs:W.heap[b]?=_:=C5.out.sb
      rw[e,hs]at hg
      injection hg with hg;exact(ht _ _ hg.symm).1 rfl
     ·obtain⟨A9,c9,bM,_⟩:=C5.out.pd g y e
      have hs:W.heap[g]?=_:=bM;rw[hs]at hg
      injection hg with hg;exact(ht _ _ hg.symm).2.1 rfl
     ·obtain⟨_,_,cur,aa⟩:=zab C5.out.own g e
      rw[aa]at hg
      injection hg with hg;exact(ht _ _ hg.symm).2.2 rfl)
    have e7:=uh.out.2;have jg:LoopAt r (w6.heap.size+1) w6.heap.size W1:=fM.out.keep (af _ _ fM.out.1 (λ_ _ e=>by cases e) (by omega)) (af _ _ fM.out.2 (λ_ _ e=>by cases e) (by omega));have cI:UrB w.heap.size (w.heap.size+1) E4 b W1:=C8.out.keep (λg cs t hg t1 t2 t3=>af g _ hg (λcs' t' e=>by injection e with _ e;subst e;exact⟨t1,t2,t3⟩) (C5.out.no hg));have jt:Below w.heap.size w W1:=C9.out.trans (hc.toBelow C9.out.size (λg hg=>by
     rintro(e|e|⟨y,e⟩|e)
     ·omega
     ·omega
     ·have:=ug.out g y e;omega
     ·have:=(zab C5.out.own g e).1;have:=cQ.out;omega))
    clear af;rcases hq with⟨rfl,vb,k1,f1,stk1,s1,D1,v1,d1,d2,d3,d4,d5,d6,d7,d8⟩|⟨wU,ho⟩
    ·have HF:Hid (∃N' l',N'<N/\UrJ b mu mk B0 G1 L U (.map (some mv)) i L.length o w.heap.size (w.heap.size+1) E4 w N' [] l' W1):=CS ⟨_,stk1,(by have h:=C1.out;simp only[Cy]at h;rw[h];exact d1),vb,k1,f1,s1,D1,v1,rfl,d2,d3,d4,d5,d6,d7,d8,cI,jt⟩
     have fp:=CS jg;clear d1 d2 d3 d4 d5 d6 d7 d8 cI jt jg hc e7;gi_wp2
     exact⟨HF.out,fp.out⟩
    ·obtain⟨m,rfl⟩:∃m:Nat,r1=(m:Int):=⟨r1.toNat,by omega⟩
     have e1:((m:Int) != 0)=true:=by rw[bne_iff_ne];omega
     have g2:W1.cell? ⟨w.heap.size,0,none⟩=some (.slice none 0 0):=cI.b2.cell 0;have g3:W1.cell? ⟨w.heap.size+1,0,none⟩=some (.int .i64 0):=cI.b3.cell 0;have q2:=cI.b2.frozen 0;have q3:=cI.b3.frozen 0;have m2:=cI.b2.lt;have m3:=cI.b3.lt;have ze:=CS cI;have eI:=CS jt;have fp:=CS jg;have HO:Hid (o=.inl m):=CS (by rw[ho];rfl);clear cI jt jg hc e7 ho;gi_wp2
     refine⟨⟨rfl,m,HO.out,by omega,?_,?_,?_⟩,?_⟩
     ·have kk:Blk (W1.setCell ⟨w.heap.size,0,none⟩ (.slice none 0 0)) w.heap.size 28 #[.slice none 0 0]:=heap_setCell_same W1 w.heap.size 0 _ _ _ ze.out.b2
      exact kk.same (Below.heap_setCell _ _ _ _ (by simp))
     ·exact heap_setCell_same _ (w.heap.size+1) 0 _ _ _ (ze.out.b3.same (Below.heap_setCell _ _ _ _ (by simp)))
     ·exact(eI.out.setCell (p:=⟨w.heap.size,0,none⟩) (Ai _) _).setCell (p:=⟨w.heap.size+1,0,none⟩) (by simp) _
     ·have h6:=jC.out
      have h7:=rO.out;exact(fp.out.setCell ⟨w.heap.size,0,none⟩ _ (by show w.heap.size≠_;omega) (by show w.heap.size≠_;omega)).setCell ⟨w.heap.size+1,0,none⟩ _ (by show w.heap.size+1≠_;omega) (by show w.heap.size+1≠_;omega)
   case done =>
    rintro W ⟨N,hd,k,f',s,D,v,c1,c2,c3,c4,c5,c6,c7,yK,c8,c9⟩ hD;obtain⟨rfl,O,hS⟩:=Sim.nil (by simpa using c2);have ni:∀n,(¬ ∃z∈L,U n=some z)->k n=.mt n:=λn hn=>zfQ (λn=>∃z∈L,U n=some z) f (dbQ ts) .mt k tI.out zcv (λp hp m hm=>HOCC.out m ⟨p,hp,by rw[zcb,zcb]at hm;exact hm⟩) n hn rfl;have hA:=HANS.out b mu mk B0 G1 L U hd s D _ v k O W c5 hS HGS.out (λn p sy=>by
     rcases HFIN.out n p sy with h|h
     ·exact .inl h
     ·refine .inr ⟨Cm λe=>?_,ni n ?_⟩
      ·obtain⟨x,hx⟩:=yK p e
       rw[HNOT.out p h]at hx
       cases hx
      ·rintro⟨z,hz,hu⟩
       rw[sy]at hu
       injection hu with hu;exact h (hu▸hz)) (λn bW=>by
     apply Classical.byContradiction
     intro cf;exact bW (ni n λ⟨z,_,hz⟩=>cf ⟨z,hz⟩)) (by have:=lH.out;omega)
    have z4:W.cell? ⟨E4,0,none⟩=some (.pointer (some ⟨b,0,none⟩)):=c8.b4.cell 0;have l4:=c8.b4.lt;have HA:=CS hA;have C5:=CS c5;have C8:=CS c8;have C9:=CS c9;have HD:=CS hD;clear hA c1 c2 c3 c4 c5 c6 c7 yK c8 c9 hS hD ni;go_wp2_with fail
    refine HA.out.mono ?_;rintro e W1 ⟨va,l,T,rfl,⟨vs,q1,q1r⟩,q2,q3,q4⟩;obtain⟨Av,cv,rfl⟩:=zam q1;have af:∀(g:Nat) (z:Obj),W.heap[g]?=some z->(∀cs t,z=.cells cs t (0,0)->t≠132)->g≠mk->W1.heap[g]?=W.heap[g]?:=λg z hg ht hm=>q4.block g (Aj.1 hg).1 (by
     rintro(e|⟨y,e⟩)
     ·exact hm e
     ·obtain⟨A9,c9,bM,_⟩:=C5.out.pd g y e
      have hs:W.heap[g]?=_:=bM;rw[hs]at hg
      injection hg with hg;exact(ht _ _ hg.symm) rfl)
    have e7:=uh.out.2;have cI:UrB w.heap.size (w.heap.size+1) E4 b W1:=C8.out.keep (λg cs t hg t1 t2 t3=>af g _ hg (λcs' t' e=>by injection e with _ e;subst e;exact t2) (C5.out.no hg));have jt:Below w.heap.size w W1:=C9.out.trans (q4.toBelow C9.out.size (λg hg=>by
     rintro(e|⟨y,e⟩)
     ·omega
     ·have:=ug.out g y e;omega))
    have hD1:W1.heap[w6.heap.size]?=some (.deferred (some [])):=(af _ _ HD.out (λ_ _ e=>by cases e) (by omega)).trans HD.out;have g2:W1.cell? ⟨w.heap.size,0,none⟩=some (.slice none 0 0):=cI.b2.cell 0;have g3:W1.cell? ⟨w.heap.size+1,0,none⟩=some (.int .i64 0):=cI.b3.cell 0;have p2:=cI.b2.frozen 0;have p3:=cI.b3.frozen 0;have m2:=cI.b2.lt;have m3:=cI.b3.lt;have ze:=CS cI;have eI:=CS jt;have lM:=CS hD1;have Q1:=CS q1;have Q1R:=CS q1r;have Q2:=CS q2;have Q3:=CS q3;have C9S:Hid (w.heap.size<=W.heap.size):=CS C9.out.size;have CW6:Hid (w6.heap.size<W.heap.size):=CS (Aj.1 HD.out).1;clear cI jt hD1 q1 q1r q2 q3 q4 af e7 HA C5 C8 C9 HD;go_wp2_with fail
    have h6:=jC.out;have h7:=rO.out;have kD:((W1.setCell ⟨w.heap.size,0,none⟩ (.slice Av l.length cv)).setCell ⟨w.heap.size+1,0,none⟩ (.int .i64 0)).heap[w6.heap.size]?=some (.deferred (some [])):=(Below.heap_setCell _ _ _ _ (by show _≠w.heap.size+1;omega)).trans ((Below.heap_setCell _ _ _ _ (by show _≠w.heap.size;omega)).trans lM.out);refine⟨by simp,.inl ⟨_,_,rfl,run_takeDeferred kD,?_⟩⟩;have k2:Blk (W1.setCell ⟨w.heap.size,0,none⟩ (.slice Av l.length cv)) w.heap.size 28 #[.slice Av l.length cv]:=heap_setCell_same W1 w.heap.size 0 _ _ _ ze.out.b2;have k3:Blk ((W1.setCell ⟨w.heap.size,0,none⟩ (.slice Av l.length cv)).setCell ⟨w.heap.size+1,0,none⟩ (.int .i64 0)) (w.heap.size+1) 29 #[.int .i64 0]:=heap_setCell_same _ (w.heap.size+1) 0 _ _ _ (ze.out.b3.same (Below.heap_setCell _ _ _ _ (by simp)));have k2':=k2.same (w':=(W1.setCell ⟨w.heap.size,0,none⟩ (.slice Av l.length cv)).setCell ⟨w.heap.size+1,0,none⟩ (.int .i64 0)) (Below.heap_setCell _ _ _ _ (by simp));have r2:=k2'.same (w':=World.putObj _ w6.heap.size (.deferred none)) (za0 kD k2' (by simp));have r3:=k3.same (w':=World.putObj _ w6.heap.size (.deferred none)) (za0 kD k3 (by simp));have xB:∀(g:Nat) (x:Obj),W1.heap[g]?=some x->g≠w.heap.size->g≠w.heap.size+1->(∀d,x≠.deferred d)->(((W1.setCell ⟨w.heap.size,0,none⟩ (.slice Av l.length cv)).setCell ⟨w.heap.size+1,0,none⟩ (.int .i64 0)).putObj w6.heap.size (.deferred none)).heap[g]?=W1.heap[g]?:=λg x hg n1 n2 hx=>by
     have h1:=(Below.heap_setCell (W1.setCell ⟨w.heap.size,0,none⟩ (.slice Av l.length cv)) ⟨w.heap.size+1,0,none⟩ (.int .i64 0) g n2).trans (Below.heap_setCell W1 ⟨w.heap.size,0,none⟩ (.slice Av l.length cv) g n1);exact(za0 kD (h1.trans hg) (hx _)).trans h1
    have ai:∀g,(Value.slice Av l.length cv).ownBlock=some g->w6.heap.size<=g:=λg hg=>by
     have:=(zab Q1.out g hg).1;have:=CW6.out;omega
    refine⟨_,zel rfl _ _ w.heap.size (w.heap.size+1) _ _ _ _ _ _ rfl rfl r2 r3 Tryz.underlying28 rfl Tryz.underlying29 rfl,f,_,tI.out,?_,.inr ⟨k,_,l,T,rfl,rfl,⟨vs,?_,?_⟩,Q2.out,λg hg=>?_⟩⟩
    ·have hb:=(eI.out.setCell (p:=⟨w.heap.size,0,none⟩) (Ai _) (.slice Av l.length cv)).setCell (p:=⟨w.heap.size+1,0,none⟩) (by simp) (.int .i64 0)
     exact⟨hb.os,hb.tape,hb.output,by rw[World.putObj_size];exact hb.size,λg hg=>(World.putObj_heap_other (by omega)).trans (hb.block g hg)⟩
    ·have h1:=zan Q1.out (w':=((W1.setCell ⟨w.heap.size,0,none⟩ (.slice Av l.length cv)).setCell ⟨w.heap.size+1,0,none⟩ (.int .i64 0)).putObj w6.heap.size (.deferred none)) (λg hg=>by
      obtain⟨_,_,cur,aa⟩:=zab Q1.out g hg;exact xB g _ aa (by have:=ai g hg;omega) (by have:=ai g hg;omega) (λd e=>by cases e))
     exact zcn h1 C9S.out
    ·refine KnRow.keep (λ_ h=>h) (λg hg=>?_) _ _ Q1R.out
     have h1:=Q3.out g hg;have h2:=CW6.out;exact(World.putObj_heap_other (by omega)).trans ((Below.heap_setCell _ _ _ _ (by show g≠w.heap.size+1;omega)).trans (Below.heap_setCell _ _ _ _ (by show g≠w.heap.size;omega)))
    ·have:=Q3.out g hg
     have:=C9S.out;rw[World.putObj_size,World.size_setCell,World.size_setCell]
     omega
attribute [local go_sem] Oper.semAt_some
def FilJ(b mk lo p e2 e4 st:Nat)(c0 c1 c2 c4:Value)(G:Nat->Option Nd)(k:Sb)(hd:Nat->Nat)(T0:Nat->Prop)(w:World)(N:Nat)(top stk:List Nat)(W:World):Prop :=
 ∃F D T v,F.map (·.1)=top++stk.reverse/\FilOK G hd k (λq=>(D q).fl) [] F/\FilN G 0 F/\N=filW G k F/\FilM b mk lo c0 c1 c2 c4 G k hd T D W/\(∀g,T0 g->T g)/\((D p).fl=true\/p∈top++stk.reverse) /\
  Blk W e2 72 #[.pointer (some ⟨b,0,none⟩)]/\Blk W e4 37 #[.int .i64 0,.string ⟨#[]⟩,.int .i64 0,.slice none 0 0]/\¬T e4/\Blk W st 195 #[v]/\W.ownsRow (st+1) 75 1 v stk.length (stk.map PK)/\Chg (λg=>g=mk\/∃x,G g=some x) w W/\lo<=e4/\lo<=e2/\lo<=st/\e4<st/\e2<st
section
variable {b mk lo p e2 e4 st:Nat} {c0 c1 c2 c4:Value} {G:Nat->Option Nd} {L:List Nat} {k:Sb} {hd:Nat->Nat} {T0:Nat->Prop} {w W W':World} {N:Nat} {top stk:List Nat}
theorem FilJ.keepB(h:FilJ b mk lo p e2 e4 st c0 c1 c2 c4 G k hd T0 w N top stk W)(hk:∀(g:Nat)(x:Obj),W.heap[g]?=some x->(∀r,x≠.loop r)->(∀r,x≠.deferred r)->W'.heap[g]?=W.heap[g]?)(hs:W.heap.size<=W'.heap.size)(hC:Chg (λg=>g=mk\/∃x,G g=some x) w W'):FilJ b mk lo p e2 e4 st c0 c1 c2 c4 G k hd T0 w N top stk W':=by
 obtain⟨F,D,T,v,h1,h2,h3,h4,h5,h6,h7,h8,h9,eP,lG,lX,oN,lW⟩:=h;have hc:∀(g:Nat) (cs:Array Value) (t:TypeId),W.heap[g]?=some (.cells cs t (0,0))->W'.heap[g]?=W.heap[g]?:=λg cs t hg=>hk g _ hg (λ_ e=>by cases e) (λ_ e=>by cases e);obtain⟨K,hK⟩:=h5.kn;have hm:W'.heap[mk]?=W.heap[mk]?:=by
  obtain⟨es,n,l,g1,_⟩:=hK.mp;exact hk mk _ g1 (λ_ e=>by cases e) (λ_ e=>by cases e)
 have hT:∀g,T g->W'.heap[g]?=W.heap[g]?:=λg hg=>by obtain⟨_,cur,aa⟩:=h5.tt g hg;exact hc g cur _ aa
 refine⟨F,D,T,v,h1,h2,h3,h4,⟨h5.sb.same (hc _ _ _ h5.sb),⟨K,hK.keep hm (λx ⟨cs,hx⟩=>⟨cs,(hc x cs _ hx).trans hx⟩)⟩,h5.pd.same (λg _ ⟨cs,t,hg⟩=>hc g cs t hg),λq x hx hf=>?_,h5.da,λg hg=>?_,h5.lb,AB h5.ls hs⟩,h6,h7,h8.same (hc _ _ _ h8),h9.same (hc _ _ _ h9),eP,lG.same (hc _ _ _ lG),zan lX (λg hg=>by obtain⟨_,_,cur,aa⟩:=zab lX g hg;exact hc g cur _ aa),hC,lW⟩
 ·obtain⟨a1,a2,A,c,a3,a4⟩:=h5.fd q x hx hf
  exact⟨a1,a2,A,c,a3,a4.keep (λ_ h=>h) hT⟩
 ·obtain⟨a1,cur,a2⟩:=h5.tt g hg
  exact⟨a1,cur,(hT g hg).trans a2⟩
theorem FilJ.below(h:FilJ b mk lo p e2 e4 st c0 c1 c2 c4 G k hd T0 w N top stk W)(hb:Below W.heap.size W W'):FilJ b mk lo p e2 e4 st c0 c1 c2 c4 G k hd T0 w N top stk W':=by
 have hC:Chg (λg=>g=mk\/∃x,G g=some x) w W':=by obtain⟨_,_,_,_,_,_,_,_,_,_,_,_,_,_,_,_,h,_⟩:=h;exact h.below hb
 exact h.keepB (λg _ hg _ _=>hb.block g (Aj.1 hg).1) hb.size hC
theorem FilJ.rec_ {lp:Nat} {x y:Obj}(h:FilJ b mk lo p e2 e4 st c0 c1 c2 c4 G k hd T0 w N top stk W)(lS:w.heap.size<=lp)(hl:W.heap[lp]?=some x)(hx:(∃r,x=.loop r)\/∃r,x=.deferred r):FilJ b mk lo p e2 e4 st c0 c1 c2 c4 G k hd T0 w N top stk (W.putObj lp y):=by
 have hC:Chg (λg=>g=mk\/∃x,G g=some x) w (W.putObj lp y):=by obtain⟨_,_,_,_,_,_,_,_,_,_,_,_,_,_,_,_,h,_⟩:=h;exact h.putObj _ _ lS
 exact h.keepB (λg z hg a b=>za0 hl hg (by rcases hx with⟨r,rfl⟩|⟨r,rfl⟩;exact a r;exact b r)) (by rw[World.putObj_size];exact Ai _) hC
theorem FilJ.stack {l O:List Nat}(h:FilJ b mk lo p e2 e4 st c0 c1 c2 c4 G k hd T0 w N [] l W)(S:HdS G L hd k [] O)(kz:1+wg G [] L<=1000000)(hw:w.heap.size<=st):∃A c,StkP W st l A c/\∀x l',l=l'++[x]->FilJ b mk lo p e2 e4 st c0 c1 c2 c4 G k hd T0 w N [x] l' (W.setCell ⟨st,0,none⟩ (.slice A l'.length c)):=by
 obtain⟨F,D,T,v,h1,h2,h3,h4,h5,h6,h7,h8,h9,eP,lG,lX,oN,lW⟩:=h;rw[AL]at h1 h7
 have hlen:l.length<=1000000000:=by
  have:=h2.len h3 S.gr.all;have hl:=Az List.length h1;rw[AR,BU]at hl
  omega
 obtain⟨A,c,rfl,aI⟩:=zmu lG lX hlen;refine⟨A,c,aI,λx l' e=>?_⟩;subst e;obtain⟨g,cap,xJ,ho⟩:=zjZ lX;injection xJ with e1 _ e2';subst e1 e2';rw[Cd]at h1 h7
 have hg:=(zab ho g rfl).1;have af:∀z,z≠st->(W.setCell ⟨st,0,none⟩ (.slice (some ⟨g,0,none⟩) l'.length c)).heap[z]?=W.heap[z]?:=λz hz=>Below.heap_setCell _ _ _ _ hz;have hTst:∀z,T z->z≠st:=λz hz e=>by
  obtain⟨_,cur,aa⟩:=h5.tt z hz;rw[e]at aa
  exact Blk.ne_ (show Blk W st _ cur from aa) lG (by decide) rfl
 refine⟨F,D,T,_,h1,h2,h3,h4,h5.keep (λz hz=>af z (by omega)) (λz hz=>af z (hTst z hz)) (λy hy=>hy.setCell _ _ _) (by rw[World.size_setCell];exact Ai _),h6,h7,h8.same (af _ (by omega)),h9.same (af _ (by omega)),eP,heap_setCell_same W st 0 _ _ _ lG,ownsRow_setCell_other (a:=⟨st,0,none⟩) ho (λe=>by have:g=st:=(by simpa[Value.ownBlock] using e);omega) _,oN.setCell (p:=⟨st,0,none⟩) (.inl hw) _,lW⟩
end
attribute [local go_sem] Oper.semAt_some
def FilPost(b mk lo p:Nat)(c0 c1 c2 c4:Value)(G:Nat->Option Nd)(k:Sb)(hd:Nat->Nat)(T:Nat->Prop)(w:World)(e:Ending)(w':World):Prop :=
 ∃v T' D',e=.returned v/\RdV T' w' (toTy (tv G k p)) v/\FilM b mk lo c0 c1 c2 c4 G k hd T' D' w'/\(∀g,T g->T' g)/\Chg (λg=>g=mk\/∃x,G g=some x) w w'
theorem zmx(b mk lo p:Nat)(c0 c1 c2 c4:Value)(G:Nat->Option Nd)(L:List Nat)(k:Sb)(hd:Nat->Nat)(T:Nat->Prop)(D:Nat->Dy)(O:List Nat)(w:World)(hm:FilM b mk lo c0 c1 c2 c4 G k hd T D w)(S:HdS G L hd k [] O)(hp:FV G p)(hh:hd p=p)(y:Nd)(hy:G p=some y)(hw:1+wg G [] L<=1000000):Calls Tryz.prog 75 #[.pointer (some ⟨b,0,none⟩),.pointer (some ⟨p,0,none⟩)] w (FilPost b mk lo p c0 c1 c2 c4 G k hd T w):=by
 refine(callsIn_wide (n:=10)).1 ?_;refine callsIn_of_wp_marks Tryz.func75 rfl trivial ?_ rfl;simp only[Tryz.ntmps75,Bf,Ao,Be,Nat.reduceAdd,Nat.reduceSub,Bq,Bp,BD,Bu,AL,AE];have pL:=hm.ls;obtain⟨l0,l1,l2,l3,en,cT⟩:=zcU w (.cells #[.pointer (some ⟨b,0,none⟩)] 72) (.cells #[.int .i64 0,.string ⟨#[]⟩,.int .i64 0,.slice none 0 0] 37) (.cells #[.slice none 0 0] 195) (.cells #[.pointer (some ⟨p,0,none⟩)] 75);obtain⟨w4,gi⟩:∃W,(((w.alloc (.cells #[.pointer (some ⟨b,0,none⟩)] 72)).alloc (.cells #[.int .i64 0,.string ⟨#[]⟩,.int .i64 0,.slice none 0 0] 37)).alloc (.cells #[.slice none 0 0] 195)).alloc (.cells #[.pointer (some ⟨p,0,none⟩)] 75)=W:=⟨_,rfl⟩;rw[gi]at l0 l1 l2 l3 en cT
 have bS:=zff (w.heap.size+1+1) (w.heap.size+1+1+1) 195 #[.slice none 0 0] (by simp) [] [p] (.slice none 0 0) (some ⟨w.heap.size+1+1+1,0,none⟩) 1 w4 l2 (World.ownsRow_nil _ _ _ _) (by omega) (by simp[Value.ownBlock]) (by simp) (λj q hq=>by
  rw[List.getElem?_singleton]at hq
  split at hq
  ·rename_i hj
   injection hq with hq;subst hj hq;exact⟨w.heap.size+1+1+1,rfl,by omega,by omega,by simp[Value.ownBlock],(show Blk w4 (w.heap.size+1+1+1) _ _ from l3).cell 0⟩
  ·cases hq)
 rw[<-gi]at bS
 have dA:=CS bS;have nT:=CS gi;have eU:=CS l0;have fp:=CS l1;have zJ:=CS l2;have lN:=CS cT;have HM:=CS hm;clear bS gi l0 l1 l2 l3 cT hm;gi_wp2
 refine⟨trivial,?_⟩;refine((callsIn_wide (n:=9)).2 dA.out).mono ?_;rintro e w6 ⟨⟨v0,rfl⟩,hl6⟩;rw[nT.out]at hl6
 gi_wp2
 obtain⟨v6,a1,a2,-,-,-,a6⟩:=hl6;have dO:=a6.size;have dM:Below w.heap.size w w6:=(lN.out).trans (a6.toBelow (by omega) (λk hk h=>by rcases h with h|h;omega;cases h));have eL:∀(g:Nat) (cs:Array Value) (t:TypeId),Blk w4 g t cs->g≠w.heap.size+1+1->Blk w6 g t cs:=λg cs t hg hn=>hg.chg a6 (λh=>by rcases h with h|h;exact hn h;cases h);have yz:FilM b mk lo c0 c1 c2 c4 G k hd T D w6:=HM.out.keep (λg hg=>dM.block g (by omega)) (λg hg=>dM.block g (by obtain⟨_,cur,aa⟩:=HM.out.tt g hg;exact(Aj.1 aa).1)) (λx ⟨cs,hx⟩=>⟨cs,(dM.block x (Aj.1 hx).1).trans hx⟩) dM.size;have rH:FilJ b mk lo p w.heap.size (w.heap.size+1) (w.heap.size+1+1) c0 c1 c2 c4 G k hd T w (filW G k [(p,false)]) [] [p] w6:=by
  refine⟨[(p,false)],D,T,v6,rfl,?_,?_,rfl,yz,λ_ h=>h,.inr (by simp),eL _ _ _ eU.out (by omega),eL _ _ _ fp.out (by omega),λh=>?_,a1,a2,Chg.of_below dM,by omega,by omega,by omega,by omega,by omega⟩
  ·rw[FilOK,FilOK]
   exact⟨hp,hh,(λe=>by cases e),trivial⟩
  ·rw[FilN,FilN];exact Ai _
  ·obtain⟨_,cur,aa⟩:=HM.out.tt _ h
   have:=(Aj.1 aa).1;omega
 have H0:=CS rH;have HS:=CS S;have lH:=CS hw;have eh:Hid (w.heap.size+1+1+1+1<=w6.heap.size):=CS (by omega);have ug:=CS pL;have HY:=CS hy;clear rH yz eL dM dO a1 a2 a6 hw S en dA nT eU fp zJ lN HM pL hp hy;obtain⟨be,nN⟩:∃n,w.heap.size+1+1=n:=⟨_,rfl⟩;rw[nN]at H0 eh ⊢
 have iz:=CS nN;clear nN;refine zch (σ:=Nat × Nat × List Nat) rfl (by omega) (gf:=120) (fb:=#[.pointer (some ⟨be,0,none⟩)]) (lb:=#[]) rfl trivial (enters_of Tryz.func120 (by kernel_rfl) rfl)
  (λx=>#[.pointer (some ⟨x.2.1,0,none⟩)]) (λ_=>rfl)
  (λx W=>FilJ b mk lo p w.heap.size (w.heap.size+1) be c0 c1 c2 c4 G k hd T w x.1 [x.2.1] x.2.2 W)
  (λx W=>∃N' l',N'<x.1/\FilJ b mk lo p w.heap.size (w.heap.size+1) be c0 c1 c2 c4 G k hd T w N' [] l' W)
  (λx a₁ W=>FilJ b mk lo p w.heap.size (w.heap.size+1) be c0 c1 c2 c4 G k hd T w x.1 [x.2.1] x.2.2 W/\a₁ = { tmps:=#[Value.pointer (some ⟨b,0,none⟩),Value.pointer (some ⟨p,0,none⟩),Value.pointer (some ⟨w.heap.size,0,none⟩),undef,Value.pointer (some ⟨w.heap.size+1,0,none⟩),Value.pointer (some ⟨be,0,none⟩),Value.pointer (some ⟨x.2.1,0,none⟩),undef,undef,
   Value.pointer (some ⟨p,0,none⟩),Value.slice (some ⟨be+1,0,none⟩) 1 1,v0,Value.func (Fn.func 120) #[Value.pointer (some ⟨be,0,none⟩)] #[],Value.pointer (some ⟨x.2.1,0,none⟩),undef,undef,undef,undef,undef,undef,undef,undef,undef,undef,undef,undef,undef,undef,undef,undef,undef,undef,undef,undef,undef,undef,undef,undef,undef,undef,undef,undef,undef,undef],defers:=[] })
  (λW=>∃N,FilJ b mk lo p w.heap.size (w.heap.size+1) be c0 c1 c2 c4 G k hd T w N [] [] W) (λ_ _=>False)
  (λx a₁ W r r' h hl=>⟨h.1.rec_ (by have:=eh.out;have:=iz.out;omega) hl (.inl ⟨_,rfl⟩),h.2⟩)
  (λx W r r' h hl=>by obtain⟨N',l',ah,h⟩:=h;exact⟨N',l',ah,h.rec_ (by have:=eh.out;have:=iz.out;omega) hl (.inl ⟨_,rfl⟩)⟩)
  (λW r r' h hl=>by obtain⟨N,h⟩:=h;exact⟨N,h.rec_ (by have:=eh.out;have:=iz.out;omega) hl (.inl ⟨_,rfl⟩)⟩) (λ_ _ _ _ h _=>h) ?assign ?body ?iter ?done ?stop
 case assign =>
  intro r x W hj hl;have HJ:=CS hj;have fM:=CS hl;clear hj hl;gi_wp2
  exact⟨fM.out,HJ.out,trivial⟩
 case stop=>intro c W h;exact h.elim
 case iter =>
  intro rec W1 aw aF cg hY;refine(zhB Fence.wide (10-1) trivial rfl (by omega) (w6.heap.size+1) be (λN l W=>FilJ b mk lo p w.heap.size (w.heap.size+1) be c0 c1 c2 c4 G k hd T w N [] l W/\LoopAt (rec .ready none) (w6.heap.size+1) w6.heap.size W)
   (λN x l W=>FilJ b mk lo p w.heap.size (w.heap.size+1) be c0 c1 c2 c4 G k hd T w N [x] l W/\LoopAt (rec .ready none) (w6.heap.size+1) w6.heap.size W) (λ_=>False) (λN l W h=>?_) (λN x l W h=>?_) W1 _ _ ⟨H0.out.below aw,cg⟩).mono ?_
  ·obtain⟨A,c,h1,h2⟩:=h.1.stack HS.out lH.out (by have:=iz.out;omega)
   have:=eh.out;exact⟨A,c,h1,λx l' e=>⟨h2 x l' e,h.2.setCell ⟨be,0,none⟩ _ (by show be≠_;omega) (by show be≠_;omega)⟩⟩
  ·refine(hY (N,x,l) W h.1 h.2).mono ?_
   intro e W' hs;rcases hs with⟨h1,⟨N',l',ah,h2⟩,h3⟩|⟨_,_,h2,_⟩
   ·exact .inl ⟨h1,N',l',ah,h2,h3⟩
   ·exact h2.elim
  ·rintro e W' ⟨hv,⟨N,hj,hl⟩|h⟩
   ·exact⟨hv,.inl ⟨⟨N,hj⟩,hl⟩⟩
   ·exact h.elim
 case done =>
  rintro W ⟨N,F,D1,T1,v1,h1,h2,h3,h4,h5,h6,h7,h8,h9,eP,lG,lX,oN,lW⟩ hD;have pT:(D1 p).fl=true:=by
   rcases h7 with h|h
   ·exact h
   ·simp at h
  obtain⟨f1,f2,A,c,f3,f4⟩:=h5.fd p y HY.out pT;obtain⟨A9,c9,bM,-⟩:=h5.pd p y HY.out;obtain⟨t1,t2,t3,t4,-,-⟩:=HS.out.tv_node f1 f2 HY.out;have z0:W.cell? ⟨p,0,none⟩=some (.int .i64 (y.kd:Nat)):=bM.cell 0;have z1:W.cell? ⟨p,1,none⟩=some (.string y.nm):=bM.cell 1;have z2:W.cell? ⟨p,2,none⟩=some (.int .i64 (y.n:Nat)):=bM.cell 2;have z3:W.cell? ⟨p,3,none⟩=some (.slice A y.kids.length c):=by rw[<-f3];exact bM.cell 3
  have lz:=bM.lt;have HD:=CS hD;have H5:=CS h5;have H9:=CS h9;have H10:=CS eP;have F4:=CS f4;have HT:=CS (show y.kd=_/\y.nm=_/\y.n=_/\_ from⟨t1,t2,t3,t4⟩);have H13:=CS oN;have H6:=CS h6;have HE:Hid (lo<=w.heap.size+1/\w.heap.size+1<be):=CS ⟨lW.1,lW.2.2.2.1⟩;obtain⟨k0,k1,k2,k3,g0,g1,g2,g3,gl⟩:=zaa h9;clear h1 h2 h3 h4 h5 h6 h7 h8 h9 eP lG lX oN lW hD pT f1 f2 f3 f4 bM t1 t2 t3 t4;gi_wp2
  have gG:=zah (.int .i64 (y.kd:Nat)) (.string y.nm) (.int .i64 (y.n:Nat)) (.slice A y.kids.length c) H9.out;have sD:∀g,g≠w.heap.size+1->((((W.setCell ⟨w.heap.size+1,0,none⟩ (.int .i64 (y.kd:Nat))).setCell ⟨w.heap.size+1,1,none⟩ (.string y.nm)).setCell ⟨w.heap.size+1,2,none⟩ (.int .i64 (y.n:Nat))).setCell ⟨w.heap.size+1,3,none⟩ (.slice A y.kids.length c)).heap[g]?=W.heap[g]?:=λg hg=>(Below.heap_setCell _ _ _ _ hg).trans ((Below.heap_setCell _ _ _ _ hg).trans ((Below.heap_setCell _ _ _ _ hg).trans (Below.heap_setCell _ _ _ _ hg)));have oE:∀z,LaidQ W z->LaidQ ((((W.setCell ⟨w.heap.size+1,0,none⟩ (.int .i64 (y.kd:Nat))).setCell ⟨w.heap.size+1,1,none⟩ (.string y.nm)).setCell ⟨w.heap.size+1,2,none⟩ (.int .i64 (y.n:Nat))).setCell ⟨w.heap.size+1,3,none⟩ (.slice A y.kids.length c)) z:=λz hz=>(((hz.setCell _ _ _).setCell _ _ _).setCell _ _ _).setCell _ _ _;have hc4:Chg (λg=>g=mk\/∃x,G g=some x) w ((((W.setCell ⟨w.heap.size+1,0,none⟩ (.int .i64 (y.kd:Nat))).setCell ⟨w.heap.size+1,1,none⟩ (.string y.nm)).setCell ⟨w.heap.size+1,2,none⟩ (.int .i64 (y.n:Nat))).setCell ⟨w.heap.size+1,3,none⟩ (.slice A y.kids.length c)):=(((H13.out.setCell (p:=⟨w.heap.size+1,0,none⟩) (.inl (by simp)) _).setCell (p:=⟨w.heap.size+1,1,none⟩) (.inl (by simp)) _).setCell (p:=⟨w.heap.size+1,2,none⟩) (.inl (by simp)) _).setCell (p:=⟨w.heap.size+1,3,none⟩) (.inl (by simp)) _;have en:((((W.setCell ⟨w.heap.size+1,0,none⟩ (.int .i64 (y.kd:Nat))).setCell ⟨w.heap.size+1,1,none⟩ (.string y.nm)).setCell ⟨w.heap.size+1,2,none⟩ (.int .i64 (y.n:Nat))).setCell ⟨w.heap.size+1,3,none⟩ (.slice A y.kids.length c)).heap.size=W.heap.size:=by simp
  generalize ((((W.setCell ⟨w.heap.size+1,0,none⟩ (.int .i64 (y.kd:Nat))).setCell ⟨w.heap.size+1,1,none⟩ (.string y.nm)).setCell ⟨w.heap.size+1,2,none⟩ (.int .i64 (y.n:Nat))).setCell ⟨w.heap.size+1,3,none⟩ (.slice A y.kids.length c))=W4 at gG sD oE hc4 en ⊢;have h6:=eh.out;have h7:=iz.out;have kD:W4.heap[w6.heap.size]?=some (.deferred (some [])):=(sD _ (by omega)).trans HD.out;refine⟨by simp,.inl ⟨_,_,rfl,run_takeDeferred kD,?_⟩⟩;have r4:=gG.same (w':=W4.putObj w6.heap.size (.deferred none)) (za0 kD gG (by simp));have mR:∀g,g≠w.heap.size+1->g≠w6.heap.size->(W4.putObj w6.heap.size (.deferred none)).heap[g]?=W.heap[g]?:=λg n1 n2=>(World.putObj_heap_other n2).trans (sD g n1);have hTn:∀g,T1 g->g≠w.heap.size+1/\g≠w6.heap.size:=λg hg=>by
   refine⟨λe=>H10.out (e▸hg),λe=>?_⟩;obtain⟨_,cur,aa⟩:=H5.out.tt g hg;rw[e,HD.out]at aa
   cases aa
  refine⟨_,results_cell_row rfl _ _ (w.heap.size+1) 37 _ (0,0) _ rfl r4 Tryz.underlying37 rfl (by kernel_rfl),_,T1,D1,rfl,⟨A,c,?_,F4.out.keep (λ_ h=>h) (λg hg=>mR g (hTn g hg).1 (hTn g hg).2)⟩,H5.out.keep (λg hg=>mR g (by have:=HE.out;omega) (by have:=HE.out;omega)) (λg hg=>mR g (hTn g hg).1 (hTn g hg).2) (λz hz=>by
   obtain⟨cs,hx⟩:=oE z hz;exact⟨cs,(za0 kD hx (by simp)).trans hx⟩) (by rw[World.putObj_size,en];exact Ai _),H6.out,hc4.putObj _ _ (by omega)⟩
  obtain⟨t1,t2,t3,t4⟩:=HT.out;rw[t1,t2,t3,t4,AR]
 case body =>
  rintro r ⟨N,x,l⟩ a₁ W ⟨⟨F,D1,T1,v1,h1,h2,h3,h4,h5,h6,h7,h8,h9,eP,lG,lX,oN,lW⟩,rfl⟩ hl;obtain⟨⟨x',e⟩,F',rfl⟩:∃p F',F=p::F':=by
   cases F with
   |nil=>simp at h1
   |cons a F'=>exact⟨a,F',rfl⟩
  simp only[AH,Cy,BB]at h1;obtain⟨rfl,h1⟩:=h1;have h4:N=_:=h4;subst h4;have fT:=h2;rw[FilOK]at fT
  obtain⟨q1,q2,q3,-⟩:=fT;obtain⟨yx,bR⟩:∃y,G x'=some y:=by obtain⟨d,g1,_⟩:=q1;obtain⟨y,hy,_⟩:=g1.node;exact⟨y,hy⟩
  obtain⟨A9,c9,bM,ft⟩:=h5.pd x' yx bR;have HLW:Hid (lo<=W.heap.size):=CS h5.ls;have z7:W.cell? ⟨x',7,none⟩=some (.bool (D1 x').fl):=bM.cell 7;have lx:=bM.lt;have x2:W.cell? ⟨w.heap.size,0,none⟩=some (.pointer (some ⟨b,0,none⟩)):=h8.cell 0;have l2:=h8.lt;cases hf:(D1 x').fl with
  |true =>
   rw[hf]at z7
   have HF:Hid (∃N' l',N'<filW G k ((x',e)::F')/\FilJ b mk lo p w.heap.size (w.heap.size+1) be c0 c1 c2 c4 G k hd T w N' [] l' W):=CS (by
    refine⟨filW G k F',l,?_,F',D1,T1,v1,h1,h2.pop (λ_ h=>h) hf,h3.tail,rfl,h5,h6,?_,h8,h9,eP,lG,lX,oN,lW⟩
    ·rw[filW]
     have:=zb0 (tv G k x');cases e <;> simp <;> omega
    ·rcases h7 with h|h
     ·exact .inl h
     ·rcases AA.1 h with h|h
      ·rw[AJ]at h;rw[h];exact .inl hf
      ·exact .inr (by simpa using h))
   have fM:=CS hl;clear h1 h2 h3 h5 h6 h7 h8 h9 eP lG lX oN lW hl hf bM ft q1 q2 q3 bR x2 l2;gi_wp2
   obtain⟨N',l',n1,n2⟩:=HF.out;exact⟨⟨N',n1,l',n2⟩,fM.out⟩
  |false =>
   rw[hf]at z7
   obtain⟨K1,gO⟩:=h5.kn;have gK:yx.kids.length+1<=wg G [] L:=by have:=zer G x' [] yx bR (by simp) L (HS.out.gr.all _ _ bR);omega
   have hfa:=zhW b mk x' yx c0 c1 c2 c4 G D1 K1 hd L W h5.sb gO h5.pd HS.out.gr bR h5.da (by have:=lH.out;omega);have zQ:=CS hfa;have H1:=CS h1;have H2:=CS h2;have H3:=CS h3;have H5:=CS h5;have H6:=CS h6;have H7:=CS h7;have H8:=CS h8;have H9:=CS h9;have H10:=CS eP;have Ae:=CS lG;have H12:=CS lX;have H13:=CS oN;have Ac:=CS lW;have fM:=CS hl;have tF:=CS bR;have HQ:=CS (show FV G x'/\hd x'=x' from⟨q1,q2⟩);have HQ3:=CS q3;have HF:=CS hf;have zM:=CS gK;have zs:=CS ft;have qE:=CS bM;clear hfa h1 h2 h3 h5 h6 h7 h8 h9 eP lG lX oN lW hl hf bM ft q1 q2 q3 bR gO gK;gi_wp2
   refine⟨trivial,?_⟩;refine(CallsIn.inRound _ ((callsIn_wide (n:=_)).2 zQ.out)).mono ?_;rintro e1 W1 ⟨v4,v5,rfl,o4,o5,hI⟩;obtain⟨A4,a4,rfl⟩:=zam o4;obtain⟨A5,a5,rfl⟩:=zam o5;obtain⟨n5,jR⟩:∃n,(zaP D1 (yx.kids.map hd)).length=n:=⟨_,rfl⟩;have jc:∀(g:Nat) (z:Obj),W.heap[g]?=some z->g≠mk->W1.heap[g]?=W.heap[g]?:=λg z hg hm=>hI.ch.block g (Aj.1 hg).1 (λe=>hm e);have cf:∀(g:Nat) (cs:Array Value) (t:TypeId),W.heap[g]?=some (.cells cs t (0,0))->g≠mk:=λg cs t hg e=>by
    obtain⟨K,hK⟩:=H5.out.kn;rw[e]at hg
    exact MapK.no hK.mp hg
   have fY:=H5.out.head hI.ch hI.kn;have e7:=fY.lb.2.1;have k14:=Ac.out;have jg:LoopAt r (w6.heap.size+1) w6.heap.size W1:=fM.out.keep (jc _ _ fM.out.1 (by have:=eh.out;omega)) (jc _ _ fM.out.2 (by have:=eh.out;omega));have k8:=H8.out.same (jc _ _ H8.out (cf _ _ _ H8.out));have k9:=H9.out.same (jc _ _ H9.out (cf _ _ _ H9.out));have uK:=Ae.out.same (jc _ _ Ae.out (cf _ _ _ Ae.out));have sa:=zan H12.out (λg hg=>by obtain⟨_,_,cur,aa⟩:=zab H12.out g hg;exact jc g _ aa (cf g cur _ aa));have vR:=H13.out.trans' hI.ch (λg _ h=>.inl h);obtain⟨A8,c8,fA,hr8⟩:=fY.pd x' yx tF.out;rw[jR]at o5
   have qN:=hI.ch.size;have dH:=CS fY;have uf:=CS jg;have K8:=CS k8;have K9:=CS k9;have K11:=CS uK;have K12:=CS sa;have K13:=CS vR;have O4:=CS o4;have O5:=CS o5;have zA:=CS jR;have HSW:=CS qN;have fK:Hid (∀g,v1.ownBlock=some g->g<W.heap.size):=CS (λg hg=>(zab H12.out g hg).2.1);have oP:Hid (∀g,T1 g->g<W.heap.size):=CS (λg hg=>by obtain⟨_,cur,aa⟩:=H5.out.tt g hg;exact(Aj.1 aa).1);have dS:Hid (be<W.heap.size):=CS Ae.out.lt;have zG:Hid (w6.heap.size+1<W.heap.size):=CS fM.out.lt.1;clear jc cf fY jg k8 k9 uK sa vR o4 o5 hI qN z7 lx x2 l2 zQ fM H8 H9 Ae H12 H13 H5 qE zs;rw[jR]
   clear jR;by_cases hz:n5=0
   ·subst hz
    have g3:W1.cell? ⟨x',3,none⟩=some (D1 x').A:=fA.cell 3;have g7:W1.cell? ⟨x',7,none⟩=some (.bool (D1 x').fl):=fA.cell 7;have m3:=fA.frozen 3;have m7:=fA.frozen 7;have lx:=fA.lt;have kP:zaP D1 (yx.kids.map hd)=[]:=AD zA.out;have aL:∀c∈yx.kids,(D1 (hd c)).fl=true:=λc hc=>by
     unfold zaP at kP;rw[List.filter_eq_nil_iff]at kP
     have:=kP (hd c) (AM.2 ⟨c,hc,rfl⟩);simpa using this
    have rr:=dH.out.fill HS.out tF.out HQ.out.1 HQ.out.2 aL (B:=W.heap.size) HLW.out O4.out;have km:=CS rr;have eG:=CS aL;clear rr aL kP fA hr8;gi_wp2
    have h6:=eh.out;have k14:=Ac.out;have hxlo:=dH.out.lb.2.2.1 x' yx tF.out;have ja:∀g,g≠x'->((W1.setCell ⟨x',3,none⟩ (.slice A4 yx.kids.length a4)).setCell ⟨x',7,none⟩ (.bool true)).heap[g]?=W1.heap[g]?:=λg hg=>(Below.heap_setCell _ _ _ _ hg).trans (Below.heap_setCell _ _ _ _ hg);have hf2:∀q,(D1 q).fl=true->(upn D1 x' { D1 x' with A:=.slice A4 yx.kids.length a4,fl:=true } q).fl=true:=λq hq=>by
     by_cases e:q=x'
     ·rw[e,zal]
     ·rw[zac _ _ _ _ e];exact hq
    have qN:=HSW.out;have hlpW:=zG.out;refine⟨⟨filW G k F',l,?_,F',upn D1 x' { D1 x' with A:=.slice A4 yx.kids.length a4,fl:=true },_,v1,H1.out,H2.out.pop hf2 (by rw[zal]),H3.out.tail,rfl,km.out,λg hg=>.inl (H6.out g hg),?_,K8.out.same (ja _ (by omega)),K9.out.same (ja _ (by omega)),?_,K11.out.same (ja _ (by omega)),zan K12.out (λg hg=>ja g (by have:=(zab K12.out g hg).1;omega)),(K13.out.setCell (p:=⟨x',3,none⟩) (.inr (.inr ⟨yx,tF.out⟩)) _).setCell (p:=⟨x',7,none⟩) (.inr (.inr ⟨yx,tF.out⟩)) _,Ac.out⟩,?_⟩
    ·show _<filW G k ((x',e)::F')
     rw[filW]
     have:=zb0 (tv G k x');cases e <;> simp <;> omega
    ·rcases H7.out with h|h
     ·exact .inl (hf2 p h)
     ·rcases AA.1 h with h|h
      ·rw[AJ]at h;rw[h];exact .inl (by rw[zal])
      ·exact .inr (by simpa using h)
    ·rintro(h|h)
     ·exact H10.out h
     ·have:=(zab O4.out _ h).1
      omega
    ·exact(uf.out.setCell ⟨x',3,none⟩ _ (by show x'≠_;omega) (by show x'≠_;omega)).setCell ⟨x',7,none⟩ _ (by show x'≠_;omega) (by show x'≠_;omega)
   ·have he:e=false:=by
     cases e with
     |false=>rfl
     |true =>
      exfalso
      refine hz ?_;rw[<-zA.out]
      unfold zaP;rw[Cs,List.filter_eq_nil_iff]
      intro c hc;obtain⟨c0',eO,rfl⟩:=AM.1 hc;rcases(HQ3.out rfl).1 yx tF.out c0' eO with h|h
      ·simpa using h
      ·cases h
    subst he;obtain⟨P1,P2,P3⟩:=H2.out.open_ HS.out H3.out tF.out (zaP D1 (yx.kids.map hd)) rfl;have hn5p:¬((n5:Int)=0):=by omega
    have hgt:decide ((0:Int)<(n5:Int))=true:=by rw[Cr];omega
    have hn5l:n5<=1000000:=by
     rw[<-zA.out]
     unfold zaP;refine AB (Ci _ _) ?_;rw[AR]
     have:=zM.out;have:=lH.out;omega
    obtain⟨j0,jm,uM,jK,ku⟩:=info_parts infoPtr;have ke:=CS (O5.out.alloc (.cells #[.pointer (some ⟨x',0,none⟩)] 75));have j9:=CS (show _/\_/\_ from⟨P1,P2,P3⟩);clear P1 P2 P3 fA hr8;gi_wp2_with (gi_at_builtin;go_loud (refine wpListIn_append_own _ rfl (.tmp 27) (.tmp 29) 130 rfl W.heap.size 75 j0 _ 1 8 Tryz.underlying130 jm uM jK ku rfl (by decide) _ n5 ((zaP D1 (yx.kids.map hd)).map PK) rfl ke.out ⟨W1.heap.size,0,none⟩ 1 1 [.pointer (some ⟨x',0,none⟩)] rfl rfl (zas _ _ _ _ (by simp)) (by intro u hu;simp at hu;subst hu;rfl) (by unfold maxLen;omega) (by omega) (by have:=HSW.out;simp;omega) ?_);go_loud (intro v9 w9 fS ae kP);go_loud (obtain⟨A9',c9',rfl⟩:=zam fS);have zu:=CS fS;have qy:=CS ae;clear fS ae kP)
    have hsw:=HSW.out;have aI:=dS.out;have k14:=Ac.out;have hlpl:=zG.out;have h6:=eh.out;have hs9:W1.heap.size<w9.heap.size:=by have:=qy.out.size;simp only[World.size_alloc]at this;omega
    have aP:∀g,(Value.slice A5 n5 a5).ownBlock=some g->W.heap.size<=g/\∃cur,W1.heap[g]?=some (.cells cur 75 (0,0)):=λg hg=>by
     obtain⟨n1,_,n2⟩:=zab O5.out g hg;exact⟨n1,n2⟩
    have pP:∀g,g<W.heap.size->w9.heap[g]?=W1.heap[g]?:=λg hg=>(qy.out.block g (by simp only[World.size_alloc];omega) (λe=>by have:=(aP g e.symm).1;omega)).trans (Below.heap_alloc _ _ _ (by omega));have hl9:∀z,LaidQ W1 z->LaidQ w9 z:=λz ⟨cs,hx⟩=>⟨cs,((qy.out.block z (by simp only[World.size_alloc];have:=(Aj.1 hx).1;omega) (λe=>by
     obtain⟨_,cur,aa⟩:=aP z e.symm;exact Blk.ne_ (show Blk W1 z _ cs from hx) (show Blk W1 z _ cur from aa) (by decide) rfl)).trans (Below.heap_alloc _ _ _ (Aj.1 hx).1)).trans hx⟩
    have hM9:=dH.out.keep (W':=w9) (λg hg=>pP g (by have:=HLW.out;omega)) (λg hg=>pP g (oP.out g hg)) hl9 (by omega);have uK:=K11.out.same (pP _ aI);have sa:=zan K12.out (w':=w9) (λg hg=>pP g (fK.out g hg));have vR:Chg (λg=>g=mk\/∃x,G g=some x) w w9:=(K13.out.alloc (.cells #[.pointer (some ⟨x',0,none⟩)] 75)).grown qy.out (λk hk=>.inl (by have:=(aP k hk).1;have:=iz.out;omega));have xu:LoopAt r (w6.heap.size+1) w6.heap.size w9:=uf.out.keep (pP _ (by omega)) (pP _ (by omega));have na:(zaP D1 (yx.kids.map hd)++[x']).length=n5+1:=by rw[Ap,zA.out];rfl
    have qX:=j9.out.1.len j9.out.2.1 HS.out.gr.all;rw[Ap,AR,zA.out,Ao,<-AR (f:=λz:Nat × Bool=>z.1),H1.out,BU]at qX
    have kz:=lH.out;have o9:w9.ownsRow W.heap.size 75 1 (.slice A9' (n5+1) c9') (n5+1) ((zaP D1 (yx.kids.map hd)++[x']).map PK):=by rw[Bl];exact zu.out
    have bS:=zff be (be+1) 195 #[v1] (by simp) l (zaP D1 (yx.kids.map hd)++[x']) v1 A9' c9' w9 uK sa (by omega) (λe=>by have:=(zab sa _ e).1;omega) (by rw[na];omega) (λj q hq=>by
     obtain⟨g,cap,cur,hv,n1,n2,n3⟩:=zdZ o9 (by omega);injection hv with e1 _ _;exact⟨g,e1,(Aj.1 n2).1,by omega,λe=>by have:=fK.out g e;omega,(cell_of_row w9 g j cur _ (0,0) n2).trans (n3 j q hq)⟩)
    rw[na]at bS
    have dA:=CS bS;have qw:=CS hM9;have K13':=CS vR;have ue:=CS xu;have K11':=CS uK;have tE:=CS sa;have K8':=CS (K8.out.same (pP _ (by omega)));have K9':=CS (K9.out.same (pP _ (by omega)));clear bS hM9 vR xu uK sa o9 qX na hl9 pP aP dH K8 K9 K11 K12 K13 uf zu qy ke;refine⟨trivial,?_⟩;refine(CallsIn.inRound _ ((callsIn_wide (n:=_)).2 dA.out)).mono ?_;rintro e2 W4 ⟨⟨ve2,rfl⟩,v9,d1,d2,-,-,-,d6⟩;have au:∀(g:Nat) (z:Obj),w9.heap[g]?=some z->(∀cs t,z=.cells cs t (0,0)->t≠195/\t≠75)->W4.heap[g]?=w9.heap[g]?:=λg z hg ht=>d6.block g (Aj.1 hg).1 (by
     rintro(h|h)
     ·have hs:w9.heap[be]?=_:=K11'.out
      rw[h,hs]at hg
      injection hg with hg;exact(ht _ _ hg.symm).1 rfl
     ·obtain⟨_,_,cur,aa⟩:=zab tE.out g h
      rw[aa]at hg
      injection hg with hg;exact(ht _ _ hg.symm).2 rfl)
    have oK:∀(g:Nat) (cs:Array Value) (t:TypeId),Blk w9 g t cs->t≠195->t≠75->Blk W4 g t cs:=λg cs t hg t1 t2=>hg.same (au g _ hg (λcs' t' e=>by injection e with _ e;subst e;exact⟨t1,t2⟩));have aZ:∀g,g<lo->W4.heap[g]?=w9.heap[g]?:=λg hg=>d6.block g (by have:=HLW.out;omega) (by
     rintro(h|h)
     ·omega
     ·have:=(zab tE.out g h).1;omega)
    have yz:=qw.out.keep (W':=W4) aZ (λg hg=>by
     obtain⟨_,cur,aa⟩:=qw.out.tt g hg;exact au g _ aa (λcs t e=>by injection e with _ e;subst e;exact⟨by decide,by decide⟩)) (λz ⟨cs,hx⟩=>⟨cs,(au z _ hx (λcs' t e=>by injection e with _ e;subst e;exact⟨by decide,by decide⟩)).trans hx⟩) d6.size
    have hJ:FilJ b mk lo p w.heap.size (w.heap.size+1) be c0 c1 c2 c4 G k hd T w (filW G k ((zaP D1 (yx.kids.map hd)).map (·,false)++(x',true)::F')) [] (l++(zaP D1 (yx.kids.map hd)++[x']).reverse) W4:=by
     refine⟨_,D1,T1,v9,?_,j9.out.1,j9.out.2.1,rfl,yz,H6.out,?_,oK _ _ _ K8'.out (by decide) (by decide),oK _ _ _ K9'.out (by decide) (by decide),H10.out,d1,by simpa using d2,K13'.out.trans' d6 (λg hg h=>?_),Ac.out⟩
     ·rw[Bl,Cc,AH,H1.out,Cd,BQ,Bj]
      have dY:List.map ((λz:Nat × Bool=>z.1) ∘ λz=>(z,false)) (zaP D1 (yx.kids.map hd))=zaP D1 (yx.kids.map hd):=by
       conv=>rhs;rw[<-List.map_id (zaP D1 (yx.kids.map hd))]
       rfl
      rw[dY]
      rfl
     ·rcases H7.out with h|h
      ·exact .inl h
      ·right
       rw[AL,Cd,BQ]
       rcases AA.1 h with h|h
       ·rw[AJ]at h;rw[h];simp
       ·exact Bh _ h
     ·rcases h with h|h
      ·have:=iz.out;omega
      ·have:=(zab tE.out g h).1;have:=iz.out;omega
    have mU:LoopAt r (w6.heap.size+1) w6.heap.size W4:=ue.out.keep (au _ _ ue.out.1 (λcs t e=>by cases e)) (au _ _ ue.out.2 (λcs t e=>by cases e));have HJ:=CS hJ;have HLP4:=CS mU;clear hJ mU yz aZ oK au d1 d2 d6;gi_wp2
    exact⟨⟨_,_,j9.out.2.2,HJ.out⟩,HLP4.out⟩
end Go.Proofs.YtfafilmklhnngaaGreatDoor
