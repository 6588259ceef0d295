import Derived.Test.YtfafilmklhnngaaGreatDoorBiAJ
import Derived.Test.YtfafilmklhnngaaGreatDoorBiAD
set_option maxHeartbeats 12800000
namespace Go.Proofs.YtfafilmklhnngaaGreatDoor
open Go.RowKit Lx Tx Go.Maps Go.WideMaps
set_option maxRecDepth 100000
def EqsAt(S:Nat->Prop)(w:World)(ts:List (Ty × Ty))(A:Option Addr):Prop :=
 ∀(i:Nat) (t u:Ty),ts[i]?=some (t,u)->∃g At ct Au cu,A=some ⟨g,0,none⟩/\g<w.heap.size/\Cell4 w t At ct g (i*8)/\Args S w t At/\Cell4 w u Au cu g (i*8+4)/\Args S w u Au
theorem UfC.but {b mv mu mk:Nat} {w0:World} {G:Nat->Option Nd} {D:Nat->Dy} {V:Name->Option Nat} {U:Nat->Option Nat} {W W':World} {ob:Option Nat}(h:UfC b mv mu mk w0 G D V U W)(hk:∀g,g<W.heap.size->some g≠ob->W'.heap[g]?=W.heap[g]?)
  (hob:∀g,ob=some g->∃cur,W.heap[g]?=some (.cells cur 78 (0,0)))(hC:Chg (λg=>g=mv\/g=mu) w0 W'):UfC b mv mu mk w0 G D V U W':=by
 have hne:∀(g:Nat) (o:Obj),W.heap[g]?=some o->(∀cur,o≠.cells cur 78 (0,0))->W'.heap[g]?=W.heap[g]?:=λg o hg ho=>hk g (Array.getElem?_eq_some_iff.1 hg).1 (λe=>by
  obtain⟨cur,hc⟩:=hob g e.symm;rw[hc]at hg
  injection hg with hg;exact ho cur hg.symm)
 have hcell:∀(g:Nat) (cs:Array Value) (t:TypeId),W.heap[g]?=some (.cells cs t (0,0))->t≠78->W'.heap[g]?=W.heap[g]?:=λg cs t hg ht=>hne g _ hg (λcur e=>by injection e with _ e;exact ht e);have hmap:∀ {κ:Type} [DecidableEq κ] {kv:κ->Value} {ok:World->κ->Prop} {m:Nat} {f:κ->Option Nat},MapK kv ok W m f->W'.heap[m]?=W.heap[m]?:=fun {κ} _ {kv ok m f} hm=>hk m (MapK.lt hm) (λe=>by
  obtain⟨cur,hc⟩:=hob m e.symm;exact MapK.no hm hc)
 refine⟨h.sb.same (hcell _ _ _ h.sb (by decide)),⟨MapK.keep h.lays.ms (hmap h.lays.ms) (λ_ h=>h),MapK.keep h.lays.mi (hmap h.lays.mi) (λ_ h=>h),?_,h.lays.vn,h.lays.un,h.lays.dn⟩,h.vf,h.kn.keep (hmap h.kn.mp) (λx ⟨cs,hx⟩=>⟨cs,(hcell x cs _ hx (by decide)).trans hx⟩),hC,h.lo⟩;intro p x hx;obtain⟨A,c,hb,hr⟩:=h.lays.pd p x hx;refine PartC.keep ⟨A,c,hb,hr⟩ (hcell _ _ _ hb (by decide)) (λhn=>?_);obtain⟨_,cur,hc,_⟩:=hr hn;exact hcell _ _ _ hc (by decide)
def UfH(b mv mu mk:Nat)(w0:World)(ts:List (Ty × Ty))(n gg:Nat)(v5 vi:Value)(wr:World):Prop :=
 ∃i es ns G D V U,gg=n-i/\vi=.int .i64 (i:Nat)/\i<=n/\es.length=i/\UfC b mv mu mk w0 G D V U wr/\LayQ G U V (ts.take i) es ns/\ns.Nodup/\(∀x∈ns,x<wr.heap.size)/\wr.ownsRow w0.heap.size 78 3 v5 i (eqCells es)
theorem UfH.next {b mv mu mk:Nat} {w0:World} {ts:List (Ty × Ty)} {n i:Nat} {v5 v5':Value} {es:List Eqn} {ns:List Nat} {G:Nat->Option Nd} {D:Nat->Dy} {V:Name->Option Nat} {U:Nat->Option Nat} {wr W7 W2 w6:World} {t u:Ty} {pl pr:Nat} {o:Obj}
  (hin:i<n)(ht:ts[i]?=some (t,u))(hle:es.length=i)(hC:UfC b mv mu mk w0 G D V U wr)(hq:LayQ G U V (ts.take i) es ns)(hnd:ns.Nodup)(hlt:∀x∈ns,x<wr.heap.size)(h7:Below wr.heap.size wr W7)(hT:UfT b mv mu mk w0 G D V U W7 t u pl pr W2)
  (hob:∀g,v5.ownBlock=some g->w0.heap.size<=g/\∃cur,W2.heap[g]?=some (.cells cur 78 (0,0)))(hg:(W2.alloc o).grownBy w6 v5.ownBlock)(ho:w6.ownsRow w0.heap.size 78 3 v5' (i+1) (eqCells (es++[⟨pl,pr,false⟩]))):UfH b mv mu mk w0 ts n (n-(i+1)) v5' (.int .i64 ((i+1:Nat):Nat)) w6:=by
 obtain⟨nl,nr,G2,D2,V2,U2,k1,k2,k3,k4,k5,k6,k7⟩:=hT;have s7:=h7.size;have s2:=k7.size;have sg:W2.heap.size<=w6.heap.size:=by have:=hg.size;simp only[World.size_alloc]at this;omega
 refine⟨i+1,_,ns++(nl++nr),G2,D2,V2,U2,rfl,rfl,by omega,by simp[hle],?_,?_,?_,?_,ho⟩
 ·refine k1.but (ob:=v5.ownBlock) (λg hg' he=>?_) (λg h=>(hob g h).2) ((k1.ch.alloc o).grown hg (λk hk=>.inl (hob k hk).1))
  exact(hg.block g (by simp;omega) he).trans (Below.heap_alloc _ _ _ hg')
 ·have:ts.take (i+1)=ts.take i++[(t,u)]:=by rw[List.take_add_one,ht];rfl
  rw[this]
  refine LayQ.snoc k3 k4 _ (LayQ.more ?_ k2.ux k2.vx _ hq);exact k2.gx λq x hx=>by have:=hC.lays.lt hx;omega
 ·exact List.nodup_append.2 ⟨hnd,k5,λa ha b hb e=>by have:=hlt a ha;have:=(k6 b hb).1;omega⟩
 ·intro x hx
  rcases List.mem_append.1 hx with hx|hx
  ·have:=hlt x hx;omega
  ·have:=(k6 x hx).2;omega
end Go.Proofs.YtfafilmklhnngaaGreatDoor
namespace Go.Proofs.YtfafilmklhnngaaGreatDoor
open Go.RowKit Go.Shelf Lx Tx Go.Maps Go.WideMaps
set_option maxRecDepth 100000
structure UrB (e2 e3 e4 b:Nat) (W:World):Prop where
 b2:Blk W e2 28 #[.slice none 0 0]
 b3:Blk W e3 29 #[.int .i64 0]
 b4:Blk W e4 72 #[.pointer (some ⟨b,0,none⟩)]
theorem UrB.keep {e2 e3 e4 b:Nat} {W W':World}(h:UrB e2 e3 e4 b W)(hk:∀(g:Nat)(cs:Array Value)(t:TypeId),W.heap[g]?=some (.cells cs t (0,0))->t≠85->t≠132->t≠78->W'.heap[g]?=W.heap[g]?):UrB e2 e3 e4 b W' :=
 ⟨h.b2.same (hk _ _ _ h.b2 (by decide) (by decide) (by decide)),h.b3.same (hk _ _ _ h.b3 (by decide) (by decide) (by decide)),h.b4.same (hk _ _ _ h.b4 (by decide) (by decide) (by decide))⟩
def UrJ(b mu mk B:Nat)(G:Nat->Option Nd)(L:List Nat)(U:Nat->Option Nat)(mv:Value)(C N0:Nat)(o:Nat ⊕ Sb)(e2 e3 e4:Nat)(w:World)(N:Nat)(top stk:List Eqn)(W:World):Prop :=
 ∃hd k f s D v,N=msr f (top++stk.reverse)/\Sim G L hd k (top++stk.reverse) f o/\StkS G k [] (top++stk.reverse)/\StkN G C 0 (top++stk.reverse)/\SolW b mu mk B G U hd s D mv v stk W/\0<=s/\s+(heads hd L:Nat)<=N0/\(∀p,hd p≠p->∃x,G p=some x)/\UrB e2 e3 e4 b W/\Below w.heap.size w W
theorem znb {w:World} {B:Nat} {e:TypeId} {v:Value} {l:List Eqn} {x:Eqn}(h:w.ownsRow B e 3 v (l++[x]).length (eqCells (l++[x]))):∃g cap,v=.slice (some ⟨g,0,none⟩) (l++[x]).length cap/\w.ownsRow B e 3 (.slice (some ⟨g,0,none⟩) l.length cap) l.length (eqCells l):=by
 obtain⟨h0,⟨_,h1⟩|⟨g,cap,cur,hv,h1,h2,h3,h4,h5,h6⟩⟩:=h
 ·simp at h1
 ·refine⟨g,cap,hv,zci l,.inr ⟨g,cap,cur,rfl,h1,h2,?_,h4,h5,?_⟩⟩
  ·rw[List.length_append]at h3;simp at h3;omega
  ·rw[zbx,List.length_append]at h6
   have:=congrArg (List.take (l.length*3)) h6;rw[List.take_take,List.take_left' (zci l)]at this
   rw[<-this]
   congr 1
   first|(simp;done)|(simp;omega)
theorem zof {W:World} {B b:Nat} {v:Value} {cs:Array Value} {l:List Eqn} {t:TypeId}(hb:Blk W b t (cs.setIfInBounds 0 v))(hcs:0<cs.size)(ho:W.ownsRow B 78 3 v l.length (eqCells l))(hl:l.length<=1000000000):∃A c,v=.slice A l.length c/\StkE W b l A c:=by
 have hc0:W.cell? ⟨b,0,none⟩=some v:=by
  rw[cell_of_row W b 0 _ _ (0,0) hb]
  simp[hcs]
 have hf0:W.frozen? ⟨b,0,none⟩=false:=frozen_of_row W b 0 _ _ hb;have ho':=ho;obtain⟨h0,⟨hv,h1⟩|⟨g,cap,cur,hv,h1,h2,h3,h4,h5,h6⟩⟩:=ho
 ·refine⟨none,0,by rw[hv,h1],by rw[h1,<-hv];exact hc0,hf0,hb.lt,by omega,hl,λhn=>?_⟩
  exact(hn (List.eq_nil_of_length_eq_zero h1)).elim
 ·refine⟨some ⟨g,0,none⟩,cap,hv,by rw[<-hv];exact hc0,hf0,hb.lt,h3,hl,λ_=>⟨g,rfl,?_⟩⟩
  rw[hv]at ho'
  exact(zfL ho').2.2
section
variable {b mu mk B:Nat} {G:Nat->Option Nd} {L:List Nat} {U:Nat->Option Nat} {mv:Value} {C N0:Nat} {o:Nat ⊕ Sb} {e2 e3 e4:Nat} {w:World} {N:Nat} {W W':World}
theorem SolW.keepB {hd:Nat->Nat} {s:Int} {D:Nat->Dy} {v:Value} {stk:List Eqn}(h:SolW b mu mk B G U hd s D mv v stk W)(hk:∀(g:Nat)(x:Obj),W.heap[g]?=some x->(∀r,x≠.loop r)->(∀r,x≠.deferred r)->W'.heap[g]?=W.heap[g]?)(hs:W.heap.size<=W'.heap.size):SolW b mu mk B G U hd s D mv v stk W':=by
 have hc:∀(g:Nat) (cs:Array Value) (t:TypeId),W.heap[g]?=some (.cells cs t (0,0))->W'.heap[g]?=W.heap[g]?:=λg cs t hg=>hk g _ hg (λ_ e=>by cases e) (λ_ e=>by cases e);have hm:∀ {κ:Type} [DecidableEq κ] {kv:κ->Value} {ok:World->κ->Prop} {m:Nat} {f:κ->Option Nat},MapK kv ok W m f->W'.heap[m]?=W.heap[m]?:=fun {κ} _ {kv ok m f} h=>by
  obtain⟨es,n,l,h1,_⟩:=h;exact hk m _ h1 (λ_ e=>by cases e) (λ_ e=>by cases e)
 obtain⟨K,hK⟩:=h.kn;exact⟨h.sb.same (hc _ _ _ h.sb),zal h.own (λg hg=>by obtain⟨_,_,cur,hcur⟩:=zab h.own g hg;exact hc g cur _ hcur),⟨K,hK.keep (hm hK.mp) (λx ⟨cs,hx⟩=>⟨cs,(hc x cs _ hx).trans hx⟩)⟩,
  h.pd.same (λg _ ⟨cs,t,hg⟩=>hc g cs t hg),MapK.keep h.mi (hm h.mi) (λ_ h=>h),λn p hn=>by obtain⟨cs,hx⟩:=h.lq n p hn;exact⟨cs,(hc p cs _ hx).trans hx⟩,h.sr,h.fl,h.da,h.mm,Nat.le_trans h.hB hs⟩
theorem SolW.below {hd:Nat->Nat} {s:Int} {D:Nat->Dy} {v:Value} {stk:List Eqn}(h:SolW b mu mk B G U hd s D mv v stk W)(hb:Below W.heap.size W W'):SolW b mu mk B G U hd s D mv v stk W' :=
 h.keepB (λg _ hg _ _=>hb.block g (Array.getElem?_eq_some_iff.1 hg).1) hb.size
theorem UrJ.keep {top stk:List Eqn}(h:UrJ b mu mk B G L U mv C N0 o e2 e3 e4 w N top stk W)(hb:Below W.heap.size W W'):UrJ b mu mk B G L U mv C N0 o e2 e3 e4 w N top stk W':=by
 obtain⟨hd,k,f,s,D,v,h1,h2,h3,h4,h5,h6,h7,h7',h8,h9⟩:=h;exact⟨hd,k,f,s,D,v,h1,h2,h3,h4,h5.below hb,h6,h7,h7',h8.keep (λg cs t hg _ _ _=>hb.block g (Array.getElem?_eq_some_iff.1 hg).1),h9.trans (hb.mono h9.size)⟩
theorem zaQ {W:World} {lp:Nat} {x y:Obj}(hl:W.heap[lp]?=some x) {g:Nat} {z:Obj}(hg:W.heap[g]?=some z)(hne:z≠x):(W.putObj lp y).heap[g]?=W.heap[g]?:=World.putObj_heap_other λe=>by
 rw[e,hl]at hg
 injection hg with hg;exact hne hg.symm
theorem UrJ.rec_ {top stk:List Eqn} {lp:Nat} {x y:Obj}(h:UrJ b mu mk B G L U mv C N0 o e2 e3 e4 w N top stk W)(hlp:w.heap.size<=lp)(hl:W.heap[lp]?=some x)(hx:(∃r,x=.loop r)\/∃r,x=.deferred r):UrJ b mu mk B G L U mv C N0 o e2 e3 e4 w N top stk (W.putObj lp y):=by
 obtain⟨hd,k,f,s,D,v,h1,h2,h3,h4,h5,h6,h7,h7',h8,h9⟩:=h;refine⟨hd,k,f,s,D,v,h1,h2,h3,h4,h5.keepB (λg z hg a b=>zaQ hl hg (by rcases hx with⟨r,rfl⟩|⟨r,rfl⟩;exact a r;exact b r)) (by rw[World.putObj_size];exact Nat.le_refl _),h6,h7,h7',h8.keep (λg cs t hg _ _ _=>zaQ hl hg (by rcases hx with⟨r,rfl⟩|⟨r,rfl⟩ <;> simp)),?_⟩;exact⟨h9.os,h9.tape,h9.output,by rw[World.putObj_size];exact h9.size,λg hg=>(World.putObj_heap_other (by omega)).trans (h9.block g hg)⟩
theorem UrJ.stk {l:List Eqn}(h:UrJ b mu mk B G L U mv C N0 o e2 e3 e4 w N [] l W)(hwt:1+C+wg G [] L<=1000000)(hbw:w.heap.size<=b):∃A c,StkE W b l A c/\∀x l',l=l'++[x]->UrJ b mu mk B G L U mv C N0 o e2 e3 e4 w N [x] l' ((W.setCell ⟨b,0,none⟩ (.slice A l'.length c)).alloc (.cells #[.pointer (some ⟨x.l,0,none⟩),.pointer (some ⟨x.r,0,none⟩),.bool x.d] 78)):=by
 obtain⟨hd,k,f,s,D,v,h1,h2,h3,h4,h5,h6,h7,h7',h8,h9⟩:=h;rw[List.nil_append]at h1 h2 h3 h4
 have hlen:l.length<=1000000000:=by
  have h2':=h2;obtain⟨_,_,_,_,S,_⟩:=h2';have:=h3.len h4 S.gr.all;rw[List.length_reverse]at this
  omega
 obtain⟨A,c,rfl,hst⟩:=zof (cs:=#[v,mv,.map (some mu),.map (some mk),.int .i64 s]) h5.sb (by simp) h5.own hlen;refine⟨A,c,hst,λx l' e=>?_⟩;subst e;obtain⟨g,cap,hgc,ho⟩:=znb h5.own;injection hgc with e1 _ e2';subst e1 e2';rw[List.reverse_append]at h1 h2 h3 h4
 have hgb:g≠b:=λe=>by
  obtain⟨_,_,cur,hcur⟩:=zab ho g rfl;rw[e]at hcur
  exact Blk.ne_ (show Blk W b _ cur from hcur) h5.sb (by decide) rfl
 have hne:∀z,z≠b->(W.setCell ⟨b,0,none⟩ (.slice (some ⟨g,0,none⟩) l'.length c)).heap[z]?=W.heap[z]?:=λz hz=>Below.heap_setCell _ _ _ _ hz;obtain⟨K,hK⟩:=h5.kn;have hno:∀(z:Nat) (cs:Array Value) (t:TypeId),W.heap[z]?=some (.cells cs t (0,0))->t≠85->z≠b:=λz cs t hz ht=>Blk.ne_ (show Blk W z t cs from hz) h5.sb ht;have hsw:SolW b mu mk B G U hd s D mv (.slice (some ⟨g,0,none⟩) l'.length c) l' (W.setCell ⟨b,0,none⟩ (.slice (some ⟨g,0,none⟩) l'.length c)):=by
  refine⟨heap_setCell_same W b 0 _ _ _ h5.sb,ownsRow_setCell_other (a:=⟨b,0,none⟩) ho (λe=>hgb (by simpa[Value.ownBlock] using e)) _,⟨K,hK.keep (hne _ (λe=>by have:=h5.sb;rw[<-e]at this;exact MapK.no hK.mp this)) (λy hy=>hy.setCell _ _ _)⟩,?_,MapK.keep h5.mi (hne _ (λe=>by have:=h5.sb;rw[<-e]at this;exact MapK.no h5.mi this)) (λ_ h=>h),λn p hn=>(h5.lq n p hn).setCell _ _ _,h5.sr,h5.fl,h5.da,h5.mm,by rw[World.size_setCell];exact h5.hB⟩;intro q x hx;obtain⟨A9,c9,hb9,hr9⟩:=h5.pd q x hx;refine PartC.keep ⟨A9,c9,hb9,hr9⟩ (hne _ (hno _ _ _ hb9 (by decide))) (λhn=>?_);obtain⟨_,cur,hcur,_⟩:=hr9 hn;exact hne _ (hno _ _ _ hcur (by decide))
 refine⟨hd,k,f,s,D,_,h1,h2,h3,h4,hsw.below ((Below.refl _ _).alloc (Nat.le_refl _) _),h6,h7,h7',?_,?_⟩
 ·refine UrB.keep (W:=W) h8 (λz cs t hz ht _ _=>?_)
  exact(Below.heap_alloc _ _ _ (by rw[World.size_setCell];exact(Array.getElem?_eq_some_iff.1 hz).1)).trans (hne z (hno z cs t hz ht))
 ·exact((h9.setCell (p:=⟨b,0,none⟩) hbw _).alloc (by rw[World.size_setCell];exact h9.size) _)
end
def knV(n:Nat)(t:Ty)(A:Option Addr)(c:Nat):List Value:=.int .i64 (n:Nat)::tyV t A c
def KnRow(S:Nat->Prop)(w:World):List (Nat × Ty)->List Value->Prop
 |[],vs=>vs=[]
 |(n,t)::r,vs=>∃A c rest,vs=knV n t A c++rest/\Args S w t A/\KnRow S w r rest
theorem KnRow.keep {S S':Nat->Prop} {w w':World}(hS:∀g,S g->S' g)(hk:∀g,S g->w'.heap[g]?=w.heap[g]?):(l:List (Nat × Ty))->∀vs,KnRow S w l vs->KnRow S' w' l vs
 |[],vs,h=>by rw[KnRow]at h ⊢;exact h
 |(n,t)::r,vs,h=>by
  rw[KnRow]at h ⊢
  obtain⟨A,c,rest,h1,h2,h3⟩:=h;exact⟨A,c,rest,h1,h2.keep hS hk,KnRow.keep hS hk r rest h3⟩
def KnsV(S:Nat->Prop)(B:Nat)(w:World)(l:List (Nat × Ty))(v:Value):Prop :=
 ∃vs,w.ownsRow B 39 5 v l.length vs/\KnRow S w l vs
def AnsPost(mk:Nat)(G:Nat->Option Nd)(k:Sb)(w:World)(e:Ending)(w':World):Prop :=
 ∃v l T,e=.returned v/\KnsV T w.heap.size w' l v/\Told k l/\(∀g,T g->w.heap.size<=g/\g<w'.heap.size)/\Chg (λg=>g=mk\/∃x,G g=some x) w w'
def znB:Prop:=∀(b mu mk B:Nat)(G:Nat->Option Nd)(L:List Nat)(U:Nat->Option Nat)(hd:Nat->Nat)(s:Int)(D:Nat->Dy)(mv v:Value)(k:Sb)(O:List Nat)(W:World),SolW b mu mk B G U hd s D mv v [] W->HdS G L hd k [] O->GrS G ->
 (∀n p,U n=some p->G p=some ⟨2,⟨#[]⟩,n,[],none,false⟩\/(hd p=p/\k n=.mt n))->(∀n,k n≠.mt n->∃p,U n=some p)->1+wg G [] L<=1000000 ->
 Calls Tryz.prog 37 #[.pointer (some ⟨b,0,none⟩)] W (AnsPost mk G k W)
def UnPost(ts:List (Ty × Ty))(w:World)(e:Ending)(w':World):Prop :=
 ∃f o,unF f (dbQ ts) .mt=some o/\Below w.heap.size w w'/\((∃m:Nat,o=.inl m/\m≠0/\e=.returned (.tuple #[.slice none 0 0,.int .i64 (m:Nat)])) \/
  ∃k v l T,o=.inr k/\e=.returned (.tuple #[v,.int .i64 0])/\KnsV T w.heap.size w' l v/\Told k l/\(∀g,T g->w.heap.size<=g/\g<w'.heap.size))
theorem zll {G:Nat->Option Nd} :(L:List Nat)->(∀q∈L,∃x,G q=some x)->L.length<=wg G [] L
 |[],_=>Nat.zero_le _
 |q::L,h=>by
  obtain⟨x,hx⟩:=h q (by simp);have:=zll L λz hz=>h z (by simp[hz]);rw[wg,hx,List.length_cons]
  simp only[List.not_mem_nil,if_false];omega
theorem UrJ.start {b mv mu mk i:Nat} {w0 wr w6 w:World} {G:Nat->Option Nd} {D:Nat->Dy} {V:Name->Option Nat} {U:Nat->Option Nat} {L:List Nat} {f:Nat} {o:Nat ⊕ Sb} {es:List Eqn} {v6:Value} {e2 e3 e4:Nat}(hC:UfC b mv mu mk w0 G D V U wr)(hsim:Sim (rst G L) L (λp=>p) .mt es f o)(hes:∀q∈es,q.d=false)(hle:es.length=i)
  (hm:mu≠mk)(a1:Blk w6 b 85 #[v6,.map (some mv),.map (some mu),.map (some mk),.int .i64 0])(a2:w6.ownsRow w0.heap.size 78 3 v6 es.reverse.length (eqCells es.reverse))(a6:Chg (λg=>g=b) wr w6)(hB:UrB e2 e3 e4 b w6)(hb:Below w.heap.size w w6):UrJ b mu mk w0.heap.size (rst G L) L U (.map (some mv)) i L.length o e2 e3 e4 w (msr f es) [] es.reverse w6:=by
 have hk:∀(g:Nat) (x:Obj),wr.heap[g]?=some x->(∀cs,x≠.cells cs 85 (0,0))->w6.heap[g]?=wr.heap[g]?:=λg x hg hx=>a6.block g (Array.getElem?_eq_some_iff.1 hg).1 (λe=>by
  have e:g=b:=e;have hs:wr.heap[b]?=_:=hC.sb;rw[e,hs]at hg
  injection hg with hg;exact hx _ hg.symm)
 have hc:∀(g:Nat) (cs:Array Value) (t:TypeId),wr.heap[g]?=some (.cells cs t (0,0))->t≠85->w6.heap[g]?=wr.heap[g]?:=λg cs t hg ht=>hk g _ hg (λcs' e=>by injection e with _ e;exact ht e);have hm':∀ {κ:Type} [DecidableEq κ] {kv:κ->Value} {ok:World->κ->Prop} {m:Nat} {f:κ->Option Nat},MapK kv ok wr m f->w6.heap[m]?=wr.heap[m]?:=fun {κ} _ {kv ok m f} h=>by
  obtain⟨es,n,l,h1,_⟩:=h;exact hk m _ h1 (λ_ e=>by cases e)
 have hla:∀x,LaidQ wr x->LaidQ w6 x:=λx ⟨cs,hx⟩=>⟨cs,(hc x cs _ hx (by decide)).trans hx⟩;have hh:heads (λp=>p) L<=L.length:=List.length_filter_le _ _;refine⟨λp=>p,.mt,f,0,D,v6,by rw[List.nil_append,List.reverse_reverse],by rw[List.nil_append,List.reverse_reverse];exact hsim,by rw[List.nil_append,List.reverse_reverse];exact StkS.start _ hes,by rw[List.nil_append,List.reverse_reverse];exact StkN.start _ hes (by omega),⟨a1,a2,⟨_,hC.kn.keep (hm' hC.kn.mp) hla⟩,?_,MapK.keep hC.lays.mi (hm' hC.lays.mi) (λ_ h=>h),λn p hn=>?_,λq x hx=>?_,λq x hx=>?_,λq x hx=>?_,hm,?_⟩,Int.le_refl _,by omega,λp hp=>absurd rfl hp,hB,hb⟩
 ·intro q x hx
  obtain⟨_,hx⟩:=zbu hx;obtain⟨A,c,hb,hr⟩:=hC.lays.pd q x hx;refine PartC.keep ⟨A,c,hb,hr⟩ (hc _ _ _ hb (by decide)) (λhn=>?_);obtain⟨_,cur,hcur,_⟩:=hr hn;exact hc _ _ _ hcur (by decide)
 ·exact hla p (hC.lays.pd p _ (hC.lays.un n p hn)).laid
 ·obtain⟨_,hx⟩:=zbu hx
  rw[(hC.lays.dn q x hx).2.1];exact Int.le_refl _
 ·obtain⟨_,hx⟩:=zbu hx
  exact(hC.lays.dn q x hx).1
 ·obtain⟨_,hx⟩:=zbu hx
  exact(hC.lays.dn q x hx).2.2
 ·exact Nat.le_trans hC.ch.size a6.size
attribute [local go_sem] Oper.semAt_some
theorem zhP(S:Nat->Prop)(ts:List (Ty × Ty))(A:Option Addr)(c:Nat)(w:World)(hin:EqsAt S w ts A)(hS:∀g,S g->g<w.heap.size)(hnm:∀t u,(t,u)∈ts->Nm t/\Nm u/\t.size<=1000000/\u.size<=1000000)(hn:ts.length<=1000)(hz:3*szQ ts+ts.length+1<=1000000)(hans:znB):Calls Tryz.prog 14 #[.slice A ts.length c] w (UnPost ts w):=by
 obtain⟨i0,hi0,hz0,hz1,hz2⟩:=info_parts infoEq;refine(callsIn_wide (n:=10)).1 ?_;refine callsIn_of_wp_marks Tryz.func14 rfl trivial ?_ rfl;simp only[Tryz.ntmps14,List.size_toArray,List.length_cons,List.length_nil,Nat.reduceAdd,Nat.reduceSub,Array.replicate_succ,Array.replicate_zero,List.push_toArray,List.append_toArray,List.nil_append,List.cons_append];refine wpIn_wide.2 ?_;obtain⟨n,hnn⟩:∃n,ts.length=n:=⟨_,rfl⟩;have HZ:=hidE hz;have HANS:=hidE hans;clear hz hans;rw[hnn]at hn ⊢
 obtain⟨l0,l1,hs2,hb2⟩:=za2 w (.cells #[.slice none 0 0] 28) (.cells #[.int .i64 0] 29);obtain⟨w2,hw2⟩:∃W,(w.alloc (.cells #[.slice none 0 0] 28)).alloc (.cells #[.int .i64 0] 29)=W:=⟨_,rfl⟩;rw[hw2]at l0 l1 hs2 hb2
 have HNEW:=hidE (zoO w2);have HW2:=hidE hw2;clear hw2;go_wp2_with fail
 rw[HW2.out]
 refine HNEW.out.mono ?_;rintro e w3 ⟨b,mv,mu,mk,rfl,n1,n2,n3,n4,n5,n6,n7,n8,n9,n10,n11,n12⟩;obtain⟨w0,hw0⟩:∃X,w3.alloc (.cells #[.pointer (some ⟨b,0,none⟩)] 72)=X:=⟨_,rfl⟩;have hb0:Below w3.heap.size w3 w0:=by rw[<-hw0];exact(Below.refl _ w3).alloc (Nat.le_refl _) _
 have hs0:w0.heap.size=w3.heap.size+1:=by rw[<-hw0];simp
 have hbox:Blk w0 w3.heap.size 72 #[.pointer (some ⟨b,0,none⟩)]:=by rw[<-hw0];exact heap_alloc_new _ _
 have hs3:=n8.size;have hin0:∀(i:Nat) (t u:Ty),ts[i]?=some (t,u)->∃g At ct Au cu,A=some ⟨g,0,none⟩/\g<w.heap.size/\Cell4 w0 t At ct g (i*8)/\Args S w0 t At/\Cell4 w0 u Au cu g (i*8+4)/\Args S w0 u Au:=λi t u h=>by
  obtain⟨g,At,ct,Au,cu,h1,h2,h3,h4,h5,h6⟩:=hin i t u h;have hk:∀z,z<w.heap.size->w0.heap[z]?=w.heap[z]?:=λz hz=>(hb0.block z (by omega)).trans ((n8.block z (by omega)).trans (hb2.block z hz));exact⟨g,At,ct,Au,cu,h1,h2,h3.keep (hk g h2),h4.keep (λ_ h=>h) (λz hz=>hk z (hS z hz)),h5.keep (hk g h2),h6.keep (λ_ h=>h) (λz hz=>hk z (hS z hz))⟩
 have hC0:UfC b mv mu mk w0 (λ_=>none) (λ_=>⟨.slice none 0 0,false,0,0⟩) (λ_=>none) (λ_=>none) w0 :=
  ⟨n1.below hb0 n1.lt,⟨MapK.keep n2 (hb0.block _ (MapK.lt n2)) (λ_ h=>h),MapK.keep n3 (hb0.block _ (MapK.lt n3)) (λ_ h=>h),(λp x h=>by cases h),(λx p h=>by cases h),(λn p h=>by cases h),(λp x h=>by cases h)⟩,(λx p h=>by cases h),
   n4.keep (hb0.block _ (MapK.lt n4.mp)) (λx ⟨cs,hx⟩=>⟨cs,(hb0.block x (Array.getElem?_eq_some_iff.1 hx).1).trans hx⟩),Chg.refl _ _,(λq x h=>by cases h)⟩
 have HC0:=hidE hC0;have HIN:=hidE hin0;have HNE:Hid (mv≠mu/\mk≠mv/\mk≠mu):=hidE ⟨n5,Ne.symm n6,Ne.symm n7⟩;have HBOX:=hidE hbox;have HNM:=hidE hnm;have HS:=hidE hS;have HNN:=hidE hnn;have HW0:=hidE hw0;have HN8:=hidE n8;have HB0:=hidE hb0;have HB2:=hidE hb2;have HL0:=hidE l0;have HL1:=hidE l1;have HLT:Hid (mv<w3.heap.size/\mu<w3.heap.size/\w2.heap.size<=mv/\w2.heap.size<=mu/\w2.heap.size<=mk/\w2.heap.size<=b/\b<w3.heap.size/\mk<w3.heap.size):=hidE ⟨MapK.lt n2,MapK.lt n3,n9,n10,n11,n12,n1.lt,MapK.lt n4.mp⟩;clear hin hS hnm n1 n2 n3 n4 n5 n6 n7 n8 n9 n10 n11 n12 hin0 hC0 hbox hnn hw0 hb0 hb2 l0 l1;go_wp2_with fail
 rw[HW0.out]
 go_loopg [5,13] n (λgg v5 vi wr=>UfH b mv mu mk w0 ts n gg v5 vi wr)
 case atStart =>
  refine⟨0,[],[],_,_,_,_,rfl,rfl,Nat.zero_le _,rfl,HC0.out,?_,List.nodup_nil,(λx hx=>by cases hx),World.ownsRow_nil _ _ _ _⟩;rw[List.take_zero,LayQ]
  exact⟨rfl,rfl⟩
 case round =>
  obtain⟨i,es,ns,G,D,V,U,rfl,rfl,hi,hle,hC,hq,hnd,hlt,ho⟩:=hrel;obtain⟨A5,c5,rfl⟩:=zao ho;have hchr:=hC.ch;by_cases hin:i<n
  ·obtain⟨⟨t,u⟩,htu⟩:∃p,ts[i]?=some p:=⟨_,List.getElem?_eq_getElem (by rw[HNN.out];exact hin)⟩
   obtain⟨g,At,ct,Au,cu,rfl,hg,hc1,ha1,hc2,ha2⟩:=HIN.out i t u htu;have hgk:∀z,z<w.heap.size->wr.heap[z]?=w0.heap[z]?:=λz hz=>hchr.block z (by omega) (λe=>by have:=HLT.out;have:=HB2.out.size;omega);have hd1:=hc1.keep (w':=wr) (hgk g hg);have hd2:=hc2.keep (w':=wr) (hgk g hg);have e1:=ha1.keep (w':=wr) (S':=S) (λ_ h=>h) (λz hz=>hgk z (HS.out z hz));have e2:=ha2.keep (w':=wr) (S':=S) (λ_ h=>h) (λz hz=>hgk z (HS.out z hz));obtain⟨f0,f1,f2,f3⟩:=hd1;obtain⟨f4,f5,f6,f7⟩:=hd2;replace f5:wr.cell? ⟨g,i*8+5,none⟩=_:=f5;replace f6:wr.cell? ⟨g,i*8+6,none⟩=_:=f6;replace f7:wr.cell? ⟨g,i*8+7,none⟩=_:=f7;have hbx:Blk wr w3.heap.size 72 #[.pointer (some ⟨b,0,none⟩)]:=HBOX.out.chg hchr (λe=>by have:=HLT.out;omega);have b4:wr.cell? ⟨w3.heap.size,0,none⟩=some (.pointer (some ⟨b,0,none⟩)):=hbx.cell 0;have l4:=hbx.lt;have hil:i<n:=hin;go_upto_region 6 with fail
   have HNU:=HNM.out t u (List.mem_of_getElem? htu);obtain⟨W7,hW7⟩:∃X,wr.alloc (.cells #[.int .i64 (kd t:Nat),.string (nmB t),.int .i64 (nn t:Nat),.slice At (kids t).length ct,.int .i64 (kd u:Nat),.string (nmB u),.int .i64 (nn u:Nat),.slice Au (kids u).length cu] 52)=X:=⟨_,rfl⟩;have hb7:Below wr.heap.size wr W7:=by rw[<-hW7];exact(Below.refl _ wr).alloc (Nat.le_refl _) _
   have hb7d:Below wr.heap.size wr W7.drew:=⟨hb7.os,hb7.tape,hb7.output,hb7.size,hb7.block⟩;have hs7:W7.heap.size=wr.heap.size+1:=by rw[<-hW7];simp
   have hbx7:Blk W7.drew w3.heap.size 72 #[.pointer (some ⟨b,0,none⟩)]:=hbx.below hb7d l4;have hq7:Blk W7.drew wr.heap.size 52 #[.int .i64 (kd t:Nat),.string (nmB t),.int .i64 (nn t:Nat),.slice At (kids t).length ct,.int .i64 (kd u:Nat),.string (nmB u),.int .i64 (nn u:Nat),.slice Au (kids u).length cu]:=by
    rw[<-hW7];exact heap_alloc_new _ _
   have y0:W7.drew.cell? ⟨wr.heap.size,0,none⟩=some (.int .i64 (kd t:Nat)):=hq7.cell 0;have y1:W7.drew.cell? ⟨wr.heap.size,1,none⟩=some (.string (nmB t)):=hq7.cell 1;have y2:W7.drew.cell? ⟨wr.heap.size,2,none⟩=some (.int .i64 (nn t:Nat)):=hq7.cell 2;have y3:W7.drew.cell? ⟨wr.heap.size,3,none⟩=some (.slice At (kids t).length ct):=hq7.cell 3;have y4:W7.drew.cell? ⟨wr.heap.size,4,none⟩=some (.int .i64 (kd u:Nat)):=hq7.cell 4;have y5:W7.drew.cell? ⟨wr.heap.size,5,none⟩=some (.string (nmB u)):=hq7.cell 5;have y6:W7.drew.cell? ⟨wr.heap.size,6,none⟩=some (.int .i64 (nn u:Nat)):=hq7.cell 6;have y7:W7.drew.cell? ⟨wr.heap.size,7,none⟩=some (.slice Au (kids u).length cu):=hq7.cell 7;have yl:wr.heap.size<W7.drew.heap.size:=hq7.lt;have x4:W7.drew.cell? ⟨w3.heap.size,0,none⟩=some (.pointer (some ⟨b,0,none⟩)):=hbx7.cell 0;have xl:w3.heap.size<W7.drew.heap.size:=hbx7.lt;have hC7:=hC.keep hb7d;have hS7:∀z,S z->z<W7.drew.heap.size/\z≠mv/\z≠mu:=λz hz=>by have h1:=HS.out z hz;have:=HLT.out;have:=HB2.out.size;have:=hchr.size;have:W7.drew.heap.size=wr.heap.size+1:=hs7;omega
   have hr1:RdV S W7.drew t (.agg #[.int .i64 (kd t:Nat),.string (nmB t),.int .i64 (nn t:Nat),.slice At (kids t).length ct]):=⟨At,ct,rfl,e1.keep (λ_ h=>h) (λz hz=>hb7d.block z (by have:=HS.out z hz;have:=HB2.out.size;have:=hchr.size;omega))⟩;have hr2:RdV S W7.drew u (.agg #[.int .i64 (kd u:Nat),.string (nmB u),.int .i64 (nn u:Nat),.slice Au (kids u).length cu]):=⟨Au,cu,rfl,e2.keep (λ_ h=>h) (λz hz=>hb7d.block z (by have:=HS.out z hz;have:=HB2.out.size;have:=hchr.size;omega))⟩;have hseq:=hle;have hmvr:mv<wr.heap.size/\mu<wr.heap.size/\w3.heap.size≠mv/\w3.heap.size≠mu/\wr.heap.size≠mv/\wr.heap.size≠mu/\w0.heap.size<=wr.heap.size/\(∀k,w0.heap.size<=k->k≠mv/\k≠mu):=by
    have h1:=HLT.out;have h2:=hchr.size;refine⟨by omega,by omega,by omega,by omega,by omega,by omega,h2,λk hk=>by omega⟩
   have hsnd:∀p w5,UfP b mv mu mk w0 G D V U W7.drew t p w5->Calls Tryz.prog 33 #[.pointer (some ⟨b,0,none⟩),.agg #[.int .i64 (kd u:Nat),.string (nmB u),.int .i64 (nn u:Nat),.slice Au (kids u).length cu]] w5 λe w6=>∃q,e=.returned (.pointer (some ⟨q,0,none⟩))/\w0.heap.size<=w6.heap.size /\
     Hid (∀j v,[Value.pointer (some ⟨p,0,none⟩),.pointer (some ⟨q,0,none⟩),.bool false][j]?=some v->(w6.alloc (.cells #[.pointer (some ⟨p,0,none⟩),.pointer (some ⟨q,0,none⟩),.bool false] 78)).cell? ((⟨w6.heap.size,0,none⟩:Addr).add j)=some v) /\
     Hid ((w6.alloc (.cells #[.pointer (some ⟨p,0,none⟩),.pointer (some ⟨q,0,none⟩),.bool false] 78)).ownsRow w0.heap.size 78 3 (.slice A5 i c5) i (eqCells es))/\Hid (UfT b mv mu mk w0 G D V U W7.drew t u p q w6)/\Hid (w6.cell? ⟨w3.heap.size,0,none⟩=some (.pointer (some ⟨b,0,none⟩))/\w6.cell? ⟨wr.heap.size,0,none⟩=some (.int .i64 (kd t:Nat))/\w6.cell? ⟨wr.heap.size,1,none⟩=some (.string (nmB t))/\w6.cell? ⟨wr.heap.size,2,none⟩=some (.int .i64 (nn t:Nat))/\w6.cell? ⟨wr.heap.size,3,none⟩=some (.slice At (kids t).length ct)/\w6.cell? ⟨wr.heap.size,4,none⟩=some (.int .i64 (kd u:Nat))/\w6.cell? ⟨wr.heap.size,5,none⟩=some (.string (nmB u))/\w6.cell? ⟨wr.heap.size,6,none⟩=some (.int .i64 (nn u:Nat))/\w6.cell? ⟨wr.heap.size,7,none⟩=some (.slice Au (kids u).length cu))/\Hid ((w6.alloc (.cells #[.pointer (some ⟨p,0,none⟩),.pointer (some ⟨q,0,none⟩),.bool false] 78)).cell? ⟨w3.heap.size,0,none⟩=some (.pointer (some ⟨b,0,none⟩))/\(w6.alloc (.cells #[.pointer (some ⟨p,0,none⟩),.pointer (some ⟨q,0,none⟩),.bool false] 78)).cell? ⟨wr.heap.size,0,none⟩=some (.int .i64 (kd t:Nat))/\(w6.alloc (.cells #[.pointer (some ⟨p,0,none⟩),.pointer (some ⟨q,0,none⟩),.bool false] 78)).cell? ⟨wr.heap.size,1,none⟩=some (.string (nmB t))/\(w6.alloc (.cells #[.pointer (some ⟨p,0,none⟩),.pointer (some ⟨q,0,none⟩),.bool false] 78)).cell? ⟨wr.heap.size,2,none⟩=some (.int .i64 (nn t:Nat))/\(w6.alloc (.cells #[.pointer (some ⟨p,0,none⟩),.pointer (some ⟨q,0,none⟩),.bool false] 78)).cell? ⟨wr.heap.size,3,none⟩=some (.slice At (kids t).length ct)/\(w6.alloc (.cells #[.pointer (some ⟨p,0,none⟩),.pointer (some ⟨q,0,none⟩),.bool false] 78)).cell? ⟨wr.heap.size,4,none⟩=some (.int .i64 (kd u:Nat))/\(w6.alloc (.cells #[.pointer (some ⟨p,0,none⟩),.pointer (some ⟨q,0,none⟩),.bool false] 78)).cell? ⟨wr.heap.size,5,none⟩=some (.string (nmB u))/\(w6.alloc (.cells #[.pointer (some ⟨p,0,none⟩),.pointer (some ⟨q,0,none⟩),.bool false] 78)).cell? ⟨wr.heap.size,6,none⟩=some (.int .i64 (nn u:Nat))/\(w6.alloc (.cells #[.pointer (some ⟨p,0,none⟩),.pointer (some ⟨q,0,none⟩),.bool false] 78)).cell? ⟨wr.heap.size,7,none⟩=some (.slice Au (kids u).length cu))/\Hid (∀w9,(w6.alloc (.cells #[.pointer (some ⟨p,0,none⟩),.pointer (some ⟨q,0,none⟩),.bool false] 78)).grownBy w9 (Value.slice A5 i c5).ownBlock->w9.cell? ⟨w3.heap.size,0,none⟩=some (.pointer (some ⟨b,0,none⟩))/\w9.cell? ⟨wr.heap.size,0,none⟩=some (.int .i64 (kd t:Nat))/\w9.cell? ⟨wr.heap.size,1,none⟩=some (.string (nmB t))/\w9.cell? ⟨wr.heap.size,2,none⟩=some (.int .i64 (nn t:Nat))/\w9.cell? ⟨wr.heap.size,3,none⟩=some (.slice At (kids t).length ct)/\w9.cell? ⟨wr.heap.size,4,none⟩=some (.int .i64 (kd u:Nat))/\w9.cell? ⟨wr.heap.size,5,none⟩=some (.string (nmB u))/\w9.cell? ⟨wr.heap.size,6,none⟩=some (.int .i64 (nn u:Nat))/\w9.cell? ⟨wr.heap.size,7,none⟩=some (.slice Au (kids u).length cu)):=λp w5 h5=>by
    refine(UfP.next HNE.out h5 HNU.2.2.2 hr2 hS7 HNU.2.1).mono ?_;rintro e w6 ⟨q,rfl,h6⟩;have hc6:Chg (λg=>g=mv\/g=mu) W7.drew w6:=by obtain⟨_,_,_,_,_,_,_,_,_,_,_,_,h⟩:=h6;exact h
    have hle6:=hc6.size;have hq6:=hq7.chg hc6 (λh=>by rcases h with h|h;exact hmvr.2.2.2.2.1 h;exact hmvr.2.2.2.2.2.1 h);have hx6:=hbx7.chg hc6 (λh=>by rcases h with h|h;exact hmvr.2.2.1 h;exact hmvr.2.2.2.1 h);have hq6a:=hq6.alloc (.cells #[.pointer (some ⟨p,0,none⟩),.pointer (some ⟨q,0,none⟩),.bool false] 78);have hx6a:=hx6.alloc (.cells #[.pointer (some ⟨p,0,none⟩),.pointer (some ⟨q,0,none⟩),.bool false] 78);have h7s:W7.drew.heap.size=wr.heap.size+1:=hs7;refine⟨q,rfl,by have:=hmvr.2.2.2.2.2.2.1;omega,hidE (zar _ _ _ _ (by simp)),hidE ((zal ho (λk hk=>(hc6.block k (by have h1:=(zab ho k hk).2.1;omega) (λh=>by
     have h1:=hmvr.2.2.2.2.2.2.2 k (zab ho k hk).1;rcases h with h|h
     ·exact h1.1 h
     ·exact h1.2 h)).trans (hb7d.block k (zab ho k hk).2.1))).alloc _),hidE h6,hidE ⟨hx6.cell 0,hq6.cell 0,hq6.cell 1,hq6.cell 2,hq6.cell 3,hq6.cell 4,hq6.cell 5,hq6.cell 6,hq6.cell 7⟩,hidE ⟨hx6a.cell 0,hq6a.cell 0,hq6a.cell 1,hq6a.cell 2,hq6a.cell 3,hq6a.cell 4,hq6a.cell 5,hq6a.cell 6,hq6a.cell 7⟩,hidE λw9 hg9=>?_⟩
    have hq9:=hq6a.grown hg9 (λe=>by have:=(zab ho _ e.symm).2.1;omega);have hx9:=hx6a.grown hg9 (λe=>by have:=(zab ho _ e.symm).1;omega);exact⟨hx9.cell 0,hq9.cell 0,hq9.cell 1,hq9.cell 2,hq9.cell 3,hq9.cell 4,hq9.cell 5,hq9.cell 6,hq9.cell 7⟩
   have hfst:Calls Tryz.prog 33 #[.pointer (some ⟨b,0,none⟩),.agg #[.int .i64 (kd t:Nat),.string (nmB t),.int .i64 (nn t:Nat),.slice At (kids t).length ct]] W7.drew λe w5=>∃p,e=.returned (.pointer (some ⟨p,0,none⟩))/\Hid (w5.cell? ⟨w3.heap.size,0,none⟩=some (.pointer (some ⟨b,0,none⟩))/\w5.cell? ⟨wr.heap.size,0,none⟩=some (.int .i64 (kd t:Nat))/\w5.cell? ⟨wr.heap.size,1,none⟩=some (.string (nmB t))/\w5.cell? ⟨wr.heap.size,2,none⟩=some (.int .i64 (nn t:Nat))/\w5.cell? ⟨wr.heap.size,3,none⟩=some (.slice At (kids t).length ct)/\w5.cell? ⟨wr.heap.size,4,none⟩=some (.int .i64 (kd u:Nat))/\w5.cell? ⟨wr.heap.size,5,none⟩=some (.string (nmB u))/\w5.cell? ⟨wr.heap.size,6,none⟩=some (.int .i64 (nn u:Nat))/\w5.cell? ⟨wr.heap.size,7,none⟩=some (.slice Au (kids u).length cu))/\wr.heap.size<w5.heap.size/\w3.heap.size<w5.heap.size /\
     Hid (Calls Tryz.prog 33 #[.pointer (some ⟨b,0,none⟩),.agg #[.int .i64 (kd u:Nat),.string (nmB u),.int .i64 (nn u:Nat),.slice Au (kids u).length cu]] w5 λe w6=>∃q,e=.returned (.pointer (some ⟨q,0,none⟩))/\w0.heap.size<=w6.heap.size /\
     Hid (∀j v,[Value.pointer (some ⟨p,0,none⟩),.pointer (some ⟨q,0,none⟩),.bool false][j]?=some v->(w6.alloc (.cells #[.pointer (some ⟨p,0,none⟩),.pointer (some ⟨q,0,none⟩),.bool false] 78)).cell? ((⟨w6.heap.size,0,none⟩:Addr).add j)=some v) /\
     Hid ((w6.alloc (.cells #[.pointer (some ⟨p,0,none⟩),.pointer (some ⟨q,0,none⟩),.bool false] 78)).ownsRow w0.heap.size 78 3 (.slice A5 i c5) i (eqCells es))/\Hid (UfT b mv mu mk w0 G D V U W7.drew t u p q w6)/\Hid (w6.cell? ⟨w3.heap.size,0,none⟩=some (.pointer (some ⟨b,0,none⟩))/\w6.cell? ⟨wr.heap.size,0,none⟩=some (.int .i64 (kd t:Nat))/\w6.cell? ⟨wr.heap.size,1,none⟩=some (.string (nmB t))/\w6.cell? ⟨wr.heap.size,2,none⟩=some (.int .i64 (nn t:Nat))/\w6.cell? ⟨wr.heap.size,3,none⟩=some (.slice At (kids t).length ct)/\w6.cell? ⟨wr.heap.size,4,none⟩=some (.int .i64 (kd u:Nat))/\w6.cell? ⟨wr.heap.size,5,none⟩=some (.string (nmB u))/\w6.cell? ⟨wr.heap.size,6,none⟩=some (.int .i64 (nn u:Nat))/\w6.cell? ⟨wr.heap.size,7,none⟩=some (.slice Au (kids u).length cu))/\Hid ((w6.alloc (.cells #[.pointer (some ⟨p,0,none⟩),.pointer (some ⟨q,0,none⟩),.bool false] 78)).cell? ⟨w3.heap.size,0,none⟩=some (.pointer (some ⟨b,0,none⟩))/\(w6.alloc (.cells #[.pointer (some ⟨p,0,none⟩),.pointer (some ⟨q,0,none⟩),.bool false] 78)).cell? ⟨wr.heap.size,0,none⟩=some (.int .i64 (kd t:Nat))/\(w6.alloc (.cells #[.pointer (some ⟨p,0,none⟩),.pointer (some ⟨q,0,none⟩),.bool false] 78)).cell? ⟨wr.heap.size,1,none⟩=some (.string (nmB t))/\(w6.alloc (.cells #[.pointer (some ⟨p,0,none⟩),.pointer (some ⟨q,0,none⟩),.bool false] 78)).cell? ⟨wr.heap.size,2,none⟩=some (.int .i64 (nn t:Nat))/\(w6.alloc (.cells #[.pointer (some ⟨p,0,none⟩),.pointer (some ⟨q,0,none⟩),.bool false] 78)).cell? ⟨wr.heap.size,3,none⟩=some (.slice At (kids t).length ct)/\(w6.alloc (.cells #[.pointer (some ⟨p,0,none⟩),.pointer (some ⟨q,0,none⟩),.bool false] 78)).cell? ⟨wr.heap.size,4,none⟩=some (.int .i64 (kd u:Nat))/\(w6.alloc (.cells #[.pointer (some ⟨p,0,none⟩),.pointer (some ⟨q,0,none⟩),.bool false] 78)).cell? ⟨wr.heap.size,5,none⟩=some (.string (nmB u))/\(w6.alloc (.cells #[.pointer (some ⟨p,0,none⟩),.pointer (some ⟨q,0,none⟩),.bool false] 78)).cell? ⟨wr.heap.size,6,none⟩=some (.int .i64 (nn u:Nat))/\(w6.alloc (.cells #[.pointer (some ⟨p,0,none⟩),.pointer (some ⟨q,0,none⟩),.bool false] 78)).cell? ⟨wr.heap.size,7,none⟩=some (.slice Au (kids u).length cu))/\Hid (∀w9,(w6.alloc (.cells #[.pointer (some ⟨p,0,none⟩),.pointer (some ⟨q,0,none⟩),.bool false] 78)).grownBy w9 (Value.slice A5 i c5).ownBlock->w9.cell? ⟨w3.heap.size,0,none⟩=some (.pointer (some ⟨b,0,none⟩))/\w9.cell? ⟨wr.heap.size,0,none⟩=some (.int .i64 (kd t:Nat))/\w9.cell? ⟨wr.heap.size,1,none⟩=some (.string (nmB t))/\w9.cell? ⟨wr.heap.size,2,none⟩=some (.int .i64 (nn t:Nat))/\w9.cell? ⟨wr.heap.size,3,none⟩=some (.slice At (kids t).length ct)/\w9.cell? ⟨wr.heap.size,4,none⟩=some (.int .i64 (kd u:Nat))/\w9.cell? ⟨wr.heap.size,5,none⟩=some (.string (nmB u))/\w9.cell? ⟨wr.heap.size,6,none⟩=some (.int .i64 (nn u:Nat))/\w9.cell? ⟨wr.heap.size,7,none⟩=some (.slice Au (kids u).length cu))):=by
    refine(ziW hC7 HNE.out HNU.2.2.1 hr1 hS7 HNU.1).mono ?_;rintro e w5 ⟨p,rfl,h5⟩;have hc5:Chg (λg=>g=mv\/g=mu) W7.drew w5:=by obtain⟨_,_,_,_,_,_,_,_,_,_,h⟩:=h5;exact h
    have hq5:=hq7.chg hc5 (λh=>by rcases h with h|h;exact hmvr.2.2.2.2.1 h;exact hmvr.2.2.2.2.2.1 h);have hx5:=hbx7.chg hc5 (λh=>by rcases h with h|h;exact hmvr.2.2.1 h;exact hmvr.2.2.2.1 h);exact⟨p,rfl,hidE ⟨hx5.cell 0,hq5.cell 0,hq5.cell 1,hq5.cell 2,hq5.cell 3,hq5.cell 4,hq5.cell 5,hq5.cell 6,hq5.cell 7⟩,hq5.lt,hx5.lt,hidE (hsnd p w5 h5)⟩
   have S0:Hid (W7.drew.cell? ⟨w3.heap.size,0,none⟩=some (.pointer (some ⟨b,0,none⟩))/\W7.drew.cell? ⟨wr.heap.size,0,none⟩=some (.int .i64 (kd t:Nat))/\W7.drew.cell? ⟨wr.heap.size,1,none⟩=some (.string (nmB t))/\W7.drew.cell? ⟨wr.heap.size,2,none⟩=some (.int .i64 (nn t:Nat))/\W7.drew.cell? ⟨wr.heap.size,3,none⟩=some (.slice At (kids t).length ct)/\W7.drew.cell? ⟨wr.heap.size,4,none⟩=some (.int .i64 (kd u:Nat))/\W7.drew.cell? ⟨wr.heap.size,5,none⟩=some (.string (nmB u))/\W7.drew.cell? ⟨wr.heap.size,6,none⟩=some (.int .i64 (nn u:Nat))/\W7.drew.cell? ⟨wr.heap.size,7,none⟩=some (.slice Au (kids u).length cu)):=hidE ⟨x4,y0,y1,y2,y3,y4,y5,y6,y7⟩;have HCALL:=hidE hfst;have HC:=hidE hC;have HQ:=hidE hq;have HND:=hidE hnd;have HLTN:=hidE hlt;have HO:=hidE ho;have HB7:=hidE hb7d;have HQ7:=hidE hq7;have HBX7:=hidE hbx7;have HCH:=hidE hchr;have HW7:=hidE hW7;have HTU:=hidE htu;have HS7:Hid (W7.drew.heap.size=wr.heap.size+1):=hidE hs7;have HLE:=hidE hle;clear x4 y0 y1 y2 y3 y4 y5 y6 y7 f0 f1 f2 f3 f4 f5 f6 f7;clear hC hq hnd hlt hb7 hb7d hq7 hbx7 hchr hC7 hS7 hr1 hr2 htu hs7 hle hbx hgk hseq hmvr hsnd hfst hc1 hc2 ha1 ha2 e1 e2 ho;rw[HW7.out]
   refine wp_region_noPanic ?_;go_region_held3 (λW:World=>W.cell? ⟨w3.heap.size,0,none⟩=some (.pointer (some ⟨b,0,none⟩))/\W.cell? ⟨wr.heap.size,0,none⟩=some (.int .i64 (kd t:Nat))/\W.cell? ⟨wr.heap.size,1,none⟩=some (.string (nmB t))/\W.cell? ⟨wr.heap.size,2,none⟩=some (.int .i64 (nn t:Nat))/\W.cell? ⟨wr.heap.size,3,none⟩=some (.slice At (kids t).length ct)/\W.cell? ⟨wr.heap.size,4,none⟩=some (.int .i64 (kd u:Nat))/\W.cell? ⟨wr.heap.size,5,none⟩=some (.string (nmB u))/\W.cell? ⟨wr.heap.size,6,none⟩=some (.int .i64 (nn u:Nat))/\W.cell? ⟨wr.heap.size,7,none⟩=some (.slice Au (kids u).length cu)) (first|(with_reducible exact S0.out)|(with_reducible exact S5.out)|(with_reducible exact S6.out)|(with_reducible exact S6a.out)|(with_reducible exact SG6.out _ HG9.out))
    ((first
     |((with_reducible refine HCALL.out.mono ?_);rintro e w5 ⟨p,rfl,S5,zl,zm,HR5⟩)
     |((with_reducible refine HR5.out.mono ?_);rintro e w6 ⟨q,rfl,hle6,HNEW6,HOWN6,H6,S6,S6a,SG6⟩)
     |(refine step_append_lies _ (by rfl) _ _ _ (by rfl) w0.heap.size 78 i0 _ 3 24 Tryz.underlying74 hi0 hz0 hz1 hz2 rfl (by decide) _ i (eqCells es) (by rfl) HOWN6.out ⟨w6.heap.size,0,none⟩ 1 1 [.pointer (some ⟨p,0,none⟩),.pointer (some ⟨q,0,none⟩),.bool false] rfl rfl HNEW6.out (by intro v hv;simp at hv;rcases hv with rfl|rfl|rfl <;> rfl) (by omega) (by unfold maxLen;omega) (by omega) (by first|omega|(simp;done)|(simp;omega)) _ rfl ?_;intro g9 c9 w9 hown9 hgrow hat hlt9;have HO9:=hidE hown9;have HG9:=hidE hgrow;have HA9:=hidE hat;clear hown9 hgrow hat)))
   have HF:Hid (UfH b mv mu mk w0 ts n (n-(i+1)) (.slice (some ⟨g9,0,none⟩) (i+1) c9) (.int .i64 ((i+1:Nat):Nat)) w9):=hidE (by
    refine UfH.next hin HTU.out HLE.out HC.out HQ.out HND.out HLTN.out HB7.out H6.out (λk hk=>?_) HG9.out ?_
    ·obtain⟨h1,h2,_⟩:=zab HO.out k hk
     obtain⟨_,_,cur,hcur⟩:=zab HOWN6.out k hk;have h4:wr.heap.size<=w6.heap.size:=by
      obtain⟨_,_,_,_,_,_,_,_,_,_,_,_,h⟩:=H6.out;have:=h.size;have:=HS7.out;omega
     exact⟨h1,cur,(Below.heap_alloc _ _ _ (by omega)).symm.trans hcur⟩
    ·rw[zbx];exact HO9.out)
   clear S0 S5 S6 S6a SG6 HO9 HG9 HA9 HNEW6 HOWN6 H6 HCALL HR5 zl zm;refine NoPanic.normal ?_;go_wp2_with fail
   go_roundg (n-(i+1))
   case measure=>omega
   case rel=>exact HF.out
  ·have him:i=n:=by omega
   subst him;have htk:ts.take i=ts:=List.take_of_length_le (by rw[HNN.out];exact Nat.le_refl _);rw[htk]at hq
   obtain⟨L,f,o,hwg,hgs,hes,hLn,hocc,hunf,hsim⟩:=hq.sim hC.lays.un hC.vf hnd;have hA:∀(j:Nat) (q:Eqn),es[j]?=some q->∃g,A5=some ⟨g,0,none⟩/\g<wr.heap.size/\g≠b/\(Value.slice none 0 0).ownBlock≠some g/\wr.cell? ⟨g,j*3,none⟩=some (.pointer (some ⟨q.l,0,none⟩))/\wr.cell? ⟨g,j*3+1,none⟩=some (.pointer (some ⟨q.r,0,none⟩))/\wr.cell? ⟨g,j*3+2,none⟩=some (.bool q.d):=λj q hj=>by
    have hj':j<es.length:=(List.getElem?_eq_some_iff.1 hj).1;have ho':=ho;rcases ho.2 with⟨_,h0⟩|⟨g,cap,cur,hv,h1,h2,_⟩
    ·omega
    ·injection hv with e1 _ _
     subst e1;obtain⟨g1,g2,g3⟩:=zfL ho';exact⟨g,rfl,g2,Blk.ne_ (show Blk wr g _ cur from h2) hC.sb (by decide),by simp[Value.ownBlock],g3 j q hj⟩
   have hlay:=zga b w0.heap.size 85 #[.slice none 0 0,.map (some mv),.map (some mu),.map (some mk),.int .i64 0] (by simp) [] es (.slice none 0 0) A5 c5 wr hC.sb (World.ownsRow_nil _ _ _ _) hchr.size (by simp[Value.ownBlock]) (by simp;omega) hA;rw[hle]at hlay
   have hbx:Blk wr w3.heap.size 72 #[.pointer (some ⟨b,0,none⟩)]:=HBOX.out.chg hchr (λe=>by have:=HLT.out;omega);have b4:wr.cell? ⟨w3.heap.size,0,none⟩=some (.pointer (some ⟨b,0,none⟩)):=hbx.cell 0;have l4:=hbx.lt;have HLAY:=hidE hlay;have HC:=hidE hC;have HBX:=hidE hbx;clear hlay hA hC hbx;have lb:b<wr.heap.size:=HC.out.sb.lt;go_wp2_with fail
   refine HLAY.out.mono ?_;rintro e w6 ⟨⟨ve,rfl⟩,v6,a1,a2,-,-,-,a6⟩;have x4:w6.cell? ⟨w3.heap.size,0,none⟩=some (.pointer (some ⟨b,0,none⟩)):=(HBX.out.chg a6 (λh=>by rcases h with h|h;have:=HLT.out;omega;cases h)).cell 0;have xl:=(HBX.out.chg a6 (λh=>by rcases h with h|h;have:=HLT.out;omega;cases h)).lt;have xb:b<w6.heap.size:=Nat.lt_of_lt_of_le lb a6.size;go_wp2_with fail
   refine(wpIn_wide (n:=10)).1 ?_;have hle0:=hchr.size;have hsz0:w.heap.size<=w0.heap.size:=by have:=HB2.out.size;omega
   have hbw6:Below w.heap.size w w6:=by
    refine(HB2.out.trans (HN8.out.mono (by omega))).trans ((HB0.out.mono (by omega)).trans ((hchr.toBelow hsz0 (λk hk h=>?_)).trans (a6.toBelow (by omega) (λk hk h=>?_))))
    ·have:=HLT.out;rcases h with h|h <;> omega
    ·have:=HLT.out
     rcases h with h|h
     ·omega
     ·cases h
   have hbx:∀(g:Nat) (cs:Array Value) (t:TypeId),Blk w2 g t cs->Blk w6 g t cs:=λg cs t hg=>by
    have hl:=hg.lt;have h0:Blk w0 g t cs:=(hg.below HN8.out hl).below HB0.out (by omega);refine(h0.chg hchr (λh=>?_)).chg a6 (λh=>?_)
    ·have:=HLT.out;rcases h with h|h <;> omega
    ·have:=HLT.out
     rcases h with h|h
     ·omega
     ·cases h
   have hub:UrB w.heap.size (w.heap.size+1) w3.heap.size b w6:=⟨hbx _ _ _ HL0.out,hbx _ _ _ HL1.out,HBX.out.chg a6 (λh=>by rcases h with h|h;have:=HLT.out;omega;cases h)⟩;have hlen:=zll (G:=rst G L) L (λq hq=>by obtain⟨x,hx⟩:=hLn q hq;exact⟨x,by rw[zh9 hq];exact hx⟩);have hJ0:=UrJ.start (w:=w) HC.out hsim (λq hq=>(hes q hq).1) hle (Ne.symm HNE.out.2.2) a1 (by simpa using a2) (a6.mono (λk _ h=>by rcases h with h|h;exact h;cases h)) hub hbw6;have hwt:1+i+wg (rst G L) [] L<=1000000:=by have:=HZ.out;have:=HNN.out;omega
   have hN0:L.length<=1000000:=by omega
   have hfin:∀n p,U n=some p->rst G L p=some ⟨2,⟨#[]⟩,n,[],none,false⟩\/p∉L:=λn p hnp=>by
    by_cases hp:p∈L
    ·exact .inl (by rw[zh9 hp];exact HC.out.lays.un n p hnp)
    ·exact .inr hp
   have hlo:∀q x,rst G L q=some x->w.heap.size<=q:=λq x hx=>by have:=HC.out.lo q x (zbu hx).2;omega
   obtain⟨G1,hG1⟩:∃X,rst G L=X:=⟨_,rfl⟩;have hnot:∀p,p∉L->G1 p=none:=λp hp=>by rw[<-hG1];unfold rst;rw[if_neg hp]
   rw[hG1]at hgs hJ0 hwt hfin hlo
   have hbwb:w.heap.size<=b:=by have:=HLT.out;omega
   have hmkw:w.heap.size<=mk:=by have:=HLT.out;omega
   have H0:=hidE hJ0;have HGS:=hidE hgs;have HWT:=hidE hwt;have HN0:=hidE hN0;have HFIN:=hidE hfin;have HLO:=hidE hlo;have HNOT:=hidE hnot;have HOCC:=hidE hocc;have HUNF:=hidE hunf;have HSZ6:Hid (w.heap.size<=w6.heap.size):=hidE hbw6.size;have HSZ62:Hid (w.heap.size+2<=w6.heap.size):=hidE (by have h1:=a6.size;have h2:=hchr.size;omega);have HLL:Hid (b<w6.heap.size/\mk<w6.heap.size):=hidE ⟨xb,by have:=HLT.out;have:=a6.size;omega⟩;obtain⟨E4,hE4⟩:∃n,w3.heap.size=n:=⟨_,rfl⟩;obtain⟨B0,hB0⟩:∃n,w0.heap.size=n:=⟨_,rfl⟩;rw[hE4]at H0 ⊢
   rw[hB0]at H0
   have HB0:Hid (w.heap.size<=B0):=hidE (by omega);clear hq hnd hlt ho hchr hsim hes hLn hocc hunf hgs hwt hN0 hfin hlo hnot hJ0 hub hbx hbw6 hlen hwg a1 a2 a6 hle0 hsz0 x4 xl xb l4 b4 lb hs0 hs3 HLAY HC HBX hE4 hB0;refine zb7 (σ:=Nat × Eqn × List Eqn) rfl (by omega) (gf:=35) (fb:=#[.pointer (some ⟨b,0,none⟩)]) (lb:=#[]) rfl trivial (enters_of Tryz.func35 (by kernel_rfl) rfl)
    (λx=>#[.agg #[.pointer (some ⟨x.2.1.l,0,none⟩),.pointer (some ⟨x.2.1.r,0,none⟩),.bool x.2.1.d]]) (λ_=>rfl)
    (λx W=>UrJ b mu mk B0 G1 L U (.map (some mv)) i L.length o w.heap.size (w.heap.size+1) E4 w x.1 [x.2.1] x.2.2 W)
    (λx W=>∃N' l',N'<x.1/\UrJ b mu mk B0 G1 L U (.map (some mv)) i L.length o w.heap.size (w.heap.size+1) E4 w N' [] l' W)
    (λx a₁ W=>∃x8,Blk W x8 78 #[.pointer (some ⟨x.2.1.l,0,none⟩),.pointer (some ⟨x.2.1.r,0,none⟩),.bool x.2.1.d]/\UrJ b mu mk B0 G1 L U (.map (some mv)) i L.length o w.heap.size (w.heap.size+1) E4 w x.1 [x.2.1] x.2.2 W/\a₁ = { tmps:=#[Value.slice A i c,undef,Value.pointer (some ⟨w.heap.size,0,none⟩),
     Value.pointer (some ⟨w.heap.size+1,0,none⟩),Value.pointer (some ⟨E4,0,none⟩),Value.slice A5 i c5,undef,u7,Value.pointer (some ⟨x8,0,none⟩),undef,
     Value.pointer (some ⟨b,0,none⟩),Value.slice A i c,Value.int IntKind.i64 (i:Nat),Value.int IntKind.i64 (i:Nat),Value.bool false,u15,u16,u17,u18,u19,u20,u21,u22,u23,u24,u25,u26,u27,
     u28,u29,Value.pointer (some ⟨b,0,none⟩),Value.pointer (some ⟨b,0,none⟩),Value.pointer (some ⟨b,0,none⟩),Value.slice A5 i c5,ve,Value.pointer (some ⟨b,0,none⟩),Value.pointer (some ⟨b,0,none⟩),
     Value.pointer (some ⟨b,0,none⟩),Value.func (Fn.func 35) #[Value.pointer (some ⟨b,0,none⟩)] #[],Value.agg #[.pointer (some ⟨x.2.1.l,0,none⟩),.pointer (some ⟨x.2.1.r,0,none⟩),.bool x.2.1.d],undef,undef,undef,undef,undef,undef,undef,undef],defers:=[] })
    (λW=>∃N,UrJ b mu mk B0 G1 L U (.map (some mv)) i L.length o w.heap.size (w.heap.size+1) E4 w N [] [] W)
    (λcd W=>cd=.ret/\∃m:Nat,o=.inl m/\m≠0/\Blk W w.heap.size 28 #[.slice none 0 0]/\Blk W (w.heap.size+1) 29 #[.int .i64 (m:Nat)]/\Below w.heap.size w W)
    ?ax ?jn ?jd ?js ?assign ?body ?iter ?done ?stop
   case ax =>
    rintro x a₁ W r r' ⟨x8,hb8,hu,ha⟩ hl;exact⟨x8,hb8.same (zaG hl x8 ⟨_,_,hb8⟩),hu.rec_ (by have:=HSZ6.out;omega) hl (.inl ⟨_,rfl⟩),ha⟩
   case jn =>
    rintro x W r r' ⟨N',l',hlt,hu⟩ hl;exact⟨N',l',hlt,hu.rec_ (by have:=HSZ6.out;omega) hl (.inl ⟨_,rfl⟩)⟩
   case jd =>
    rintro W r r' ⟨N,hu⟩ hl;exact⟨N,hu.rec_ (by have:=HSZ6.out;omega) hl (.inl ⟨_,rfl⟩)⟩
   case js =>
    rintro cd W r r' ⟨hcd,m,h1,h2,h3,h4,h5⟩ hl;exact⟨hcd,m,h1,h2,h3.same (zaG hl _ ⟨_,_,h3⟩),h4.same (zaG hl _ ⟨_,_,h4⟩),h5.os,h5.tape,h5.output,by rw[World.putObj_size];exact h5.size,λg hg=>(World.putObj_heap_other (by have:=HSZ6.out;omega)).trans (h5.block g hg)⟩
   case assign =>
    intro r x W hj hl;have HJ:=hidE hj;have HLP:=hidE hl;clear hj hl;gi_wp2
    have hb:∀o,Below W.heap.size W (W.alloc o):=λo=>(Below.refl _ W).alloc (Nat.le_refl _) _;exact⟨HLP.out.below (hb _),W.heap.size,heap_alloc_new _ _,HJ.out.keep (hb _),rfl⟩
   case iter =>
    intro rec W1 hb1 hs1 hl1 hY;have hlb:=HLL.out.1;refine(zli Fence.wide (10-1) trivial rfl (by omega) (w6.heap.size+1) b (λN l W=>UrJ b mu mk B0 G1 L U (.map (some mv)) i L.length o w.heap.size (w.heap.size+1) E4 w N [] l W/\LoopAt (rec .ready none) (w6.heap.size+1) w6.heap.size W)
     (λN x l W=>UrJ b mu mk B0 G1 L U (.map (some mv)) i L.length o w.heap.size (w.heap.size+1) E4 w N [x] l W/\LoopAt (rec .ready none) (w6.heap.size+1) w6.heap.size W)
     (λW=>∃cd,(cd=.ret/\∃m:Nat,o=.inl m/\m≠0/\Blk W w.heap.size 28 #[.slice none 0 0]/\Blk W (w.heap.size+1) 29 #[.int .i64 (m:Nat)]/\Below w.heap.size w W)/\LoopAt (rec .done (some cd)) (w6.heap.size+1) w6.heap.size W) (λN l W h=>?_) (λN x l W h=>?_) W1 _ _ ⟨H0.out.keep hb1,hl1⟩).mono ?_
    ·obtain⟨A',c',h1,h2⟩:=h.1.stk HWT.out hbwb
     refine⟨A',c',h1,λx l' e=>⟨h2 x l' e,?_⟩⟩;exact(h.2.setCell ⟨b,0,none⟩ _ (by show b≠_;omega) (by show b≠_;omega)).below ((Below.refl _ _).alloc (Nat.le_refl _) _)
    ·refine(hY (N,x,l) W h.1 h.2).mono ?_
     intro e W' hs;rcases hs with⟨h1,⟨N',l',hlt,h2⟩,h3⟩|⟨h1,cd,h2,h3⟩
     ·exact .inl ⟨h1,N',l',hlt,h2,h3⟩
     ·exact .inr ⟨h1,cd,h2,h3⟩
    ·rintro e W' ⟨hv,⟨N,hj,hl⟩|⟨cd,hj,hl⟩⟩
     ·exact⟨hv,.inl ⟨⟨N,hj⟩,hl⟩⟩
     ·exact⟨hv,.inr ⟨cd,hj,hl⟩⟩
   case stop =>
    rintro cd W ⟨rfl,m,h1,h2,h3,h4,h5⟩ hD;have H1:=hidE h1;have H3:=hidE h3;have H4:=hidE h4;have H5:=hidE h5;have HD:=hidE hD;clear h1 h3 h4 h5 hD;gi_wp2
    refine⟨by simp,.inl ⟨_,_,rfl,run_takeDeferred HD.out,?_⟩⟩;have hle:=HSZ6.out;have k3:=H3.out.same (w':=W.putObj w6.heap.size (.deferred none)) (zaQ HD.out H3.out (by simp));have k4:=H4.out.same (w':=W.putObj w6.heap.size (.deferred none)) (zaQ HD.out H4.out (by simp));refine⟨_,zfz rfl _ _ w.heap.size (w.heap.size+1) _ _ _ _ _ _ rfl rfl k3 k4 Tryz.underlying28 rfl Tryz.underlying29 rfl,f,o,HUNF.out,?_,.inl ⟨m,H1.out,h2,rfl⟩⟩;exact⟨H5.out.os,H5.out.tape,H5.out.output,by rw[World.putObj_size];exact H5.out.size,λg hg=>(World.putObj_heap_other (by omega)).trans (H5.out.block g hg)⟩
   case body =>
    rintro r ⟨N,x,l⟩ a₁ W ⟨x8,hb8,⟨hd,k,f',s,D,v,c1,c2,c3,c4,c5,c6,c7,c7',c8,c9⟩,rfl⟩ hl;have hround:=zna b mu mk B0 G1 L U hd k s D _ v l x f' i L.length o W HGS.out c2 c3 c4 c5 c6 c7 HN0.out HWT.out c7';have z4:W.cell? ⟨E4,0,none⟩=some (.pointer (some ⟨b,0,none⟩)):=c8.b4.cell 0;have l4:=c8.b4.lt;have y0:W.cell? ⟨x8,0,none⟩=some (.pointer (some ⟨x.l,0,none⟩)):=hb8.cell 0;have y1:W.cell? ⟨x8,1,none⟩=some (.pointer (some ⟨x.r,0,none⟩)):=hb8.cell 1;have y2:W.cell? ⟨x8,2,none⟩=some (.bool x.d):=hb8.cell 2;have l8:=hb8.lt;have HROUND:=hidE hround;have C1:=hidE c1;have C5:=hidE c5;have C8:=hidE c8;have C9:=hidE c9;have HLP:=hidE hl;clear hround c1 c2 c3 c4 c5 c6 c7 c7' c8 c9 hl hb8;gi_wp2
    refine⟨trivial,?_⟩;refine(CallsIn.inRound _ ((callsIn_wide (n:=_)).2 HROUND.out)).mono ?_;rintro e W1 ⟨r1,rfl,hq,hc⟩;have hne:∀(g:Nat) (z:Obj),W.heap[g]?=some z->(∀cs t,z=.cells cs t (0,0)->t≠85/\t≠132/\t≠78)->g≠mk->W1.heap[g]?=W.heap[g]?:=λg z hg ht hm=>hc.block g (Array.getElem?_eq_some_iff.1 hg).1 (by
     rintro(e|e|⟨y,e⟩|e)
     ·exact hm e
     ·have hs:W.heap[b]?=_:=C5.out.sb
      rw[e,hs]at hg
      injection hg with hg;exact(ht _ _ hg.symm).1 rfl
     ·obtain⟨A9,c9,hb9,_⟩:=C5.out.pd g y e
      have hs:W.heap[g]?=_:=hb9;rw[hs]at hg
      injection hg with hg;exact(ht _ _ hg.symm).2.1 rfl
     ·obtain⟨_,_,cur,hcur⟩:=zab C5.out.own g e
      rw[hcur]at hg
      injection hg with hg;exact(ht _ _ hg.symm).2.2 rfl)
    have hmkl:=HLL.out.2;have hlp1:LoopAt r (w6.heap.size+1) w6.heap.size W1:=HLP.out.keep (hne _ _ HLP.out.1 (λ_ _ e=>by cases e) (by omega)) (hne _ _ HLP.out.2 (λ_ _ e=>by cases e) (by omega));have hub1:UrB w.heap.size (w.heap.size+1) E4 b W1:=C8.out.keep (λg cs t hg t1 t2 t3=>hne g _ hg (λcs' t' e=>by injection e with _ e;subst e;exact⟨t1,t2,t3⟩) (C5.out.no hg));have hbw1:Below w.heap.size w W1:=C9.out.trans (hc.toBelow C9.out.size (λg hg=>by
     rintro(e|e|⟨y,e⟩|e)
     ·omega
     ·omega
     ·have:=HLO.out g y e;omega
     ·have:=(zab C5.out.own g e).1;have:=HB0.out;omega))
    clear hne;rcases hq with⟨rfl,hd1,k1,f1,stk1,s1,D1,v1,d1,d2,d3,d4,d5,d6,d7,d8⟩|⟨hpos,ho⟩
    ·have HF:Hid (∃N' l',N'<N/\UrJ b mu mk B0 G1 L U (.map (some mv)) i L.length o w.heap.size (w.heap.size+1) E4 w N' [] l' W1):=hidE ⟨_,stk1,(by have h:=C1.out;simp only[List.singleton_append]at h;rw[h];exact d1),hd1,k1,f1,s1,D1,v1,rfl,d2,d3,d4,d5,d6,d7,d8,hub1,hbw1⟩
     have HL1:=hidE hlp1;clear d1 d2 d3 d4 d5 d6 d7 d8 hub1 hbw1 hlp1 hc hmkl;gi_wp2
     exact⟨HF.out,HL1.out⟩
    ·obtain⟨m,rfl⟩:∃m:Nat,r1=(m:Int):=⟨r1.toNat,by omega⟩
     have e1:((m:Int) != 0)=true:=by rw[bne_iff_ne];omega
     have g2:W1.cell? ⟨w.heap.size,0,none⟩=some (.slice none 0 0):=hub1.b2.cell 0;have g3:W1.cell? ⟨w.heap.size+1,0,none⟩=some (.int .i64 0):=hub1.b3.cell 0;have q2:=hub1.b2.frozen 0;have q3:=hub1.b3.frozen 0;have m2:=hub1.b2.lt;have m3:=hub1.b3.lt;have HU1:=hidE hub1;have HW1:=hidE hbw1;have HL1:=hidE hlp1;have HO:Hid (o=.inl m):=hidE (by rw[ho];rfl);clear hub1 hbw1 hlp1 hc hmkl ho;gi_wp2
     refine⟨⟨rfl,m,HO.out,by omega,?_,?_,?_⟩,?_⟩
     ·have kk:Blk (W1.setCell ⟨w.heap.size,0,none⟩ (.slice none 0 0)) w.heap.size 28 #[.slice none 0 0]:=heap_setCell_same W1 w.heap.size 0 _ _ _ HU1.out.b2
      exact kk.same (Below.heap_setCell _ _ _ _ (by simp))
     ·exact heap_setCell_same _ (w.heap.size+1) 0 _ _ _ (HU1.out.b3.same (Below.heap_setCell _ _ _ _ (by simp)))
     ·exact(HW1.out.setCell (p:=⟨w.heap.size,0,none⟩) (Nat.le_refl _) _).setCell (p:=⟨w.heap.size+1,0,none⟩) (by simp) _
     ·have h6:=HSZ6.out
      have h7:=HSZ62.out;exact(HL1.out.setCell ⟨w.heap.size,0,none⟩ _ (by show w.heap.size≠_;omega) (by show w.heap.size≠_;omega)).setCell ⟨w.heap.size+1,0,none⟩ _ (by show w.heap.size+1≠_;omega) (by show w.heap.size+1≠_;omega)
   case done =>
    rintro W ⟨N,hd,k,f',s,D,v,c1,c2,c3,c4,c5,c6,c7,c7',c8,c9⟩ hD;obtain⟨rfl,O,hS⟩:=Sim.nil (by simpa using c2);have hfree:∀n,(¬ ∃z∈L,U n=some z)->k n=.mt n:=λn hn=>zff (λn=>∃z∈L,U n=some z) f (dbQ ts) .mt k HUNF.out zb1 (λp hp m hm=>HOCC.out m ⟨p,hp,by rw[zby,zby]at hm;exact hm⟩) n hn rfl;have hA:=HANS.out b mu mk B0 G1 L U hd s D _ v k O W c5 hS HGS.out (λn p hnp=>by
     rcases HFIN.out n p hnp with h|h
     ·exact .inl h
     ·refine .inr ⟨Decidable.byContradiction λe=>?_,hfree n ?_⟩
      ·obtain⟨x,hx⟩:=c7' p e
       rw[HNOT.out p h]at hx
       cases hx
      ·rintro⟨z,hz,hu⟩
       rw[hnp]at hu
       injection hu with hu;exact h (hu▸hz)) (λn hkn=>by
     apply Classical.byContradiction
     intro hno;exact hkn (hfree n λ⟨z,_,hz⟩=>hno ⟨z,hz⟩)) (by have:=HWT.out;omega)
    have z4:W.cell? ⟨E4,0,none⟩=some (.pointer (some ⟨b,0,none⟩)):=c8.b4.cell 0;have l4:=c8.b4.lt;have HA:=hidE hA;have C5:=hidE c5;have C8:=hidE c8;have C9:=hidE c9;have HD:=hidE hD;clear hA c1 c2 c3 c4 c5 c6 c7 c7' c8 c9 hS hD hfree;go_wp2_with fail
    refine HA.out.mono ?_;rintro e W1 ⟨va,l,T,rfl,⟨vs,q1,q1r⟩,q2,q3,q4⟩;obtain⟨Av,cv,rfl⟩:=zao q1;have hne:∀(g:Nat) (z:Obj),W.heap[g]?=some z->(∀cs t,z=.cells cs t (0,0)->t≠132)->g≠mk->W1.heap[g]?=W.heap[g]?:=λg z hg ht hm=>q4.block g (Array.getElem?_eq_some_iff.1 hg).1 (by
     rintro(e|⟨y,e⟩)
     ·exact hm e
     ·obtain⟨A9,c9,hb9,_⟩:=C5.out.pd g y e
      have hs:W.heap[g]?=_:=hb9;rw[hs]at hg
      injection hg with hg;exact(ht _ _ hg.symm) rfl)
    have hmkl:=HLL.out.2;have hub1:UrB w.heap.size (w.heap.size+1) E4 b W1:=C8.out.keep (λg cs t hg t1 t2 t3=>hne g _ hg (λcs' t' e=>by injection e with _ e;subst e;exact t2) (C5.out.no hg));have hbw1:Below w.heap.size w W1:=C9.out.trans (q4.toBelow C9.out.size (λg hg=>by
     rintro(e|⟨y,e⟩)
     ·omega
     ·have:=HLO.out g y e;omega))
    have hD1:W1.heap[w6.heap.size]?=some (.deferred (some [])):=(hne _ _ HD.out (λ_ _ e=>by cases e) (by omega)).trans HD.out;have g2:W1.cell? ⟨w.heap.size,0,none⟩=some (.slice none 0 0):=hub1.b2.cell 0;have g3:W1.cell? ⟨w.heap.size+1,0,none⟩=some (.int .i64 0):=hub1.b3.cell 0;have p2:=hub1.b2.frozen 0;have p3:=hub1.b3.frozen 0;have m2:=hub1.b2.lt;have m3:=hub1.b3.lt;have HU1:=hidE hub1;have HW1:=hidE hbw1;have HD1:=hidE hD1;have Q1:=hidE q1;have Q1R:=hidE q1r;have Q2:=hidE q2;have Q3:=hidE q3;have C9S:Hid (w.heap.size<=W.heap.size):=hidE C9.out.size;have CW6:Hid (w6.heap.size<W.heap.size):=hidE (Array.getElem?_eq_some_iff.1 HD.out).1;clear hub1 hbw1 hD1 q1 q1r q2 q3 q4 hne hmkl HA C5 C8 C9 HD;go_wp2_with fail
    have h6:=HSZ6.out;have h7:=HSZ62.out;have kD:((W1.setCell ⟨w.heap.size,0,none⟩ (.slice Av l.length cv)).setCell ⟨w.heap.size+1,0,none⟩ (.int .i64 0)).heap[w6.heap.size]?=some (.deferred (some [])):=(Below.heap_setCell _ _ _ _ (by show _≠w.heap.size+1;omega)).trans ((Below.heap_setCell _ _ _ _ (by show _≠w.heap.size;omega)).trans HD1.out);refine⟨by simp,.inl ⟨_,_,rfl,run_takeDeferred kD,?_⟩⟩;have k2:Blk (W1.setCell ⟨w.heap.size,0,none⟩ (.slice Av l.length cv)) w.heap.size 28 #[.slice Av l.length cv]:=heap_setCell_same W1 w.heap.size 0 _ _ _ HU1.out.b2;have k3:Blk ((W1.setCell ⟨w.heap.size,0,none⟩ (.slice Av l.length cv)).setCell ⟨w.heap.size+1,0,none⟩ (.int .i64 0)) (w.heap.size+1) 29 #[.int .i64 0]:=heap_setCell_same _ (w.heap.size+1) 0 _ _ _ (HU1.out.b3.same (Below.heap_setCell _ _ _ _ (by simp)));have k2':=k2.same (w':=(W1.setCell ⟨w.heap.size,0,none⟩ (.slice Av l.length cv)).setCell ⟨w.heap.size+1,0,none⟩ (.int .i64 0)) (Below.heap_setCell _ _ _ _ (by simp));have r2:=k2'.same (w':=World.putObj _ w6.heap.size (.deferred none)) (zaQ kD k2' (by simp));have r3:=k3.same (w':=World.putObj _ w6.heap.size (.deferred none)) (zaQ kD k3 (by simp));have hkeep:∀(g:Nat) (x:Obj),W1.heap[g]?=some x->g≠w.heap.size->g≠w.heap.size+1->(∀d,x≠.deferred d)->(((W1.setCell ⟨w.heap.size,0,none⟩ (.slice Av l.length cv)).setCell ⟨w.heap.size+1,0,none⟩ (.int .i64 0)).putObj w6.heap.size (.deferred none)).heap[g]?=W1.heap[g]?:=λg x hg n1 n2 hx=>by
     have h1:=(Below.heap_setCell (W1.setCell ⟨w.heap.size,0,none⟩ (.slice Av l.length cv)) ⟨w.heap.size+1,0,none⟩ (.int .i64 0) g n2).trans (Below.heap_setCell W1 ⟨w.heap.size,0,none⟩ (.slice Av l.length cv) g n1);exact(zaQ kD (h1.trans hg) (hx _)).trans h1
    have hown:∀g,(Value.slice Av l.length cv).ownBlock=some g->w6.heap.size<=g:=λg hg=>by
     have:=(zab Q1.out g hg).1;have:=CW6.out;omega
    refine⟨_,zfz rfl _ _ w.heap.size (w.heap.size+1) _ _ _ _ _ _ rfl rfl r2 r3 Tryz.underlying28 rfl Tryz.underlying29 rfl,f,_,HUNF.out,?_,.inr ⟨k,_,l,T,rfl,rfl,⟨vs,?_,?_⟩,Q2.out,λg hg=>?_⟩⟩
    ·have hb:=(HW1.out.setCell (p:=⟨w.heap.size,0,none⟩) (Nat.le_refl _) (.slice Av l.length cv)).setCell (p:=⟨w.heap.size+1,0,none⟩) (by simp) (.int .i64 0)
     exact⟨hb.os,hb.tape,hb.output,by rw[World.putObj_size];exact hb.size,λg hg=>(World.putObj_heap_other (by omega)).trans (hb.block g hg)⟩
    ·have h1:=zal Q1.out (w':=((W1.setCell ⟨w.heap.size,0,none⟩ (.slice Av l.length cv)).setCell ⟨w.heap.size+1,0,none⟩ (.int .i64 0)).putObj w6.heap.size (.deferred none)) (λg hg=>by
      obtain⟨_,_,cur,hcur⟩:=zab Q1.out g hg;exact hkeep g _ hcur (by have:=hown g hg;omega) (by have:=hown g hg;omega) (λd e=>by cases e))
     exact zdQ h1 C9S.out
    ·refine KnRow.keep (λ_ h=>h) (λg hg=>?_) _ _ Q1R.out
     have h1:=Q3.out g hg;have h2:=CW6.out;exact(World.putObj_heap_other (by omega)).trans ((Below.heap_setCell _ _ _ _ (by show g≠w.heap.size+1;omega)).trans (Below.heap_setCell _ _ _ _ (by show g≠w.heap.size;omega)))
    ·have:=Q3.out g hg
     have:=C9S.out;rw[World.putObj_size,World.size_setCell,World.size_setCell]
     omega
attribute [local go_sem] Oper.semAt_some
def FilJ(b mk lo p e2 e4 st:Nat)(c0 c1 c2 c4:Value)(G:Nat->Option Nd)(k:Sb)(hd:Nat->Nat)(T0:Nat->Prop)(w:World)(N:Nat)(top stk:List Nat)(W:World):Prop :=
 ∃F D T v,F.map (·.1)=top++stk.reverse/\FilOK G hd k (λq=>(D q).fl) [] F/\FilN G 0 F/\N=filW G k F/\FilM b mk lo c0 c1 c2 c4 G k hd T D W/\(∀g,T0 g->T g)/\((D p).fl=true\/p∈top++stk.reverse) /\
  Blk W e2 72 #[.pointer (some ⟨b,0,none⟩)]/\Blk W e4 37 #[.int .i64 0,.string ⟨#[]⟩,.int .i64 0,.slice none 0 0]/\¬T e4/\Blk W st 195 #[v]/\W.ownsRow (st+1) 75 1 v stk.length (stk.map PK)/\Chg (λg=>g=mk\/∃x,G g=some x) w W/\lo<=e4/\lo<=e2/\lo<=st/\e4<st/\e2<st
section
variable {b mk lo p e2 e4 st:Nat} {c0 c1 c2 c4:Value} {G:Nat->Option Nd} {L:List Nat} {k:Sb} {hd:Nat->Nat} {T0:Nat->Prop} {w W W':World} {N:Nat} {top stk:List Nat}
theorem FilJ.keepB(h:FilJ b mk lo p e2 e4 st c0 c1 c2 c4 G k hd T0 w N top stk W)(hk:∀(g:Nat)(x:Obj),W.heap[g]?=some x->(∀r,x≠.loop r)->(∀r,x≠.deferred r)->W'.heap[g]?=W.heap[g]?)(hs:W.heap.size<=W'.heap.size)(hC:Chg (λg=>g=mk\/∃x,G g=some x) w W'):FilJ b mk lo p e2 e4 st c0 c1 c2 c4 G k hd T0 w N top stk W':=by
 obtain⟨F,D,T,v,h1,h2,h3,h4,h5,h6,h7,h8,h9,h10,h11,h12,h13,h14⟩:=h;have hc:∀(g:Nat) (cs:Array Value) (t:TypeId),W.heap[g]?=some (.cells cs t (0,0))->W'.heap[g]?=W.heap[g]?:=λg cs t hg=>hk g _ hg (λ_ e=>by cases e) (λ_ e=>by cases e);obtain⟨K,hK⟩:=h5.kn;have hm:W'.heap[mk]?=W.heap[mk]?:=by
  obtain⟨es,n,l,g1,_⟩:=hK.mp;exact hk mk _ g1 (λ_ e=>by cases e) (λ_ e=>by cases e)
 have hT:∀g,T g->W'.heap[g]?=W.heap[g]?:=λg hg=>by obtain⟨_,cur,hcur⟩:=h5.tt g hg;exact hc g cur _ hcur
 refine⟨F,D,T,v,h1,h2,h3,h4,⟨h5.sb.same (hc _ _ _ h5.sb),⟨K,hK.keep hm (λx ⟨cs,hx⟩=>⟨cs,(hc x cs _ hx).trans hx⟩)⟩,h5.pd.same (λg _ ⟨cs,t,hg⟩=>hc g cs t hg),λq x hx hf=>?_,h5.da,λg hg=>?_,h5.lb,Nat.le_trans h5.ls hs⟩,h6,h7,h8.same (hc _ _ _ h8),h9.same (hc _ _ _ h9),h10,h11.same (hc _ _ _ h11),zal h12 (λg hg=>by obtain⟨_,_,cur,hcur⟩:=zab h12 g hg;exact hc g cur _ hcur),hC,h14⟩
 ·obtain⟨a1,a2,A,c,a3,a4⟩:=h5.fd q x hx hf
  exact⟨a1,a2,A,c,a3,a4.keep (λ_ h=>h) hT⟩
 ·obtain⟨a1,cur,a2⟩:=h5.tt g hg
  exact⟨a1,cur,(hT g hg).trans a2⟩
theorem FilJ.below(h:FilJ b mk lo p e2 e4 st c0 c1 c2 c4 G k hd T0 w N top stk W)(hb:Below W.heap.size W W'):FilJ b mk lo p e2 e4 st c0 c1 c2 c4 G k hd T0 w N top stk W':=by
 have hC:Chg (λg=>g=mk\/∃x,G g=some x) w W':=by obtain⟨_,_,_,_,_,_,_,_,_,_,_,_,_,_,_,_,h,_⟩:=h;exact h.below hb
 exact h.keepB (λg _ hg _ _=>hb.block g (Array.getElem?_eq_some_iff.1 hg).1) hb.size hC
theorem FilJ.rec_ {lp:Nat} {x y:Obj}(h:FilJ b mk lo p e2 e4 st c0 c1 c2 c4 G k hd T0 w N top stk W)(hlp:w.heap.size<=lp)(hl:W.heap[lp]?=some x)(hx:(∃r,x=.loop r)\/∃r,x=.deferred r):FilJ b mk lo p e2 e4 st c0 c1 c2 c4 G k hd T0 w N top stk (W.putObj lp y):=by
 have hC:Chg (λg=>g=mk\/∃x,G g=some x) w (W.putObj lp y):=by obtain⟨_,_,_,_,_,_,_,_,_,_,_,_,_,_,_,_,h,_⟩:=h;exact h.putObj _ _ hlp
 exact h.keepB (λg z hg a b=>zaQ hl hg (by rcases hx with⟨r,rfl⟩|⟨r,rfl⟩;exact a r;exact b r)) (by rw[World.putObj_size];exact Nat.le_refl _) hC
theorem FilJ.stack {l O:List Nat}(h:FilJ b mk lo p e2 e4 st c0 c1 c2 c4 G k hd T0 w N [] l W)(S:HdS G L hd k [] O)(hwt:1+wg G [] L<=1000000)(hw:w.heap.size<=st):∃A c,StkP W st l A c/\∀x l',l=l'++[x]->FilJ b mk lo p e2 e4 st c0 c1 c2 c4 G k hd T0 w N [x] l' (W.setCell ⟨st,0,none⟩ (.slice A l'.length c)):=by
 obtain⟨F,D,T,v,h1,h2,h3,h4,h5,h6,h7,h8,h9,h10,h11,h12,h13,h14⟩:=h;rw[List.nil_append]at h1 h7
 have hlen:l.length<=1000000000:=by
  have:=h2.len h3 S.gr.all;have hl:=congrArg List.length h1;rw[List.length_map,List.length_reverse]at hl
  omega
 obtain⟨A,c,rfl,hst⟩:=zlj h11 h12 hlen;refine⟨A,c,hst,λx l' e=>?_⟩;subst e;obtain⟨g,cap,hgc,ho⟩:=ziV h12;injection hgc with e1 _ e2';subst e1 e2';rw[List.reverse_append]at h1 h7
 have hg:=(zab ho g rfl).1;have hne:∀z,z≠st->(W.setCell ⟨st,0,none⟩ (.slice (some ⟨g,0,none⟩) l'.length c)).heap[z]?=W.heap[z]?:=λz hz=>Below.heap_setCell _ _ _ _ hz;have hTst:∀z,T z->z≠st:=λz hz e=>by
  obtain⟨_,cur,hcur⟩:=h5.tt z hz;rw[e]at hcur
  exact Blk.ne_ (show Blk W st _ cur from hcur) h11 (by decide) rfl
 refine⟨F,D,T,_,h1,h2,h3,h4,h5.keep (λz hz=>hne z (by omega)) (λz hz=>hne z (hTst z hz)) (λy hy=>hy.setCell _ _ _) (by rw[World.size_setCell];exact Nat.le_refl _),h6,h7,h8.same (hne _ (by omega)),h9.same (hne _ (by omega)),h10,heap_setCell_same W st 0 _ _ _ h11,ownsRow_setCell_other (a:=⟨st,0,none⟩) ho (λe=>by have:g=st:=(by simpa[Value.ownBlock] using e);omega) _,h13.setCell (p:=⟨st,0,none⟩) (.inl hw) _,h14⟩
end
attribute [local go_sem] Oper.semAt_some
def FilPost(b mk lo p:Nat)(c0 c1 c2 c4:Value)(G:Nat->Option Nd)(k:Sb)(hd:Nat->Nat)(T:Nat->Prop)(w:World)(e:Ending)(w':World):Prop :=
 ∃v T' D',e=.returned v/\RdV T' w' (toTy (tv G k p)) v/\FilM b mk lo c0 c1 c2 c4 G k hd T' D' w'/\(∀g,T g->T' g)/\Chg (λg=>g=mk\/∃x,G g=some x) w w'
theorem zlm(b mk lo p:Nat)(c0 c1 c2 c4:Value)(G:Nat->Option Nd)(L:List Nat)(k:Sb)(hd:Nat->Nat)(T:Nat->Prop)(D:Nat->Dy)(O:List Nat)(w:World)(hm:FilM b mk lo c0 c1 c2 c4 G k hd T D w)(S:HdS G L hd k [] O)(hp:FV G p)(hh:hd p=p)(y:Nd)(hy:G p=some y)(hw:1+wg G [] L<=1000000):Calls Tryz.prog 75 #[.pointer (some ⟨b,0,none⟩),.pointer (some ⟨p,0,none⟩)] w (FilPost b mk lo p c0 c1 c2 c4 G k hd T w):=by
 refine(callsIn_wide (n:=10)).1 ?_;refine callsIn_of_wp_marks Tryz.func75 rfl trivial ?_ rfl;simp only[Tryz.ntmps75,List.size_toArray,List.length_cons,List.length_nil,Nat.reduceAdd,Nat.reduceSub,Array.replicate_succ,Array.replicate_zero,List.push_toArray,List.append_toArray,List.nil_append,List.cons_append];have hlo:=hm.ls;obtain⟨l0,l1,l2,l3,hs4,hb4⟩:=zeG w (.cells #[.pointer (some ⟨b,0,none⟩)] 72) (.cells #[.int .i64 0,.string ⟨#[]⟩,.int .i64 0,.slice none 0 0] 37) (.cells #[.slice none 0 0] 195) (.cells #[.pointer (some ⟨p,0,none⟩)] 75);obtain⟨w4,hw4⟩:∃W,(((w.alloc (.cells #[.pointer (some ⟨b,0,none⟩)] 72)).alloc (.cells #[.int .i64 0,.string ⟨#[]⟩,.int .i64 0,.slice none 0 0] 37)).alloc (.cells #[.slice none 0 0] 195)).alloc (.cells #[.pointer (some ⟨p,0,none⟩)] 75)=W:=⟨_,rfl⟩;rw[hw4]at l0 l1 l2 l3 hs4 hb4
 have hlay:=zeJ (w.heap.size+1+1) (w.heap.size+1+1+1) 195 #[.slice none 0 0] (by simp) [] [p] (.slice none 0 0) (some ⟨w.heap.size+1+1+1,0,none⟩) 1 w4 l2 (World.ownsRow_nil _ _ _ _) (by omega) (by simp[Value.ownBlock]) (by simp) (λj q hq=>by
  rw[List.getElem?_singleton]at hq
  split at hq
  ·rename_i hj
   injection hq with hq;subst hj hq;exact⟨w.heap.size+1+1+1,rfl,by omega,by omega,by simp[Value.ownBlock],(show Blk w4 (w.heap.size+1+1+1) _ _ from l3).cell 0⟩
  ·cases hq)
 rw[<-hw4]at hlay
 have HLAY:=hidE hlay;have HW4:=hidE hw4;have HL0:=hidE l0;have HL1:=hidE l1;have HL2:=hidE l2;have HB4:=hidE hb4;have HM:=hidE hm;clear hlay hw4 l0 l1 l2 l3 hb4 hm;gi_wp2
 refine⟨trivial,?_⟩;refine((callsIn_wide (n:=9)).2 HLAY.out).mono ?_;rintro e w6 ⟨⟨v0,rfl⟩,hl6⟩;rw[HW4.out]at hl6
 gi_wp2
 obtain⟨v6,a1,a2,-,-,-,a6⟩:=hl6;have hs6:=a6.size;have hbw:Below w.heap.size w w6:=(HB4.out).trans (a6.toBelow (by omega) (λk hk h=>by rcases h with h|h;omega;cases h));have hk6:∀(g:Nat) (cs:Array Value) (t:TypeId),Blk w4 g t cs->g≠w.heap.size+1+1->Blk w6 g t cs:=λg cs t hg hn=>hg.chg a6 (λh=>by rcases h with h|h;exact hn h;cases h);have hM4:FilM b mk lo c0 c1 c2 c4 G k hd T D w6:=HM.out.keep (λg hg=>hbw.block g (by omega)) (λg hg=>hbw.block g (by obtain⟨_,cur,hcur⟩:=HM.out.tt g hg;exact(Array.getElem?_eq_some_iff.1 hcur).1)) (λx ⟨cs,hx⟩=>⟨cs,(hbw.block x (Array.getElem?_eq_some_iff.1 hx).1).trans hx⟩) hbw.size;have hJ0:FilJ b mk lo p w.heap.size (w.heap.size+1) (w.heap.size+1+1) c0 c1 c2 c4 G k hd T w (filW G k [(p,false)]) [] [p] w6:=by
  refine⟨[(p,false)],D,T,v6,rfl,?_,?_,rfl,hM4,λ_ h=>h,.inr (by simp),hk6 _ _ _ HL0.out (by omega),hk6 _ _ _ HL1.out (by omega),λh=>?_,a1,a2,Chg.of_below hbw,by omega,by omega,by omega,by omega,by omega⟩
  ·rw[FilOK,FilOK]
   exact⟨hp,hh,(λe=>by cases e),trivial⟩
  ·rw[FilN,FilN];exact Nat.le_refl _
  ·obtain⟨_,cur,hcur⟩:=HM.out.tt _ h
   have:=(Array.getElem?_eq_some_iff.1 hcur).1;omega
 have H0:=hidE hJ0;have HS:=hidE S;have HWT:=hidE hw;have HS6:Hid (w.heap.size+1+1+1+1<=w6.heap.size):=hidE (by omega);have HLO:=hidE hlo;have HY:=hidE hy;clear hJ0 hM4 hk6 hbw hs6 a1 a2 a6 hw S hs4 HLAY HW4 HL0 HL1 HL2 HB4 HM hlo hp hy;obtain⟨STW,hSTW⟩:∃n,w.heap.size+1+1=n:=⟨_,rfl⟩;rw[hSTW]at H0 HS6 ⊢
 have HSTW:=hidE hSTW;clear hSTW;refine zb7 (σ:=Nat × Nat × List Nat) rfl (by omega) (gf:=120) (fb:=#[.pointer (some ⟨STW,0,none⟩)]) (lb:=#[]) rfl trivial (enters_of Tryz.func120 (by kernel_rfl) rfl)
  (λx=>#[.pointer (some ⟨x.2.1,0,none⟩)]) (λ_=>rfl)
  (λx W=>FilJ b mk lo p w.heap.size (w.heap.size+1) STW c0 c1 c2 c4 G k hd T w x.1 [x.2.1] x.2.2 W)
  (λx W=>∃N' l',N'<x.1/\FilJ b mk lo p w.heap.size (w.heap.size+1) STW c0 c1 c2 c4 G k hd T w N' [] l' W)
  (λx a₁ W=>FilJ b mk lo p w.heap.size (w.heap.size+1) STW c0 c1 c2 c4 G k hd T w x.1 [x.2.1] x.2.2 W/\a₁ = { tmps:=#[Value.pointer (some ⟨b,0,none⟩),Value.pointer (some ⟨p,0,none⟩),Value.pointer (some ⟨w.heap.size,0,none⟩),undef,Value.pointer (some ⟨w.heap.size+1,0,none⟩),Value.pointer (some ⟨STW,0,none⟩),Value.pointer (some ⟨x.2.1,0,none⟩),undef,undef,
   Value.pointer (some ⟨p,0,none⟩),Value.slice (some ⟨STW+1,0,none⟩) 1 1,v0,Value.func (Fn.func 120) #[Value.pointer (some ⟨STW,0,none⟩)] #[],Value.pointer (some ⟨x.2.1,0,none⟩),undef,undef,undef,undef,undef,undef,undef,undef,undef,undef,undef,undef,undef,undef,undef,undef,undef,undef,undef,undef,undef,undef,undef,undef,undef,undef,undef,undef,undef,undef],defers:=[] })
  (λW=>∃N,FilJ b mk lo p w.heap.size (w.heap.size+1) STW c0 c1 c2 c4 G k hd T w N [] [] W) (λ_ _=>False)
  (λx a₁ W r r' h hl=>⟨h.1.rec_ (by have:=HS6.out;have:=HSTW.out;omega) hl (.inl ⟨_,rfl⟩),h.2⟩)
  (λx W r r' h hl=>by obtain⟨N',l',hlt,h⟩:=h;exact⟨N',l',hlt,h.rec_ (by have:=HS6.out;have:=HSTW.out;omega) hl (.inl ⟨_,rfl⟩)⟩)
  (λW r r' h hl=>by obtain⟨N,h⟩:=h;exact⟨N,h.rec_ (by have:=HS6.out;have:=HSTW.out;omega) hl (.inl ⟨_,rfl⟩)⟩) (λ_ _ _ _ h _=>h) ?assign ?body ?iter ?done ?stop
 case assign =>
  intro r x W hj hl;have HJ:=hidE hj;have HLP:=hidE hl;clear hj hl;gi_wp2
  exact⟨HLP.out,HJ.out,trivial⟩
 case stop=>intro c W h;exact h.elim
 case iter =>
  intro rec W1 hb1 hs1 hl1 hY;refine(zgP Fence.wide (10-1) trivial rfl (by omega) (w6.heap.size+1) STW (λN l W=>FilJ b mk lo p w.heap.size (w.heap.size+1) STW c0 c1 c2 c4 G k hd T w N [] l W/\LoopAt (rec .ready none) (w6.heap.size+1) w6.heap.size W)
   (λN x l W=>FilJ b mk lo p w.heap.size (w.heap.size+1) STW c0 c1 c2 c4 G k hd T w N [x] l W/\LoopAt (rec .ready none) (w6.heap.size+1) w6.heap.size W) (λ_=>False) (λN l W h=>?_) (λN x l W h=>?_) W1 _ _ ⟨H0.out.below hb1,hl1⟩).mono ?_
  ·obtain⟨A,c,h1,h2⟩:=h.1.stack HS.out HWT.out (by have:=HSTW.out;omega)
   have:=HS6.out;exact⟨A,c,h1,λx l' e=>⟨h2 x l' e,h.2.setCell ⟨STW,0,none⟩ _ (by show STW≠_;omega) (by show STW≠_;omega)⟩⟩
  ·refine(hY (N,x,l) W h.1 h.2).mono ?_
   intro e W' hs;rcases hs with⟨h1,⟨N',l',hlt,h2⟩,h3⟩|⟨_,_,h2,_⟩
   ·exact .inl ⟨h1,N',l',hlt,h2,h3⟩
   ·exact h2.elim
  ·rintro e W' ⟨hv,⟨N,hj,hl⟩|h⟩
   ·exact⟨hv,.inl ⟨⟨N,hj⟩,hl⟩⟩
   ·exact h.elim
 case done =>
  rintro W ⟨N,F,D1,T1,v1,h1,h2,h3,h4,h5,h6,h7,h8,h9,h10,h11,h12,h13,h14⟩ hD;have hfl:(D1 p).fl=true:=by
   rcases h7 with h|h
   ·exact h
   ·simp at h
  obtain⟨f1,f2,A,c,f3,f4⟩:=h5.fd p y HY.out hfl;obtain⟨A9,c9,hb9,-⟩:=h5.pd p y HY.out;obtain⟨t1,t2,t3,t4,-,-⟩:=HS.out.tv_node f1 f2 HY.out;have z0:W.cell? ⟨p,0,none⟩=some (.int .i64 (y.kd:Nat)):=hb9.cell 0;have z1:W.cell? ⟨p,1,none⟩=some (.string y.nm):=hb9.cell 1;have z2:W.cell? ⟨p,2,none⟩=some (.int .i64 (y.n:Nat)):=hb9.cell 2;have z3:W.cell? ⟨p,3,none⟩=some (.slice A y.kids.length c):=by rw[<-f3];exact hb9.cell 3
  have lz:=hb9.lt;have HD:=hidE hD;have H5:=hidE h5;have H9:=hidE h9;have H10:=hidE h10;have F4:=hidE f4;have HT:=hidE (show y.kd=_/\y.nm=_/\y.n=_/\_ from⟨t1,t2,t3,t4⟩);have H13:=hidE h13;have H6:=hidE h6;have HE:Hid (lo<=w.heap.size+1/\w.heap.size+1<STW):=hidE ⟨h14.1,h14.2.2.2.1⟩;obtain⟨k0,k1,k2,k3,g0,g1,g2,g3,gl⟩:=zaa h9;clear h1 h2 h3 h4 h5 h6 h7 h8 h9 h10 h11 h12 h13 h14 hD hfl f1 f2 f3 f4 hb9 t1 t2 t3 t4;gi_wp2
  have hr4:=zae (.int .i64 (y.kd:Nat)) (.string y.nm) (.int .i64 (y.n:Nat)) (.slice A y.kids.length c) H9.out;have hne4:∀g,g≠w.heap.size+1->((((W.setCell ⟨w.heap.size+1,0,none⟩ (.int .i64 (y.kd:Nat))).setCell ⟨w.heap.size+1,1,none⟩ (.string y.nm)).setCell ⟨w.heap.size+1,2,none⟩ (.int .i64 (y.n:Nat))).setCell ⟨w.heap.size+1,3,none⟩ (.slice A y.kids.length c)).heap[g]?=W.heap[g]?:=λg hg=>(Below.heap_setCell _ _ _ _ hg).trans ((Below.heap_setCell _ _ _ _ hg).trans ((Below.heap_setCell _ _ _ _ hg).trans (Below.heap_setCell _ _ _ _ hg)));have hl4:∀z,LaidQ W z->LaidQ ((((W.setCell ⟨w.heap.size+1,0,none⟩ (.int .i64 (y.kd:Nat))).setCell ⟨w.heap.size+1,1,none⟩ (.string y.nm)).setCell ⟨w.heap.size+1,2,none⟩ (.int .i64 (y.n:Nat))).setCell ⟨w.heap.size+1,3,none⟩ (.slice A y.kids.length c)) z:=λz hz=>(((hz.setCell _ _ _).setCell _ _ _).setCell _ _ _).setCell _ _ _;have hc4:Chg (λg=>g=mk\/∃x,G g=some x) w ((((W.setCell ⟨w.heap.size+1,0,none⟩ (.int .i64 (y.kd:Nat))).setCell ⟨w.heap.size+1,1,none⟩ (.string y.nm)).setCell ⟨w.heap.size+1,2,none⟩ (.int .i64 (y.n:Nat))).setCell ⟨w.heap.size+1,3,none⟩ (.slice A y.kids.length c)):=(((H13.out.setCell (p:=⟨w.heap.size+1,0,none⟩) (.inl (by simp)) _).setCell (p:=⟨w.heap.size+1,1,none⟩) (.inl (by simp)) _).setCell (p:=⟨w.heap.size+1,2,none⟩) (.inl (by simp)) _).setCell (p:=⟨w.heap.size+1,3,none⟩) (.inl (by simp)) _;have hs4:((((W.setCell ⟨w.heap.size+1,0,none⟩ (.int .i64 (y.kd:Nat))).setCell ⟨w.heap.size+1,1,none⟩ (.string y.nm)).setCell ⟨w.heap.size+1,2,none⟩ (.int .i64 (y.n:Nat))).setCell ⟨w.heap.size+1,3,none⟩ (.slice A y.kids.length c)).heap.size=W.heap.size:=by simp
  generalize ((((W.setCell ⟨w.heap.size+1,0,none⟩ (.int .i64 (y.kd:Nat))).setCell ⟨w.heap.size+1,1,none⟩ (.string y.nm)).setCell ⟨w.heap.size+1,2,none⟩ (.int .i64 (y.n:Nat))).setCell ⟨w.heap.size+1,3,none⟩ (.slice A y.kids.length c))=W4 at hr4 hne4 hl4 hc4 hs4 ⊢;have h6:=HS6.out;have h7:=HSTW.out;have kD:W4.heap[w6.heap.size]?=some (.deferred (some [])):=(hne4 _ (by omega)).trans HD.out;refine⟨by simp,.inl ⟨_,_,rfl,run_takeDeferred kD,?_⟩⟩;have r4:=hr4.same (w':=W4.putObj w6.heap.size (.deferred none)) (zaQ kD hr4 (by simp));have hne5:∀g,g≠w.heap.size+1->g≠w6.heap.size->(W4.putObj w6.heap.size (.deferred none)).heap[g]?=W.heap[g]?:=λg n1 n2=>(World.putObj_heap_other n2).trans (hne4 g n1);have hTn:∀g,T1 g->g≠w.heap.size+1/\g≠w6.heap.size:=λg hg=>by
   refine⟨λe=>H10.out (e▸hg),λe=>?_⟩;obtain⟨_,cur,hcur⟩:=H5.out.tt g hg;rw[e,HD.out]at hcur
   cases hcur
  refine⟨_,results_cell_row rfl _ _ (w.heap.size+1) 37 _ (0,0) _ rfl r4 Tryz.underlying37 rfl (by kernel_rfl),_,T1,D1,rfl,⟨A,c,?_,F4.out.keep (λ_ h=>h) (λg hg=>hne5 g (hTn g hg).1 (hTn g hg).2)⟩,H5.out.keep (λg hg=>hne5 g (by have:=HE.out;omega) (by have:=HE.out;omega)) (λg hg=>hne5 g (hTn g hg).1 (hTn g hg).2) (λz hz=>by
   obtain⟨cs,hx⟩:=hl4 z hz;exact⟨cs,(zaQ kD hx (by simp)).trans hx⟩) (by rw[World.putObj_size,hs4];exact Nat.le_refl _),H6.out,hc4.putObj _ _ (by omega)⟩
  obtain⟨t1,t2,t3,t4⟩:=HT.out;rw[t1,t2,t3,t4,List.length_map]
 case body =>
  rintro r ⟨N,x,l⟩ a₁ W ⟨⟨F,D1,T1,v1,h1,h2,h3,h4,h5,h6,h7,h8,h9,h10,h11,h12,h13,h14⟩,rfl⟩ hl;obtain⟨⟨x',e⟩,F',rfl⟩:∃p F',F=p::F':=by
   cases F with
   |nil=>simp at h1
   |cons a F'=>exact⟨a,F',rfl⟩
  simp only[List.map_cons,List.singleton_append,List.cons.injEq]at h1;obtain⟨rfl,h1⟩:=h1;have h4:N=_:=h4;subst h4;have hok:=h2;rw[FilOK]at hok
  obtain⟨q1,q2,q3,-⟩:=hok;obtain⟨yx,hyx⟩:∃y,G x'=some y:=by obtain⟨d,g1,_⟩:=q1;obtain⟨y,hy,_⟩:=g1.node;exact⟨y,hy⟩
  obtain⟨A9,c9,hb9,hr9⟩:=h5.pd x' yx hyx;have HLW:Hid (lo<=W.heap.size):=hidE h5.ls;have z7:W.cell? ⟨x',7,none⟩=some (.bool (D1 x').fl):=hb9.cell 7;have lx:=hb9.lt;have x2:W.cell? ⟨w.heap.size,0,none⟩=some (.pointer (some ⟨b,0,none⟩)):=h8.cell 0;have l2:=h8.lt;cases hf:(D1 x').fl with
  |true =>
   rw[hf]at z7
   have HF:Hid (∃N' l',N'<filW G k ((x',e)::F')/\FilJ b mk lo p w.heap.size (w.heap.size+1) STW c0 c1 c2 c4 G k hd T w N' [] l' W):=hidE (by
    refine⟨filW G k F',l,?_,F',D1,T1,v1,h1,h2.pop (λ_ h=>h) hf,h3.tail,rfl,h5,h6,?_,h8,h9,h10,h11,h12,h13,h14⟩
    ·rw[filW]
     have:=zbL (tv G k x');cases e <;> simp <;> omega
    ·rcases h7 with h|h
     ·exact .inl h
     ·rcases List.mem_append.1 h with h|h
      ·rw[List.mem_singleton]at h;rw[h];exact .inl hf
      ·exact .inr (by simpa using h))
   have HLP:=hidE hl;clear h1 h2 h3 h5 h6 h7 h8 h9 h10 h11 h12 h13 h14 hl hf hb9 hr9 q1 q2 q3 hyx x2 l2;gi_wp2
   obtain⟨N',l',n1,n2⟩:=HF.out;exact⟨⟨N',n1,l',n2⟩,HLP.out⟩
  |false =>
   rw[hf]at z7
   obtain⟨K1,hK1⟩:=h5.kn;have hkl:yx.kids.length+1<=wg G [] L:=by have:=zd0 G x' [] yx hyx (by simp) L (HS.out.gr.all _ _ hyx);omega
   have hfa:=zg7 b mk x' yx c0 c1 c2 c4 G D1 K1 hd L W h5.sb hK1 h5.pd HS.out.gr hyx h5.da (by have:=HWT.out;omega);have HFA:=hidE hfa;have H1:=hidE h1;have H2:=hidE h2;have H3:=hidE h3;have H5:=hidE h5;have H6:=hidE h6;have H7:=hidE h7;have H8:=hidE h8;have H9:=hidE h9;have H10:=hidE h10;have H11:=hidE h11;have H12:=hidE h12;have H13:=hidE h13;have H14:=hidE h14;have HLP:=hidE hl;have HYX:=hidE hyx;have HQ:=hidE (show FV G x'/\hd x'=x' from⟨q1,q2⟩);have HQ3:=hidE q3;have HF:=hidE hf;have HKL:=hidE hkl;have HR9:=hidE hr9;have HB9:=hidE hb9;clear hfa h1 h2 h3 h5 h6 h7 h8 h9 h10 h11 h12 h13 h14 hl hf hb9 hr9 q1 q2 q3 hyx hK1 hkl;gi_wp2
   refine⟨trivial,?_⟩;refine(CallsIn.inRound _ ((callsIn_wide (n:=_)).2 HFA.out)).mono ?_;rintro e1 W1 ⟨v4,v5,rfl,o4,o5,hI⟩;obtain⟨A4,a4,rfl⟩:=zao o4;obtain⟨A5,a5,rfl⟩:=zao o5;obtain⟨n5,hn5⟩:∃n,(zaK D1 (yx.kids.map hd)).length=n:=⟨_,rfl⟩;have hne1:∀(g:Nat) (z:Obj),W.heap[g]?=some z->g≠mk->W1.heap[g]?=W.heap[g]?:=λg z hg hm=>hI.ch.block g (Array.getElem?_eq_some_iff.1 hg).1 (λe=>hm e);have hno:∀(g:Nat) (cs:Array Value) (t:TypeId),W.heap[g]?=some (.cells cs t (0,0))->g≠mk:=λg cs t hg e=>by
    obtain⟨K,hK⟩:=H5.out.kn;rw[e]at hg
    exact MapK.no hK.mp hg
   have hM1:=H5.out.head hI.ch hI.kn;have hmkl:=hM1.lb.2.1;have k14:=H14.out;have hlp1:LoopAt r (w6.heap.size+1) w6.heap.size W1:=HLP.out.keep (hne1 _ _ HLP.out.1 (by have:=HS6.out;omega)) (hne1 _ _ HLP.out.2 (by have:=HS6.out;omega));have k8:=H8.out.same (hne1 _ _ H8.out (hno _ _ _ H8.out));have k9:=H9.out.same (hne1 _ _ H9.out (hno _ _ _ H9.out));have k11:=H11.out.same (hne1 _ _ H11.out (hno _ _ _ H11.out));have k12:=zal H12.out (λg hg=>by obtain⟨_,_,cur,hcur⟩:=zab H12.out g hg;exact hne1 g _ hcur (hno g cur _ hcur));have k13:=H13.out.trans' hI.ch (λg _ h=>.inl h);obtain⟨A8,c8,hb8,hr8⟩:=hM1.pd x' yx HYX.out;rw[hn5]at o5
   have hsW:=hI.ch.size;have HM1:=hidE hM1;have HLP1:=hidE hlp1;have K8:=hidE k8;have K9:=hidE k9;have K11:=hidE k11;have K12:=hidE k12;have K13:=hidE k13;have O4:=hidE o4;have O5:=hidE o5;have HN5:=hidE hn5;have HSW:=hidE hsW;have HV1:Hid (∀g,v1.ownBlock=some g->g<W.heap.size):=hidE (λg hg=>(zab H12.out g hg).2.1);have HT1:Hid (∀g,T1 g->g<W.heap.size):=hidE (λg hg=>by obtain⟨_,cur,hcur⟩:=H5.out.tt g hg;exact(Array.getElem?_eq_some_iff.1 hcur).1);have HST:Hid (STW<W.heap.size):=hidE H11.out.lt;have HLPL:Hid (w6.heap.size+1<W.heap.size):=hidE HLP.out.lt.1;clear hne1 hno hM1 hlp1 k8 k9 k11 k12 k13 o4 o5 hI hsW z7 lx x2 l2 HFA HLP H8 H9 H11 H12 H13 H5 HB9 HR9;rw[hn5]
   clear hn5;by_cases hz:n5=0
   ·subst hz
    have g3:W1.cell? ⟨x',3,none⟩=some (D1 x').A:=hb8.cell 3;have g7:W1.cell? ⟨x',7,none⟩=some (.bool (D1 x').fl):=hb8.cell 7;have m3:=hb8.frozen 3;have m7:=hb8.frozen 7;have lx:=hb8.lt;have hnil:zaK D1 (yx.kids.map hd)=[]:=List.eq_nil_of_length_eq_zero HN5.out;have hall:∀c∈yx.kids,(D1 (hd c)).fl=true:=λc hc=>by
     unfold zaK at hnil;rw[List.filter_eq_nil_iff]at hnil
     have:=hnil (hd c) (List.mem_map.2 ⟨c,hc,rfl⟩);simpa using this
    have hfill:=HM1.out.fill HS.out HYX.out HQ.out.1 HQ.out.2 hall (B:=W.heap.size) HLW.out O4.out;have HFILL:=hidE hfill;have HALL:=hidE hall;clear hfill hall hnil hb8 hr8;gi_wp2
    have h6:=HS6.out;have k14:=H14.out;have hxlo:=HM1.out.lb.2.2.1 x' yx HYX.out;have hne2:∀g,g≠x'->((W1.setCell ⟨x',3,none⟩ (.slice A4 yx.kids.length a4)).setCell ⟨x',7,none⟩ (.bool true)).heap[g]?=W1.heap[g]?:=λg hg=>(Below.heap_setCell _ _ _ _ hg).trans (Below.heap_setCell _ _ _ _ hg);have hf2:∀q,(D1 q).fl=true->(upn D1 x' { D1 x' with A:=.slice A4 yx.kids.length a4,fl:=true } q).fl=true:=λq hq=>by
     by_cases e:q=x'
     ·rw[e,zak]
     ·rw[zac _ _ _ _ e];exact hq
    have hsW:=HSW.out;have hlpW:=HLPL.out;refine⟨⟨filW G k F',l,?_,F',upn D1 x' { D1 x' with A:=.slice A4 yx.kids.length a4,fl:=true },_,v1,H1.out,H2.out.pop hf2 (by rw[zak]),H3.out.tail,rfl,HFILL.out,λg hg=>.inl (H6.out g hg),?_,K8.out.same (hne2 _ (by omega)),K9.out.same (hne2 _ (by omega)),?_,K11.out.same (hne2 _ (by omega)),zal K12.out (λg hg=>hne2 g (by have:=(zab K12.out g hg).1;omega)),(K13.out.setCell (p:=⟨x',3,none⟩) (.inr (.inr ⟨yx,HYX.out⟩)) _).setCell (p:=⟨x',7,none⟩) (.inr (.inr ⟨yx,HYX.out⟩)) _,H14.out⟩,?_⟩
    ·show _<filW G k ((x',e)::F')
     rw[filW]
     have:=zbL (tv G k x');cases e <;> simp <;> omega
    ·rcases H7.out with h|h
     ·exact .inl (hf2 p h)
     ·rcases List.mem_append.1 h with h|h
      ·rw[List.mem_singleton]at h;rw[h];exact .inl (by rw[zak])
      ·exact .inr (by simpa using h)
    ·rintro(h|h)
     ·exact H10.out h
     ·have:=(zab O4.out _ h).1
      omega
    ·exact(HLP1.out.setCell ⟨x',3,none⟩ _ (by show x'≠_;omega) (by show x'≠_;omega)).setCell ⟨x',7,none⟩ _ (by show x'≠_;omega) (by show x'≠_;omega)
   ·have he:e=false:=by
     cases e with
     |false=>rfl
     |true =>
      exfalso
      refine hz ?_;rw[<-HN5.out]
      unfold zaK;rw[List.length_eq_zero_iff,List.filter_eq_nil_iff]
      intro c hc;obtain⟨c0',hc0,rfl⟩:=List.mem_map.1 hc;rcases(HQ3.out rfl).1 yx HYX.out c0' hc0 with h|h
      ·simpa using h
      ·cases h
    subst he;obtain⟨P1,P2,P3⟩:=H2.out.open_ HS.out H3.out HYX.out (zaK D1 (yx.kids.map hd)) rfl;have hn5p:¬((n5:Int)=0):=by omega
    have hgt:decide ((0:Int)<(n5:Int))=true:=by rw[decide_eq_true_iff];omega
    have hn5l:n5<=1000000:=by
     rw[<-HN5.out]
     unfold zaK;refine Nat.le_trans (List.length_filter_le _ _) ?_;rw[List.length_map]
     have:=HKL.out;have:=HWT.out;omega
    obtain⟨j0,hj0,hy0,hy1,hy2⟩:=info_parts infoPtr;have HO5:=hidE (O5.out.alloc (.cells #[.pointer (some ⟨x',0,none⟩)] 75));have HPP:=hidE (show _/\_/\_ from⟨P1,P2,P3⟩);clear P1 P2 P3 hb8 hr8;gi_wp2_with (gi_at_builtin;go_loud (refine wpListIn_append_own _ rfl (.tmp 27) (.tmp 29) 130 rfl W.heap.size 75 j0 _ 1 8 Tryz.underlying130 hj0 hy0 hy1 hy2 rfl (by decide) _ n5 ((zaK D1 (yx.kids.map hd)).map PK) rfl HO5.out ⟨W1.heap.size,0,none⟩ 1 1 [.pointer (some ⟨x',0,none⟩)] rfl rfl (zar _ _ _ _ (by simp)) (by intro u hu;simp at hu;subst hu;rfl) (by unfold maxLen;omega) (by omega) (by have:=HSW.out;simp;omega) ?_);go_loud (intro v9 w9 hown9 hgrow hnil);go_loud (obtain⟨A9',c9',rfl⟩:=zao hown9);have HO9:=hidE hown9;have HG9:=hidE hgrow;clear hown9 hgrow hnil)
    have hsw:=HSW.out;have hst:=HST.out;have k14:=H14.out;have hlpl:=HLPL.out;have h6:=HS6.out;have hs9:W1.heap.size<w9.heap.size:=by have:=HG9.out.size;simp only[World.size_alloc]at this;omega
    have hb5:∀g,(Value.slice A5 n5 a5).ownBlock=some g->W.heap.size<=g/\∃cur,W1.heap[g]?=some (.cells cur 75 (0,0)):=λg hg=>by
     obtain⟨n1,_,n2⟩:=zab O5.out g hg;exact⟨n1,n2⟩
    have hk9:∀g,g<W.heap.size->w9.heap[g]?=W1.heap[g]?:=λg hg=>(HG9.out.block g (by simp only[World.size_alloc];omega) (λe=>by have:=(hb5 g e.symm).1;omega)).trans (Below.heap_alloc _ _ _ (by omega));have hl9:∀z,LaidQ W1 z->LaidQ w9 z:=λz ⟨cs,hx⟩=>⟨cs,((HG9.out.block z (by simp only[World.size_alloc];have:=(Array.getElem?_eq_some_iff.1 hx).1;omega) (λe=>by
     obtain⟨_,cur,hcur⟩:=hb5 z e.symm;exact Blk.ne_ (show Blk W1 z _ cs from hx) (show Blk W1 z _ cur from hcur) (by decide) rfl)).trans (Below.heap_alloc _ _ _ (Array.getElem?_eq_some_iff.1 hx).1)).trans hx⟩
    have hM9:=HM1.out.keep (W':=w9) (λg hg=>hk9 g (by have:=HLW.out;omega)) (λg hg=>hk9 g (HT1.out g hg)) hl9 (by omega);have k11:=K11.out.same (hk9 _ hst);have k12:=zal K12.out (w':=w9) (λg hg=>hk9 g (HV1.out g hg));have k13:Chg (λg=>g=mk\/∃x,G g=some x) w w9:=(K13.out.alloc (.cells #[.pointer (some ⟨x',0,none⟩)] 75)).grown HG9.out (λk hk=>.inl (by have:=(hb5 k hk).1;have:=HSTW.out;omega));have hlp9:LoopAt r (w6.heap.size+1) w6.heap.size w9:=HLP1.out.keep (hk9 _ (by omega)) (hk9 _ (by omega));have hids:(zaK D1 (yx.kids.map hd)++[x']).length=n5+1:=by rw[List.length_append,HN5.out];rfl
    have hlenF:=HPP.out.1.len HPP.out.2.1 HS.out.gr.all;rw[List.length_append,List.length_map,HN5.out,List.length_cons,<-List.length_map (f:=λz:Nat × Bool=>z.1),H1.out,List.length_reverse]at hlenF
    have hwt:=HWT.out;have o9:w9.ownsRow W.heap.size 75 1 (.slice A9' (n5+1) c9') (n5+1) ((zaK D1 (yx.kids.map hd)++[x']).map PK):=by rw[List.map_append];exact HO9.out
    have hlay:=zeJ STW (STW+1) 195 #[v1] (by simp) l (zaK D1 (yx.kids.map hd)++[x']) v1 A9' c9' w9 k11 k12 (by omega) (λe=>by have:=(zab k12 _ e).1;omega) (by rw[hids];omega) (λj q hq=>by
     obtain⟨g,cap,cur,hv,n1,n2,n3⟩:=zdA o9 (by omega);injection hv with e1 _ _;exact⟨g,e1,(Array.getElem?_eq_some_iff.1 n2).1,by omega,λe=>by have:=HV1.out g e;omega,(cell_of_row w9 g j cur _ (0,0) n2).trans (n3 j q hq)⟩)
    rw[hids]at hlay
    have HLAY:=hidE hlay;have HM9:=hidE hM9;have K13':=hidE k13;have HLP9:=hidE hlp9;have K11':=hidE k11;have K12':=hidE k12;have K8':=hidE (K8.out.same (hk9 _ (by omega)));have K9':=hidE (K9.out.same (hk9 _ (by omega)));clear hlay hM9 k13 hlp9 k11 k12 o9 hlenF hids hl9 hk9 hb5 HM1 K8 K9 K11 K12 K13 HLP1 HO9 HG9 HO5;refine⟨trivial,?_⟩;refine(CallsIn.inRound _ ((callsIn_wide (n:=_)).2 HLAY.out)).mono ?_;rintro e2 W4 ⟨⟨ve2,rfl⟩,v9,d1,d2,-,-,-,d6⟩;have hcell:∀(g:Nat) (z:Obj),w9.heap[g]?=some z->(∀cs t,z=.cells cs t (0,0)->t≠195/\t≠75)->W4.heap[g]?=w9.heap[g]?:=λg z hg ht=>d6.block g (Array.getElem?_eq_some_iff.1 hg).1 (by
     rintro(h|h)
     ·have hs:w9.heap[STW]?=_:=K11'.out
      rw[h,hs]at hg
      injection hg with hg;exact(ht _ _ hg.symm).1 rfl
     ·obtain⟨_,_,cur,hcur⟩:=zab K12'.out g h
      rw[hcur]at hg
      injection hg with hg;exact(ht _ _ hg.symm).2 rfl)
    have hcc:∀(g:Nat) (cs:Array Value) (t:TypeId),Blk w9 g t cs->t≠195->t≠75->Blk W4 g t cs:=λg cs t hg t1 t2=>hg.same (hcell g _ hg (λcs' t' e=>by injection e with _ e;subst e;exact⟨t1,t2⟩));have hlow:∀g,g<lo->W4.heap[g]?=w9.heap[g]?:=λg hg=>d6.block g (by have:=HLW.out;omega) (by
     rintro(h|h)
     ·omega
     ·have:=(zab K12'.out g h).1;omega)
    have hM4:=HM9.out.keep (W':=W4) hlow (λg hg=>by
     obtain⟨_,cur,hcur⟩:=HM9.out.tt g hg;exact hcell g _ hcur (λcs t e=>by injection e with _ e;subst e;exact⟨by decide,by decide⟩)) (λz ⟨cs,hx⟩=>⟨cs,(hcell z _ hx (λcs' t e=>by injection e with _ e;subst e;exact⟨by decide,by decide⟩)).trans hx⟩) d6.size
    have hJ:FilJ b mk lo p w.heap.size (w.heap.size+1) STW c0 c1 c2 c4 G k hd T w (filW G k ((zaK D1 (yx.kids.map hd)).map (·,false)++(x',true)::F')) [] (l++(zaK D1 (yx.kids.map hd)++[x']).reverse) W4:=by
     refine⟨_,D1,T1,v9,?_,HPP.out.1,HPP.out.2.1,rfl,hM4,H6.out,?_,hcc _ _ _ K8'.out (by decide) (by decide),hcc _ _ _ K9'.out (by decide) (by decide),H10.out,d1,by simpa using d2,K13'.out.trans' d6 (λg hg h=>?_),H14.out⟩
     ·rw[List.map_append,List.map_map,List.map_cons,H1.out,List.reverse_append,List.reverse_reverse,List.append_assoc]
      have hmm:List.map ((λz:Nat × Bool=>z.1) ∘ λz=>(z,false)) (zaK D1 (yx.kids.map hd))=zaK D1 (yx.kids.map hd):=by
       conv=>rhs;rw[<-List.map_id (zaK D1 (yx.kids.map hd))]
       rfl
      rw[hmm]
      rfl
     ·rcases H7.out with h|h
      ·exact .inl h
      ·right
       rw[List.nil_append,List.reverse_append,List.reverse_reverse]
       rcases List.mem_append.1 h with h|h
       ·rw[List.mem_singleton]at h;rw[h];simp
       ·exact List.mem_append_right _ h
     ·rcases h with h|h
      ·have:=HSTW.out;omega
      ·have:=(zab K12'.out g h).1;have:=HSTW.out;omega
    have hlp4:LoopAt r (w6.heap.size+1) w6.heap.size W4:=HLP9.out.keep (hcell _ _ HLP9.out.1 (λcs t e=>by cases e)) (hcell _ _ HLP9.out.2 (λcs t e=>by cases e));have HJ:=hidE hJ;have HLP4:=hidE hlp4;clear hJ hlp4 hM4 hlow hcc hcell d1 d2 d6;gi_wp2
    exact⟨⟨_,_,HPP.out.2.2,HJ.out⟩,HLP4.out⟩
end Go.Proofs.YtfafilmklhnngaaGreatDoor
