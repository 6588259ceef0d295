import Derived.Test.YtknkclefoiohpaaGreatDoorKaAH
set_option maxHeartbeats 12800000
namespace Go.Proofs.YtknkclefoiohpaaGreatDoor
open Go.RowKit Lx Tx Sx Go.Maps Go.WideMaps Go.Shelf
set_option maxRecDepth 100000
theorem zcr:∀args w,(callFunc 113 args).run Tryz.prog w=.ok (.enter 113 args) w:=enters_of Tryz.func113 (by kernel_rfl) rfl
theorem zpv:∀args w,(callFunc 116 args).run Tryz.prog w=.ok (.enter 116 args) w:=enters_of Tryz.func116 (by kernel_rfl) rfl
theorem ze3:∀args w,(callFunc 115 args).run Tryz.prog w=.ok (.enter 115 args) w:=enters_of Tryz.func115 (by kernel_rfl) rfl
theorem zhv {τ:Type}(ask:Nm->τ->Bool)(tr:Nm->τ->τ)(x:Nm)(s:τ):[x].take (noes ask tr [x] s+1)=[x]:=ur (by simp)
theorem znb {τ:Type}(ask:Nm->τ->Bool)(tr:Nm->τ->τ)(xs:List Nm)(s:τ)(h:xs[noes ask tr xs s]?=none):xs.take (noes ask tr xs s+1)=xs:=ur (by have:=List.getElem?_eq_none_iff.1 h;omega)
theorem zle {F:Nat} {ask:Nm->List Nm->Bool} {tr:Nm->List Nm->List Nm}(ek:∀args w,(callFunc F args).run Tryz.prog w=.ok (.enter F args) w)(mb:Nat)(HV:VisQ F #[.map (some mb)] 1000000 (JMet mb) ask tr)
  {da co:Nat} (nk:metB da co mb) {L:List Nm} {x:Nm} {c:Nat} {w W:World} {g k d:Nat} {Q:World->Prop} {ans:Option (Nm × Nat)}
  (hb:Below w.heap.size w W)(hm:MapE mkMet W mb (units L))(hmw:mb<w.heap.size)(hg:Blk W g 184 #[.slice (some ⟨k,0,none⟩) 1 1,.func (.func F) #[.map (some mb)] #[],.int .i64 (c:Nat)])(hk:Blk W k 9 #[.string ⟨x.toArray⟩])(kZ:w.heap.size<=g)(rX:w.heap.size<=k)
  (hx:x.length<=24)(hL:L.length+1<=1000000)(lO:ans=if ask x L=true then some (x,c) else none)
  (hQ:∀W',Chg (only mb) W W'->MapE mkMet W' mb (units (tr x L))->Q W'):LPostF da co w ans Q (.returned (.slice (some ⟨g,0,none⟩) 1 d)) W:=by
 obtain⟨I,hI⟩:∃I:Nat->World->Prop,I=λj W'=>Chg (only mb) W W'/\(j=0->MapE mkMet W' mb (units L))/\(0<j->MapE mkMet W' mb (units (tr x L))):=⟨_,rfl⟩;have aZ:∀j W',I j W'->W'.heap[g]?=W.heap[g]?/\W'.heap[k]?=W.heap[k]?:=by
  intro j W' h;rw[hI]at h
  exact⟨h.1.block g hg.lt (by unfold only;omega),h.1.block k hk.lt (by unfold only;omega)⟩
 refine⟨_,_,_,rfl,hb,?_⟩;refine(ze0 [⟨some ⟨k,0,none⟩,1,1,F,#[.map (some mb)],(c:Nat),([x][noes ask tr [x] L]?).map λx=>⟨x.toArray⟩⟩] I g 1 d W rfl (show 1<=100000 by omega) ?_ ?_ ?_ ?_).mono ?_
 ·intro j f hf W' hi
  have hh:=(aZ j W' hi).1;have eu:Blk W' g _ _:=hg.same hh;match j,hf with
  |0,hf =>
   simp at hf;subst hf;exact⟨eu.lt,eu.cell 0,eu.cell 1,eu.cell 2⟩
 ·intro j f hf
  match j,hf with
  |0,hf =>
   simp at hf;subst hf;refine⟨zbT (S:=λg=>g=k) ek mb HV (λW' hi=>⟨?_,?_,?_⟩) (by simpa using hx) hL ?_,show 1<=1000000 by omega⟩
   ·rw[hI]at hi
    exact hi.2.1 rfl
   ·intro _
    exact⟨k,rfl,rfl,by
     have:=zct (hk.same (aZ 0 W' hi).2);simpa[Sx.strV] using this⟩
   ·intro g' eu
    have e:g'=k:=eu;subst e;exact⟨(hk.same (aZ 0 W' hi).2).lt,by omega⟩
   ·intro W' Wc w' hi aC hc fk
    rw[zhv]at fk
    rw[hI]at hi ⊢
    exact⟨(hi.1.below aC).trans' hc (λi _ h=>h),λh=>by omega,λ_=>fk⟩
 ·rw[hI]
  exact⟨Chg.refl _ _,λ_=>hm,λh=>by omega⟩
 ·intro j W1 W2 h aC
  rw[hI]at h ⊢
  have ah:mb<W1.heap.size:=uO hm.lt h.1.size;exact⟨h.1.below aC,λe=>(h.2.1 e).keep (aC.block _ ah),λe=>(h.2.2 e).keep (aC.block _ ah)⟩
 ·rintro e w' ⟨rfl,j,hj,hi,dJ⟩
  rw[hI]at hi
  refine⟨hi.1.mono (λg' _ h=>by have e:g'=mb:=h;exact .inl (e▸nk)),_,_,rfl,?_,?_⟩
  ·intro bk
   have hf:ask x L=false:=by
    rw[lO]at bk
    cases ha:ask x L with
    |true=>rw[ha,ud rfl]at bk;cases bk
    |false=>rfl
   have hn:noes ask tr [x] L=1:=by rw[noes,ue (by rw[hf];decide)];rfl
   have hj1:j=1:=dJ (λj f hf=>by
    match j,hf with
    |0,hf =>
     simp at hf;subst hf;simp[hn])
   subst hj1;exact⟨by simp[fst1,hn],by simp[fst1,hn],hQ w' hi.1 (hi.2.2 (by omega))⟩
  ·intro y hy
   have ht:ask x L=true:=by
    rw[lO]at hy
    cases ha:ask x L with
    |true=>rfl
    |false=>rw[ha,ue (by decide)]at hy;cases hy
   rw[lO,ud ht]at hy
   injection hy with hy;subst hy;have hn:noes ask tr [x] L=0:=by rw[noes,ud ht]
   exact⟨by simp[fst1,hn],by simp[fst1,hn]⟩
def twRest(m:Mets)(ps:List Nm)(cs:List (Nm × Ty)):Option Nm:=match rep [] ps with
 |some x=>some x
 |none=>rep m.c (conNames cs)
theorem zeN {m:Mets} {ps:List Nm} {cs:List (Nm × Ty)} {y:Nm}(h:rep [] ps=some y):twRest m ps cs=some y:=by unfold twRest;rw[h]
theorem zeO {m:Mets} {ps:List Nm} {cs:List (Nm × Ty)}(h:rep [] ps=none):twRest m ps cs=rep m.c (conNames cs):=by unfold twRest;rw[h]
theorem zfp(m:Mets)(n:Nm)(ps:List Nm)(cs:List (Nm × Ty)):twOne m (.data n ps cs)=if n∈m.d then some n else twRest m ps cs:=rfl
def ITw(da fm co:Nat)(D C:List Nm)(W:World)(j:Nat)(W':World):Prop :=
 Chg (λg=>(0<j/\g=da)\/(1<j/\g=fm)\/(2<j/\g=co)) W W'/\(0<j->MapE mkMet W' da (units D))/\(2<j->MapE mkMet W' co (units C))
theorem zjB {da co fm:Nat}(ji:da≠co)(mB:da≠co+1)(lL:da≠co+2) {m:Mets} {n:Nm} {ps:List Nm} {cs:List (Nm × Ty)} {S:Nat->Prop} {V A:Option Addr} {v cp N nb fb d:Nat} {w W:World}
  (hM:MetsAt da co m W)(fM:∀g,metB da co g->g<w.heap.size)(hb:Below w.heap.size w W)(hfw:w.heap.size<=fm)(se:MapE mkMet W fm (units []))
  (jd:NmsIn S W ps V)(hS:∀g,S g->g<w.heap.size/\¬metB da co g)(hN:N=cs.length)(ao:NmsIn (λg=>w.heap.size<=g/\g<W.heap.size/\g≠fm) W (conNames cs) A)
  (hk:Blk W nb 9 #[.string ⟨n.toArray⟩])(rX:w.heap.size<=nb)(hkf:nb≠fm)
  (hg:Blk W fb 184 #[.slice (some ⟨nb,0,none⟩) 1 1,.func (.func 113) #[.map (some da)] #[],.int .i64 90,.slice V ps.length v,.func (.func 113) #[.map (some fm)] #[],.int .i64 90,.slice A N cp,.func (.func 113) #[.map (some co)] #[],.int .i64 90])(kZ:w.heap.size<=fb)(hgf:fb≠fm)
  (aG:m.size+ps.length+cs.length+1<=100000)(hn:n.length<=24)(dW:∀x∈ps,x.length<=24)(jD:∀x∈conNames cs,x.length<=24):LPostF da co w (za7 0 m (.data n ps cs)) (MetsAt da co (m.next (.data n ps cs))) (.returned (.slice (some ⟨fb,0,none⟩) 3 d)) W:=by
 have hdw:=fM da (.inl rfl);have pF:=fM co (.inr (.inl rfl));have gn:=fM (co+1) (.inr (.inr (.inl rfl)));have aX:=fM (co+2) (.inr (.inr (.inr rfl)));have pJ:=hb.size;unfold Mets.size at aG;have qx:(conNames cs).length=cs.length:=by simp[conNames]
 obtain⟨A0,sR⟩:∃a,[n][noes (λx L=>decide (x∈L)) (λx L=>L++[x]) [n] m.d]?=a:=⟨_,rfl⟩;obtain⟨A1,iD⟩:∃a,ps[noes (λx L=>decide (x∈L)) (λx L=>L++[x]) ps []]?=a:=⟨_,rfl⟩;obtain⟨A2,il⟩:∃a,(conNames cs)[noes (λx L=>decide (x∈L)) (λx L=>L++[x]) (conNames cs) m.c]?=a:=⟨_,rfl⟩;have r0:A0=if n∈m.d then some n else none:=by rw[<-sR,zcX [n] m.d m.d (λ_=>wC)];rfl
 have r1:A1=rep [] ps:=by rw[<-iD,zcX ps [] [] (λ_=>wC)]
 have r2:A2=rep m.c (conNames cs):=by rw[<-il,zcX _ m.c m.c (λ_=>wC)]
 obtain⟨C,hC⟩:∃C,m.c++(conNames cs).take (noes (λx L=>decide (x∈L)) (λx L=>L++[x]) (conNames cs) m.c+1)=C:=⟨_,rfl⟩;have an:∀j W1 W2,ITw da fm co (m.d++[n]) C W j W1->Below W1.heap.size W1 W2->ITw da fm co (m.d++[n]) C W j W2:=by
  intro j W1 W2 h aC;have s:=h.1.size;exact⟨h.1.below aC,λe=>(h.2.1 e).keep (aC.block _ (by omega)),λe=>(h.2.2 e).keep (aC.block _ (by omega))⟩
 refine⟨_,_,_,rfl,hb,?_⟩;refine(ze0 [⟨some ⟨nb,0,none⟩,1,1,113,#[.map (some da)],90,A0.map λx=>⟨x.toArray⟩⟩,⟨V,ps.length,v,113,#[.map (some fm)],90,A1.map λx=>⟨x.toArray⟩⟩,⟨A,N,cp,113,#[.map (some co)],90,A2.map λx=>⟨x.toArray⟩⟩] (ITw da fm co (m.d++[n]) C W) fb 3 d W rfl (show 3<=100000 by omega) ?_ ?_ ⟨Chg.refl _ _,λh=>by omega,λh=>by omega⟩ an).mono ?_
 ·intro j f hf W' hi
  have eu:Blk W' fb _ _:=hg.same (hi.1.block fb hg.lt (by omega));match j,hf with
  |0,hf=>simp at hf;subst hf;exact⟨eu.lt,eu.cell 0,eu.cell 1,eu.cell 2⟩
  |1,hf=>simp at hf;subst hf;exact⟨eu.lt,eu.cell 3,eu.cell 4,eu.cell 5⟩
  |2,hf=>simp at hf;subst hf;exact⟨eu.lt,eu.cell 6,eu.cell 7,eu.cell 8⟩
 ·intro j f hf
  match j,hf with
  |0,hf =>
   simp at hf;subst hf;rw[<-sR]
   refine⟨zbT (S:=λg=>g=nb) zcr da (zcb da 1000000 (tV _)) (λW' hi=>⟨hM.d.keep (hi.1.block _ hM.d.lt (by omega)),λ_=>⟨nb,rfl,rfl,?_⟩,?_⟩) (by simpa using hn) (by simp;omega) ?_,show 1<=1000000 by omega⟩
   ·have:=zct (hk.same (hi.1.block nb hk.lt (by omega)))
    simpa[Sx.strV] using this
   ·intro g' eu
    have e:g'=nb:=eu;subst e;exact⟨uO hk.lt hi.1.size,by omega⟩
   ·intro W' Wc w' hi aC hc fk
    rw[zhv]at fk
    refine⟨((hi.1.below aC).mono (λi _ h=>by omega)).trans' hc (λi _ h=>?_),λ_=>fk,λh=>by omega⟩;have e:i=da:=h;exact .inl ⟨by omega,e⟩
  |1,hf =>
   simp at hf;subst hf;rw[<-iD]
   refine⟨zbT (S:=S) zcr fm (zcb fm 1000000 (tV _)) (λW' hi=>⟨se.keep (hi.1.block _ se.lt (by omega)),jd.keep (λ_ h=>h) (λg hg=>?_),?_⟩) dW (by simp;omega) ?_,show ps.length<=1000000 by omega⟩
   ·have:=hS g hg
    exact hi.1.block g (by omega) (λe=>this.2 (by rcases e with e|e|e <;> simp at e;exact .inl e))
   ·intro g' eu
    have:=hS g' eu;exact⟨by have:=hi.1.size;omega,by omega⟩
   ·intro W' Wc w' hi aC hc _
    have s:=hi.1.size;refine⟨((hi.1.below aC).mono (λi _ h=>by omega)).trans' hc (λi _ h=>?_),λ_=>(hi.2.1 (by omega)).keep ((hc.block _ (by have:=aC.size;omega) (by unfold only;omega)).trans (aC.block _ (by omega))),λh=>by omega⟩;have e:i=fm:=h;exact .inr (.inl ⟨by omega,e⟩)
  |2,hf =>
   simp at hf;subst hf;rw[<-il,hN,<-qx]
   refine⟨zbT (S:=λg=>w.heap.size<=g/\g<W.heap.size/\g≠fm) zcr co (zcb co 1000000 (tV _)) (λW' hi=>⟨hM.c.keep (hi.1.block _ hM.c.lt (by omega)),ao.keep (λ_ h=>h) (λg hg=>?_),?_⟩) jD (by rw[qx];omega) ?_,show(conNames cs).length<=1000000 by omega⟩
   ·exact hi.1.block g hg.2.1 (by omega)
   ·intro g' eu
    exact⟨by have:=hi.1.size;omega,by omega⟩
   ·intro W' Wc w' hi aC hc fk
    have s:=hi.1.size;rw[zht,hC]at fk
    refine⟨((hi.1.below aC).mono (λi _ h=>by omega)).trans' hc (λi _ h=>?_),λ_=>(hi.2.1 (by omega)).keep ((hc.block _ (by have:=aC.size;omega) (by unfold only;omega)).trans (aC.block _ (by omega))),λ_=>fk⟩;have e:i=co:=h;exact .inr (.inr ⟨by omega,e⟩)
 ·rintro e w' ⟨rfl,j,hj,hi,dJ⟩
  refine⟨hi.1.mono (λg' _ h=>by
   rcases h with⟨-,h⟩|⟨-,h⟩|⟨-,h⟩
   ·exact .inl (.inl h)
   ·exact .inr (by omega)
   ·exact .inl (.inr (.inl h))),_,_,rfl,?_,?_⟩
  ·intro bk
   rw[show za7 0 m (.data n ps cs)=(twOne m (.data n ps cs)).map λy=>(y,90) from rfl,Option.map_eq_none_iff]at bk
   rw[zfp]at bk
   have eW:n∉m.d:=λh=>by rw[ud h]at bk;cases bk
   rw[ue eW]at bk
   rw[ue eW]at r0
   cases h1:rep [] ps with
   |some y=>rw[zeN h1]at bk;cases bk
   |none =>
    rw[zeO h1]at bk
    rw[h1]at r1
    rw[bk]at r2
    subst r0 r1 r2;have hj3:j=3:=dJ (λj f hf=>by
     match j,hf with
     |0,hf=>simp at hf;subst hf;rfl
     |1,hf=>simp at hf;subst hf;rfl
     |2,hf=>simp at hf;subst hf;rfl)
    subst hj3;have hCC:C=m.c++conNames cs:=by rw[<-hC,znb _ _ _ _ il]
    refine⟨rfl,rfl,hi.2.1 (by omega),(by have:=hi.2.2 (by omega);rw[hCC]at this;exact this),hM.s.keep (hi.1.block _ hM.s.lt (by omega)),hM.b.keep (hi.1.block _ hM.b.lt (by omega))⟩
  ·intro y hy
   rw[show za7 0 m (.data n ps cs)=(twOne m (.data n ps cs)).map λy=>(y,90) from rfl]at hy
   obtain⟨z,hz,rfl⟩:=Option.map_eq_some_iff.1 hy;rw[zfp]at hz
   by_cases eW:n∈m.d
   ·rw[ud eW]at hz r0
    injection hz with hz;subst hz r0;exact⟨rfl,rfl⟩
   ·rw[ue eW]at hz r0
    subst r0;cases h1:rep [] ps with
    |some y =>
     rw[zeN h1]at hz
     rw[h1]at r1
     injection hz with hz;subst hz r1;exact⟨rfl,rfl⟩
    |none =>
     rw[zeO h1]at hz
     rw[h1]at r1
     rw[hz]at r2
     subst r1 r2;exact⟨rfl,rfl⟩
set_option maxRecDepth 100000
theorem zaw {P:Program} {md:Region.Mode} {ops:Array Oper} {Q:Exit->Act->World->Prop} {S:World->Prop} {i d:Nat} {oi:Oper} {v:Value} {fuel:Nat} {listed:Array Bool} {a:Act} {w:World}(hi:ops[i]?=some oi)(hd:oi.dst=some d)
  (hs:Region.noSelect ops=true)(hf:Region.free md ops listed i=true)(hr:(Region.ready md ops listed).contains i=true)
  (hQ:∀c a w,Q (.panic c) (a.put oi.dst v) w->Q (.panic c) a w)(hy:YieldsIf P ops S oi v a)(hS:S w)
  (h:wpAnyH P md ops Q S fuel (listed.setIfInBounds i true) { tmps:=a.tmps.setIfInBounds d v,defers:=a.defers } w):wpAnyH P md ops Q S (fuel+1) listed a w:=by
 refine wpAnyH_take hi hs hf hr hQ hy hS ?_;rw[hd]
 exact h
theorem zlf {da co:Nat}(ji:da≠co)(mB:da≠co+1)(lL:da≠co+2) {m:Mets} {n:Nm} {ps:List Nm} {cs:List (Nm × Ty)} {S:Nat->Prop} {V A2:Option Addr} {v n2 c2 pl fm fb:Nat} {X:ByteArray} {w W1 Wm:World}(hfb:Wm.heap.size=fb)
  (hM:MetsAt da co m w)(jd:NmsIn S w ps V)(hS:∀g,S g->g<w.heap.size/\¬metB da co g)(aG:m.size+ps.length+cs.length+1<=100000)(ay:De.Ok (.data n ps cs))(hX:(⟨n.toArray⟩:ByteArray)=X)(dW:ps.length=pl)(fj:n2=cs.length)
  (aN:Below w.heap.size w W1)(bz:W1.heap.size=w.heap.size+1+1+1)(bn:Blk W1 (w.heap.size+1+1) 9 #[.string X])(hbm:Below W1.heap.size W1 Wm)(hfw:W1.heap.size<=fm)(se:MapE mkMet Wm fm (units []))
  (ao:NmsIn (λg=>W1.heap.size<=g/\g<Wm.heap.size/\g≠fm) Wm (conNames cs) A2):LPostF da co w (za7 0 m (.data n ps cs)) (MetsAt da co (m.next (.data n ps cs))) (.returned (.slice (some ⟨fb,0,none⟩) 3 3))
   (Wm.alloc (.cells #[.slice (some ⟨w.heap.size+1+1,0,none⟩) 1 1,.func (.func 113) #[.map (some da)] #[],.int .i64 90,.slice V pl v,.func (.func 113) #[.map (some fm)] #[],.int .i64 90,.slice A2 n2 c2,.func (.func 113) #[.map (some co)] #[],.int .i64 90] 184)):=by
 subst dW hfb;have bj:=aN.size;have hsm:=hbm.size;have aX:Below w.heap.size w Wm:=aN.trans (hbm.mono bj);have hfl:=se.lt;have hb:∀o,Below w.heap.size w (Wm.alloc o):=λo=>aX.alloc (by omega) o;have lW:∀ {k:Nat} {x:Nm},Gd k x->k<=2->x.length<=24:=λh hk=>zaQ h hk;refine zjB ji mB lL (hM.below (hb _)) hM.lt (hb _) (by omega) (se.keep (uc _ _ _ hfl)) (jd.keep (λ_ h=>h) (λg hg=>(hb _).block g (hS g hg).1)) hS fj
  (ao.keep (λg hg=>⟨by omega,by simp;omega,hg.2.2⟩) (λg hg=>uc _ _ _ hg.2.1)) (hX.symm▸(bn.below hbm (by omega)).alloc _) (by omega) (by omega) (tW _ _) (by omega) (by omega) aG (lW ay.1 (by decide)) (λx hx=>lW (ay.2.1 x hx) (by decide)) (λx hx=>?_)
 obtain⟨c,hc,rfl⟩:=wI.1 hx;exact lW (ay.2.2 c hc).1 (by decide)
theorem zgH {da co:Nat}(ji:da≠co)(mB:da≠co+1)(lL:da≠co+2)(m:Mets)(n:Nm)(ps:List Nm)(cs:List (Nm × Ty))(S:Nat->Prop)(V A:Option Addr)(v a:Nat)(w:World)
  (hM:MetsAt da co m w)(jd:NmsIn S w ps V)(au:LstG pcC S w cs A)(hS:∀g,S g->g<w.heap.size/\¬metB da co g)(aG:m.size+ps.length+cs.length+1<=100000)(ay:De.Ok (.data n ps cs)):Calls Tryz.prog 62 #[.agg #[.map (some da),.map (some co),.map (some (co+1)),.map (some (co+2))],
   .agg #[.int .i64 1,.string ⟨n.toArray⟩,.slice V ps.length v,.slice A cs.length a,.int .i64 0,.string ⟨#[]⟩,.int .i64 0,.slice none 0 0,.int .i64 0,.string ⟨#[]⟩,.bool false,.int .i64 0,.string ⟨#[]⟩,.int .i64 0,.slice none 0 0,.slice none 0 0,.slice none 0 0]] w
   (LPostF da co w (za7 0 m (.data n ps cs)) (MetsAt da co (m.next (.data n ps cs)))):=by
 have fk:∀w,(Instr.makeMap 123 none).run Tryz.prog w=.ok (.map (some w.heap.size)) (w.alloc (.map #[] 0)):=λ_=>rfl;obtain⟨X,hX⟩:∃X:ByteArray,⟨n.toArray⟩=X:=⟨_,rfl⟩;obtain⟨pl,dW⟩:∃k,ps.length=k:=⟨_,rfl⟩;obtain⟨cl,jD⟩:∃k,cs.length=k:=⟨_,rfl⟩;rw[hX,dW,jD]
 obtain⟨W,hW⟩:∃W,(w.alloc (.cells #[.map (some da),.map (some co),.map (some (co+1)),.map (some (co+2))] 125)).alloc (.cells #[.int .i64 1,.string X,.slice V pl v,.slice A cl a,.int .i64 0,.string ⟨#[]⟩,.int .i64 0,.slice none 0 0,.int .i64 0,.string ⟨#[]⟩,.bool false,.int .i64 0,.string ⟨#[]⟩,.int .i64 0,.slice none 0 0,.slice none 0 0,.slice none 0 0] 59)=W:=⟨_,rfl⟩;have hb:Below w.heap.size w W:=hW▸((ua _ w).alloc (tV _) _).alloc (by simp) _;have hz:W.heap.size=w.heap.size+1+1:=by rw[<-hW];simp
 have b1:Blk W (w.heap.size+1) 59 #[.int .i64 1,.string X,.slice V pl v,.slice A cl a,.int .i64 0,.string ⟨#[]⟩,.int .i64 0,.slice none 0 0,.int .i64 0,.string ⟨#[]⟩,.bool false,.int .i64 0,.string ⟨#[]⟩,.int .i64 0,.slice none 0 0,.slice none 0 0,.slice none 0 0]:=hW▸zaA _ _ _ _ rfl;have b0:Blk W w.heap.size 125 #[.map (some da),.map (some co),.map (some (co+1)),.map (some (co+2))]:=hW▸Blk.alloc (tW w _) _;have g0:W.cell? ⟨w.heap.size+1,0,none⟩=some (.int .i64 1):=b1.cell 0;have g1:W.cell? ⟨w.heap.size+1,1,none⟩=some (.string X):=b1.cell 1;obtain⟨W1,aL⟩:∃x,W.alloc (.cells #[.string X] 9)=x:=⟨_,rfl⟩;have bz:W1.heap.size=w.heap.size+1+1+1:=by rw[<-aL];simp[hz]
 have aN:Below w.heap.size w W1:=aL▸hb.alloc (by omega) _;have B0:=wJ (aL▸b0.alloc _:Blk W1 _ _ _);have B1:=wJ (aL▸b1.alloc _:Blk W1 _ _ _);have BN:=wJ (hz▸aL▸tW W _:Blk W1 (w.heap.size+1+1) 9 #[.string X]);have HC:Hid (∀U,Below W1.heap.size W1 U->Calls Tryz.prog 114 #[.slice A cl a] U (λe w'=>∃A2 n2 c2,e=.returned (.slice A2 n2 c2)/\n2=cl/\w'.ownsRow U.heap.size 9 1 (.slice A2 n2 c2) n2 ((conNames cs).map Sx.strV)/\Below U.heap.size U w'/\Below W1.heap.size W1 w')):=wJ (λU hU=>by
  have h:=zfL cs S A cl a U (au.keep (λ_ h=>h) (λg hg=>((aN.trans (hU.mono (by omega))).block g (hS g hg).1))) jD.symm (λg hg=>by have:=(hS g hg).1;have:=hU.size;omega) (by omega);refine h.mono ?_;rintro e w' ⟨A2,n2,c2,rfl,hn,hr,aC⟩;exact⟨A2,n2,c2,rfl,by rw[hn,<-jD];simp,hr,aC,hU.trans (aC.mono hU.size)⟩)
 have gA:Hid (∀U,Below W1.heap.size W1 U->(U.cell? ⟨w.heap.size,0,none⟩=some (.map (some da))/\U.cell? ⟨w.heap.size,1,none⟩=some (.map (some co))/\U.cell? ⟨w.heap.size+1,2,none⟩=some (.slice V pl v)/\U.cell? ⟨w.heap.size+1,3,none⟩=some (.slice A cl a))):=wJ λU hU=>by
  have c0:=B0.out.below hU (by omega);have c1:=B1.out.below hU (by omega);exact⟨c0.cell 0,c0.cell 1,c1.cell 2,c1.cell 3⟩
 have k0:W1.cell? ⟨w.heap.size+1,0,none⟩=some (.int .i64 1):=B1.out.cell 0;have aJ:=wJ aN;have BB:Hid (Below W1.heap.size W1 W1):=wJ (ua _ _);clear b0 b1 hb aN;go_enter Tryz.func62,Tryz.ntmps62
 go_upto_region 4 with fail
 try rw[hW]
 try rw[aL]
 clear hW aL g0 g1;refine wp_region_held_drew (S:=λU:World=>U.cell? ⟨w.heap.size,0,none⟩=some (.map (some da))/\U.cell? ⟨w.heap.size,1,none⟩=some (.map (some co))/\U.cell? ⟨w.heap.size+1,2,none⟩=some (.slice V pl v)/\U.cell? ⟨w.heap.size+1,3,none⟩=some (.slice A cl a)) (by kernel_rfl) ?_ (λhHeld=>?_)
 ·refine gA.out _ ?_;(repeat first|(with_reducible exact BB.out)|(with_reducible refine uQ ?_)|(with_reducible refine uN ?_ (by have:=BB.out.size;first|omega|(simp;done)|(simp;omega)) _))
 refine zaw (i:=0) (d:=13) (v:=?_) rfl rfl (by kernel_rfl) (by kernel_rfl) (by kernel_rfl) (λ_ _ _ h=>h) (Or.inl ⟨by rfl,?_⟩) (by assumption) ?_;rotate_left 1
 ·(intro w bm;(try dsimp only at bm);go_simp;(try with_reducible rfl))
 simp only[uh,uu,uv];refine zaw (i:=1) (d:=14) (v:=?_) rfl rfl (by kernel_rfl) (by kernel_rfl) (by kernel_rfl) (λ_ _ _ h=>h) (Or.inl ⟨by rfl,?_⟩) (by assumption) ?_;rotate_left 1
 ·(intro w bm;(try dsimp only at bm);go_simp;(try with_reducible rfl))
 simp only[uh,uu,uv];refine zaw (i:=2) (d:=15) (v:=?_) rfl rfl (by kernel_rfl) (by kernel_rfl) (by kernel_rfl) (λ_ _ _ h=>h) (Or.inl ⟨by rfl,?_⟩) (by assumption) ?_;rotate_left 1
 ·(intro w bm;(try dsimp only at bm);go_simp;(try with_reducible rfl))
 simp only[uh,uu,uv];refine zaw (i:=3) (d:=16) (v:=?_) rfl rfl (by kernel_rfl) (by kernel_rfl) (by kernel_rfl) (λ_ _ _ h=>h) (Or.inl ⟨by rfl,?_⟩) (by assumption) ?_;rotate_left 1
 ·(intro w bm;(try dsimp only at bm);go_simp;(try with_reducible rfl))
 simp only[uh,uu,uv];refine zaw (i:=4) (d:=17) (v:=?_) rfl rfl (by kernel_rfl) (by kernel_rfl) (by kernel_rfl) (λ_ _ _ h=>h) (Or.inl ⟨by rfl,?_⟩) (by assumption) ?_;rotate_left 1
 ·(intro w bm;(try dsimp only at bm);go_simp;(try with_reducible rfl))
 simp only[uh,uu,uv];refine zaw (i:=5) (d:=18) (v:=?_) rfl rfl (by kernel_rfl) (by kernel_rfl) (by kernel_rfl) (λ_ _ _ h=>h) (Or.inl ⟨by rfl,?_⟩) (by assumption) ?_;rotate_left 1
 ·(intro w bm;(try dsimp only at bm);go_simp;(try with_reducible rfl))
 simp only[uh,uu,uv];refine zaw (i:=6) (d:=19) (v:=?_) rfl rfl (by kernel_rfl) (by kernel_rfl) (by kernel_rfl) (λ_ _ _ h=>h) (Or.inl ⟨by rfl,?_⟩) (by assumption) ?_;rotate_left 1
 ·(intro w bm;(try dsimp only at bm);go_simp;(try with_reducible rfl))
 simp only[uh,uu,uv];refine zaw (i:=10) (d:=23) (v:=?_) rfl rfl (by kernel_rfl) (by kernel_rfl) (by kernel_rfl) (λ_ _ _ h=>h) (Or.inl ⟨by rfl,?_⟩) (by assumption) ?_;rotate_left 1
 ·(intro w bm;(try dsimp only at bm);go_simp;(try with_reducible rfl))
 simp only[uh,uu,uv];refine zaw (i:=11) (d:=24) (v:=?_) rfl rfl (by kernel_rfl) (by kernel_rfl) (by kernel_rfl) (λ_ _ _ h=>h) (Or.inl ⟨by rfl,?_⟩) (by assumption) ?_;rotate_left 1
 ·(intro w bm;(try dsimp only at bm);go_simp;(try with_reducible rfl))
 simp only[uh,uu,uv];refine zaw (i:=13) (d:=26) (v:=?_) rfl rfl (by kernel_rfl) (by kernel_rfl) (by kernel_rfl) (λ_ _ _ h=>h) (Or.inl ⟨by rfl,?_⟩) (by assumption) ?_;rotate_left 1
 ·(intro w bm;(try dsimp only at bm);go_simp;(try with_reducible rfl))
 simp only[uh,uu,uv];refine zaw (i:=14) (d:=27) (v:=?_) rfl rfl (by kernel_rfl) (by kernel_rfl) (by kernel_rfl) (λ_ _ _ h=>h) (Or.inl ⟨by rfl,?_⟩) (by assumption) ?_;rotate_left 1
 ·(intro w bm;(try dsimp only at bm);go_simp;(try with_reducible rfl))
 simp only[uh,uu,uv];refine zaw (i:=15) (d:=28) (v:=?_) rfl rfl (by kernel_rfl) (by kernel_rfl) (by kernel_rfl) (λ_ _ _ h=>h) (Or.inl ⟨by rfl,?_⟩) (by assumption) ?_;rotate_left 1
 ·(intro w bm;(try dsimp only at bm);go_simp;(try with_reducible rfl))
 simp only[uh,uu,uv];refine wpAnyH_ready (rs:=[7,12]) (by kernel_rfl) (by simp) ?_;refine AllReadyH.cons (i:=7) rfl (λK hK=>?_) ?_
 ·go_simp
  refine hK.out _ _ ?_ (λhHeld=>?_)
  ·try dsimp only
   refine gA.out _ ?_;(repeat first|(with_reducible exact BB.out)|(with_reducible refine uQ ?_)|(with_reducible refine uN ?_ (by have:=BB.out.size;first|omega|(simp;done)|(simp;omega)) _))
  clear hK K;refine zaw (i:=8) (d:=21) (v:=?_) rfl rfl (by kernel_rfl) (by kernel_rfl) (by kernel_rfl) (λ_ _ _ h=>h) (Or.inl ⟨by rfl,?_⟩) (by assumption) ?_;rotate_left 1
  ·(intro w bm;(try dsimp only at bm);go_simp;(try with_reducible rfl))
  simp only[uh,uu,uv];refine zaw (i:=9) (d:=22) (v:=?_) rfl rfl (by kernel_rfl) (by kernel_rfl) (by kernel_rfl) (λ_ _ _ h=>h) (Or.inl ⟨by rfl,?_⟩) (by assumption) ?_;rotate_left 1
  ·(intro w bm;(try dsimp only at bm);go_simp;(try with_reducible rfl))
  simp only[uh,uu,uv];refine wpAnyH_ready (rs:=[12]) (by kernel_rfl) (by simp) ?_;refine AllReadyH.cons (i:=12) rfl (λK hK=>?_) ?_
  ·go_simp
   with_reducible refine(HC.out _ (by(repeat first|(with_reducible exact BB.out)|(with_reducible refine uQ ?_)|(with_reducible refine uN ?_ (by have:=BB.out.size;first|omega|(simp;done)|(simp;omega)) _)))).mono ?_
   rintro e w2 ⟨A2,n2,c2,rfl,rfl,aw,b2,lY⟩;have dD:=wJ aw;have B2:=wJ b2;replace BB:=wJ lY;clear aw b2 lY HC;go_wp2_with fail
   refine hK.out _ _ ?_ (λhHeld=>?_)
   ·try dsimp only
    refine gA.out _ ?_;(repeat first|(with_reducible exact BB.out)|(with_reducible refine uQ ?_)|(with_reducible refine uN ?_ (by have:=BB.out.size;first|omega|(simp;done)|(simp;omega)) _))
   clear hK K;refine zaw (i:=16) (d:=29) (v:=?_) rfl rfl (by kernel_rfl) (by kernel_rfl) (by kernel_rfl) (λ_ _ _ h=>h) (Or.inl ⟨by rfl,?_⟩) (by assumption) ?_;rotate_left 1
   ·(intro w bm;(try dsimp only at bm);go_simp;(try with_reducible rfl))
   simp only[uh,uu,uv];refine wpAnyH_ready (rs:=[17]) (by kernel_rfl) (by simp) ?_;refine AllReadyH.cons (i:=17) rfl (λK hK=>?_) ?_
   ·go_simp
    refine hK.out _ _ ?_ (λhHeld=>?_)
    ·try dsimp only
     refine gA.out _ ?_;(repeat first|(with_reducible exact BB.out)|(with_reducible refine uQ ?_)|(with_reducible refine uN ?_ (by have:=BB.out.size;first|omega|(simp;done)|(simp;omega)) _))
    clear hK K;refine zaw (i:=18) (d:=4) (v:=?_) rfl rfl (by kernel_rfl) (by kernel_rfl) (by kernel_rfl) (λ_ _ _ h=>h) (Or.inl ⟨by rfl,?_⟩) (by assumption) ?_;rotate_left 1
    ·(intro w bm;(try dsimp only at bm);go_simp;(try with_reducible rfl))
    simp only[uh,uu,uv];refine wpAnyH_done (by kernel_rfl) ?_ _;go_wp2_with fail
    go_ret
    exact zlf (hfb:=rfl) ji mB lL hM jd hS aG ay hX dW jD.symm aJ.out bz BN.out BB.out (Nat.le_of_eq bz) (((bz▸MapE.made mkMet W1:MapE mkMet _ _ _).keep (w':=(W1.alloc (.map #[] 0)).drew) rfl).keep (B2.out.block _ (by simp;omega))) ((zbX (by rw[<-jD];simp[conNames]) dD.out).keep (λg hg=>⟨by have:=hg.1;simp at this;omega,hg.2,by have:=hg.1;simp at this;omega⟩) (λ_ _=>rfl))
   exact AllReadyH.nil
  exact AllReadyH.nil
 refine AllReadyH.cons (i:=12) rfl (λK hK=>?_) ?_
 ·go_simp
  with_reducible refine(HC.out _ (by(repeat first|(with_reducible exact BB.out)|(with_reducible refine uQ ?_)|(with_reducible refine uN ?_ (by have:=BB.out.size;first|omega|(simp;done)|(simp;omega)) _)))).mono ?_
  rintro e w2 ⟨A2,n2,c2,rfl,rfl,aw,b2,lY⟩;have dD:=wJ aw;have B2:=wJ b2;replace BB:=wJ lY;clear aw b2 lY HC;go_wp2_with fail
  refine hK.out _ _ ?_ (λhHeld=>?_)
  ·try dsimp only
   refine gA.out _ ?_;(repeat first|(with_reducible exact BB.out)|(with_reducible refine uQ ?_)|(with_reducible refine uN ?_ (by have:=BB.out.size;first|omega|(simp;done)|(simp;omega)) _))
  clear hK K;refine zaw (i:=16) (d:=29) (v:=?_) rfl rfl (by kernel_rfl) (by kernel_rfl) (by kernel_rfl) (λ_ _ _ h=>h) (Or.inl ⟨by rfl,?_⟩) (by assumption) ?_;rotate_left 1
  ·(intro w bm;(try dsimp only at bm);go_simp;(try with_reducible rfl))
  simp only[uh,uu,uv];refine wpAnyH_ready (rs:=[7]) (by kernel_rfl) (by simp) ?_;refine AllReadyH.cons (i:=7) rfl (λK hK=>?_) ?_
  ·go_simp
   refine hK.out _ _ ?_ (λhHeld=>?_)
   ·try dsimp only
    refine gA.out _ ?_;(repeat first|(with_reducible exact BB.out)|(with_reducible refine uQ ?_)|(with_reducible refine uN ?_ (by have:=BB.out.size;first|omega|(simp;done)|(simp;omega)) _))
   clear hK K;refine zaw (i:=8) (d:=21) (v:=?_) rfl rfl (by kernel_rfl) (by kernel_rfl) (by kernel_rfl) (λ_ _ _ h=>h) (Or.inl ⟨by rfl,?_⟩) (by assumption) ?_;rotate_left 1
   ·(intro w bm;(try dsimp only at bm);go_simp;(try with_reducible rfl))
   simp only[uh,uu,uv];refine zaw (i:=9) (d:=22) (v:=?_) rfl rfl (by kernel_rfl) (by kernel_rfl) (by kernel_rfl) (λ_ _ _ h=>h) (Or.inl ⟨by rfl,?_⟩) (by assumption) ?_;rotate_left 1
   ·(intro w bm;(try dsimp only at bm);go_simp;(try with_reducible rfl))
   simp only[uh,uu,uv];refine wpAnyH_ready (rs:=[17]) (by kernel_rfl) (by simp) ?_;refine AllReadyH.cons (i:=17) rfl (λK hK=>?_) ?_
   ·go_simp
    refine hK.out _ _ ?_ (λhHeld=>?_)
    ·try dsimp only
     refine gA.out _ ?_;(repeat first|(with_reducible exact BB.out)|(with_reducible refine uQ ?_)|(with_reducible refine uN ?_ (by have:=BB.out.size;first|omega|(simp;done)|(simp;omega)) _))
    clear hK K;refine zaw (i:=18) (d:=4) (v:=?_) rfl rfl (by kernel_rfl) (by kernel_rfl) (by kernel_rfl) (λ_ _ _ h=>h) (Or.inl ⟨by rfl,?_⟩) (by assumption) ?_;rotate_left 1
    ·(intro w bm;(try dsimp only at bm);go_simp;(try with_reducible rfl))
    simp only[uh,uu,uv];refine wpAnyH_done (by kernel_rfl) ?_ _;go_wp2_with fail
    go_ret
    exact zlf (hfb:=by simp) ji mB lL hM jd hS aG ay hX dW jD.symm aJ.out bz BN.out (BB.out.alloc BB.out.size _) BB.out.size (MapE.made mkMet w2) ((zbX (by rw[<-jD];simp[conNames]) dD.out).keep (λg hg=>⟨by have:=hg.1;simp at this;omega,by have:=hg.2;simp;omega,by omega⟩) (λg hg=>uc _ _ _ hg.2))
   exact AllReadyH.nil
  exact AllReadyH.nil
 exact AllReadyH.nil
set_option maxRecDepth 100000
theorem zhw(da co si bi:Nat)(X:ByteArray)(A0:Option Addr)(m0 c0:Nat)(A1:Option Addr)(m1 c1:Nat)(K0:Int)(X0:ByteArray)(Z0:Int)(B0:Option Addr)(n0 d0:Nat)(k1:Int)(X1:ByteArray)(t1:Bool)(K1:Int)(X2:ByteArray)(Z1:Int)(B1:Option Addr)(n1 d1:Nat)(C1:Option Addr)(p1 e1:Nat)(D1:Option Addr)(q1 f1:Nat)(w:World):Calls Tryz.prog 62 #[.agg #[.map (some da),.map (some co),.map (some si),.map (some bi)],
   .agg #[.int .i64 2,.string X,.slice A0 m0 c0,.slice A1 m1 c1,.int .i64 K0,.string X0,.int .i64 Z0,.slice B0 n0 d0,.int .i64 k1,.string X1,.bool t1,.int .i64 K1,.string X2,.int .i64 Z1,.slice B1 n1 d1,.slice C1 p1 e1,.slice D1 q1 f1]] w (OneFault w X 113 si 90):=by
 obtain⟨W,hW⟩:∃W,(w.alloc (.cells #[.map (some da),.map (some co),.map (some si),.map (some bi)] 125)).alloc (.cells #[.int .i64 2,.string X,.slice A0 m0 c0,.slice A1 m1 c1,.int .i64 K0,.string X0,.int .i64 Z0,.slice B0 n0 d0,.int .i64 k1,.string X1,.bool t1,.int .i64 K1,.string X2,.int .i64 Z1,.slice B1 n1 d1,.slice C1 p1 e1,.slice D1 q1 f1] 59)=W:=⟨_,rfl⟩;have hb:Below w.heap.size w W:=hW▸((ua _ w).alloc (tV _) _).alloc (by simp) _;have hz:W.heap.size=w.heap.size+1+1:=by rw[<-hW];simp
 have b1:Blk W (w.heap.size+1) 59 #[.int .i64 2,.string X,.slice A0 m0 c0,.slice A1 m1 c1,.int .i64 K0,.string X0,.int .i64 Z0,.slice B0 n0 d0,.int .i64 k1,.string X1,.bool t1,.int .i64 K1,.string X2,.int .i64 Z1,.slice B1 n1 d1,.slice C1 p1 e1,.slice D1 q1 f1]:=hW▸zaA _ _ _ _ rfl;have b0:Blk W w.heap.size 125 #[.map (some da),.map (some co),.map (some si),.map (some bi)]:=hW▸Blk.alloc (tW w _) _;have g0:W.cell? ⟨w.heap.size+1,0,none⟩=some (.int .i64 2):=b1.cell 0;have g1:W.cell? ⟨w.heap.size+1,1,none⟩=some (.string X):=b1.cell 1;have g2:W.cell? ⟨w.heap.size,2,none⟩=some (.map (some si)):=b0.cell 2;have HB:=wJ hb;clear b0 b1 hb;go_enter Tryz.func62,Tryz.ntmps62
 go_wp2_with fail
 go_ret
 refine⟨w.heap.size+1+1+1,w.heap.size+1+1,rfl,by omega,by omega,by omega,?_,?_,(HB.out.alloc (by omega) _).alloc (by simp;omega) _⟩
 ·rw[<-hz]
  exact zaA _ _ _ _ rfl
 ·rw[<-hz]
  exact Blk.alloc (tW W _) _
theorem zgI(da co si bi:Nat)(X:ByteArray)(A0:Option Addr)(m0 c0:Nat)(A1:Option Addr)(m1 c1:Nat)(K0:Int)(X0:ByteArray)(Z0:Int)(B0:Option Addr)(n0 d0:Nat)(k1:Int)(X1:ByteArray)(t1:Bool)(K1:Int)(X2:ByteArray)(Z1:Int)(B1:Option Addr)(n1 d1:Nat)(C1:Option Addr)(p1 e1:Nat)(D1:Option Addr)(q1 f1:Nat)(w:World):Calls Tryz.prog 62 #[.agg #[.map (some da),.map (some co),.map (some si),.map (some bi)],
   .agg #[.int .i64 3,.string X,.slice A0 m0 c0,.slice A1 m1 c1,.int .i64 K0,.string X0,.int .i64 Z0,.slice B0 n0 d0,.int .i64 k1,.string X1,.bool t1,.int .i64 K1,.string X2,.int .i64 Z1,.slice B1 n1 d1,.slice C1 p1 e1,.slice D1 q1 f1]] w (OneFault w X 113 bi 90):=by
 obtain⟨W,hW⟩:∃W,(w.alloc (.cells #[.map (some da),.map (some co),.map (some si),.map (some bi)] 125)).alloc (.cells #[.int .i64 3,.string X,.slice A0 m0 c0,.slice A1 m1 c1,.int .i64 K0,.string X0,.int .i64 Z0,.slice B0 n0 d0,.int .i64 k1,.string X1,.bool t1,.int .i64 K1,.string X2,.int .i64 Z1,.slice B1 n1 d1,.slice C1 p1 e1,.slice D1 q1 f1] 59)=W:=⟨_,rfl⟩;have hb:Below w.heap.size w W:=hW▸((ua _ w).alloc (tV _) _).alloc (by simp) _;have hz:W.heap.size=w.heap.size+1+1:=by rw[<-hW];simp
 have b1:Blk W (w.heap.size+1) 59 #[.int .i64 3,.string X,.slice A0 m0 c0,.slice A1 m1 c1,.int .i64 K0,.string X0,.int .i64 Z0,.slice B0 n0 d0,.int .i64 k1,.string X1,.bool t1,.int .i64 K1,.string X2,.int .i64 Z1,.slice B1 n1 d1,.slice C1 p1 e1,.slice D1 q1 f1]:=hW▸zaA _ _ _ _ rfl;have b0:Blk W w.heap.size 125 #[.map (some da),.map (some co),.map (some si),.map (some bi)]:=hW▸Blk.alloc (tW w _) _;have g0:W.cell? ⟨w.heap.size+1,0,none⟩=some (.int .i64 3):=b1.cell 0;have g1:W.cell? ⟨w.heap.size+1,1,none⟩=some (.string X):=b1.cell 1;have g2:W.cell? ⟨w.heap.size,3,none⟩=some (.map (some bi)):=b0.cell 3;have HB:=wJ hb;clear b0 b1 hb;go_enter Tryz.func62,Tryz.ntmps62
 go_wp2_with fail
 go_ret
 refine⟨w.heap.size+1+1+1,w.heap.size+1+1,rfl,by omega,by omega,by omega,?_,?_,(HB.out.alloc (by omega) _).alloc (by simp;omega) _⟩
 ·rw[<-hz]
  exact zaA _ _ _ _ rfl
 ·rw[<-hz]
  exact Blk.alloc (tW W _) _
theorem OneFault.post {ask:Nm->List Nm->Bool} {tr:Nm->List Nm->List Nm} {F mb da co c:Nat} {L:List Nm} {x:Nm} {X:ByteArray} {w:World} {Q:World->Prop} {ans:Option (Nm × Nat)}
  (ek:∀args w,(callFunc F args).run Tryz.prog w=.ok (.enter F args) w)(HV:VisQ F #[.map (some mb)] 1000000 (JMet mb) ask tr)(hX:(⟨x.toArray⟩:ByteArray)=X)(nk:metB da co mb)(hm:MapE mkMet w mb (units L))(hx:x.length<=24)(hL:L.length+1<=1000000)
  (lO:ans=if ask x L=true then some (x,c) else none) {ci:Int}(hc:ci=(c:Nat))(hQ:∀W W',Below w.heap.size w W->Chg (only mb) W W'->MapE mkMet W' mb (units (tr x L))->Q W'):∀e w',OneFault w X F mb ci e w'->LPostF da co w ans Q e w':=by
 subst hc;rintro e w' ⟨g,k,rfl,hg,hk,hgk,h1,h2,h3⟩;exact zle (w:=w) ek mb HV nk h3 (hm.keep (h3.block _ hm.lt)) hm.lt h1 (hX▸h2) hg hk hx hL lO (λW' c1 c2=>hQ w' W' h3 c1 c2)
theorem zlg {p:Prop} [Decidable p] {α:Type}(a b:α):(if decide p=true then a else b)=if p then a else b:=by
 by_cases h:p
 ·rw[ud h,ud (uB h)]
 ·rw[ue h,ue (by rw[ux h];decide)]
theorem zoE {p:Prop} [Decidable p] {α:Type}(a b:α):(if(!decide p)=true then a else b)=if p then b else a:=by
 by_cases h:p
 ·rw[ud h,uB h];rfl
 ·rw[ue h,ux h];rfl
theorem zoF {da co:Nat}(h:da<co):da≠co/\da≠co+1/\da≠co+2:=by omega
theorem MetsAt.set_s {da co:Nat}(hd:da<co) {m:Mets} {w W W':World} {L:List Nm}(h:MetsAt da co m w)(hb:Below w.heap.size w W)(hc:Chg (only (co+1)) W W')(hm:MapE mkMet W' (co+1) (units L)):MetsAt da co { m with s:=L } W':=by
 have h2:=h.below hb;exact⟨h2.d.keep (hc.block _ h2.d.lt (by unfold only;omega)),h2.c.keep (hc.block _ h2.c.lt (by unfold only;omega)),hm,h2.b.keep (hc.block _ h2.b.lt (by unfold only;omega))⟩
theorem MetsAt.set_b {da co:Nat}(hd:da<co) {m:Mets} {w W W':World} {L:List Nm}(h:MetsAt da co m w)(hb:Below w.heap.size w W)(hc:Chg (only (co+2)) W W')(hm:MapE mkMet W' (co+2) (units L)):MetsAt da co { m with b:=L } W':=by
 have h2:=h.below hb;exact⟨h2.d.keep (hc.block _ h2.d.lt (by unfold only;omega)),h2.c.keep (hc.block _ h2.c.lt (by unfold only;omega)),h2.s.keep (hc.block _ h2.s.lt (by unfold only;omega)),hm⟩
theorem zdg(e:Ex)(P:Pls):∃(k:Int)(x:ByteArray)(t:Bool)(K:Int)(X:ByteArray)(Z:Int)(B:Option Addr)(m q:Nat)(KA:Option Addr)(kn kc:Nat)(LA:Option Addr)(ln lc:Nat),exC e P=[.int .i64 k,.string x,.bool t,.int .i64 K,.string X,.int .i64 Z,.slice B m q,.slice KA kn kc,.slice LA ln lc]:=by
 obtain⟨K,X,Z,B,m,q,hs⟩:=zaT (tyE e) P.A P.a;refine⟨(kdE e:Nat),⟨(nmE e).toArray⟩,toE e,K,X,Z,B,m,q,P.K,(zac e).length,(zac e).length+P.k,P.L,(zad e).length,P.l,?_⟩;rw[exC,hs]
 rfl
theorem znc {da co:Nat}(hd:da<co)(m:Mets)(x:De)(S:Nat->Prop)(cs:List Value)(w:World)(hM:MetsAt da co m w)(hv:pcD.Cs S w x cs)(hS:∀g,S g->g<w.heap.size/\¬metB da co g)(aG:m.size+x.wt<=90000)(ay:De.Ok x):Calls Tryz.prog 62 #[.agg #[.map (some da),.map (some co),.map (some (co+1)),.map (some (co+2))],.agg cs.toArray] w (LPostF da co w (za7 0 m x) (MetsAt da co (zaS 0 m x))):=by
 obtain⟨ji,mB,lL⟩:=zoF hd;unfold Mets.size at aG;cases x with
 |data n ps l =>
  obtain⟨V,v,A,a,rfl,h1,h2⟩:=hv;have hl:l.length<=za2 l:=by
   clear h2 ay aG;induction l with
   |nil=>exact tV _
   |cons c r ih=>simp only[ui,za2,conW];omega
  exact zgH ji mB lL m n ps l S V A v a w hM h1 h2 hS (by unfold Mets.size;simp only[De.wt]at aG;omega) ay
 |sig n t =>
  obtain⟨A,a,rfl,-⟩:=hv;obtain⟨K,X,Z,B,mm,q,hs⟩:=zaT (some t) A a;have lE:za7 0 m (.sig n t)=if decide (n∈m.s)=true then some (n,90) else none:=by
   rw[zlg]
   show(twOne m (.sig n t)).map (λy=>(y,90))=_;unfold twOne;by_cases h:n∈m.s <;> simp[h]
  refine(zhw da co (co+1) (co+2) ⟨n.toArray⟩ none 0 0 none 0 0 K X Z B mm q 0 ⟨#[]⟩ false 0 ⟨#[]⟩ 0 none 0 0 none 0 0 none 0 0 w |> λh=>?_);rw[show([.int .i64 2,Sx.strV n,.slice none 0 0,.slice none 0 0]++tyV t A a++exZl).toArray=#[.int .i64 2,.string ⟨n.toArray⟩,.slice none 0 0,.slice none 0 0,.int .i64 K,.string X,.int .i64 Z,.slice B mm q,.int .i64 0,.string ⟨#[]⟩,.bool false,.int .i64 0,.string ⟨#[]⟩,.int .i64 0,.slice none 0 0,.slice none 0 0,.slice none 0 0] by rw[show tyV t A a=tyC (some t) A a from rfl,hs];rfl]
  exact h.mono (OneFault.post zcr (zcb _ _ (tV _)) rfl (.inr (.inr (.inl rfl))) hM.s (zaQ ay.1 (by decide)) (by omega) lE rfl (λW W' hb hc hm=>hM.set_s hd hb hc hm))
 |bind n e =>
  obtain⟨P,rfl,-⟩:=hv;have lE:za7 0 m (.bind n e)=if decide (n∈m.b)=true then some (n,90) else none:=by
   rw[zlg]
   show(twOne m (.bind n e)).map (λy=>(y,90))=_;unfold twOne;by_cases h:n∈m.b <;> simp[h]
  obtain⟨k1,x1,t1,K1,X1,Z1,B1,m1,q1,cE,cz,cA,cD,cw,cy,hs⟩:=zdg e P;refine(zgI da co (co+1) (co+2) ⟨n.toArray⟩ none 0 0 none 0 0 0 ⟨#[]⟩ 0 none 0 0 k1 x1 t1 K1 X1 Z1 B1 m1 q1 cE cz cA cD cw cy w |> λh=>?_);rw[show([.int .i64 3,Sx.strV n,.slice none 0 0,.slice none 0 0]++tyZl++exC e P).toArray=#[.int .i64 3,.string ⟨n.toArray⟩,.slice none 0 0,.slice none 0 0,.int .i64 0,.string ⟨#[]⟩,.int .i64 0,.slice none 0 0,.int .i64 k1,.string x1,.bool t1,.int .i64 K1,.string X1,.int .i64 Z1,.slice B1 m1 q1,.slice cE cz cA,.slice cD cw cy] by rw[hs];rfl]
  exact h.mono (OneFault.post zcr (zcb _ _ (tV _)) rfl (.inr (.inr (.inr rfl))) hM.b (zaQ ay.1 (by decide)) (by omega) lE rfl (λW W' hb hc hm=>hM.set_b hd hb hc hm))
set_option maxRecDepth 100000
theorem znd {da co:Nat}(hd:da<co)(m:Mets)(x:De)(S:Nat->Prop)(cs:List Value)(w:World)(hM:MetsAt da co m w)(hv:pcD.Cs S w x cs)(aG:m.size+x.wt<=90000)(ay:De.Ok x):Calls Tryz.prog 63 #[.agg #[.map (some da),.map (some co),.map (some (co+1)),.map (some (co+2))],.agg cs.toArray] w (LPostF da co w (za7 1 m x) (MetsAt da co (zaS 1 m x))):=by
 unfold Mets.size at aG;have bk:∀e w',(e=.returned (.slice none 0 0)/\Below w.heap.size w w')->LPostF da co w none (MetsAt da co m) e w':=by
  rintro e w' ⟨rfl,hb⟩;exact LPostF.none hb (λW h=>(hM.below hb).below h)
 cases x with
 |data n ps l =>
  obtain⟨V,v,A,a,rfl,-⟩:=hv;exact(ze1 da co (co+1) (co+2) 1 ⟨n.toArray⟩ V ps.length v A l.length a 0 ⟨#[]⟩ 0 none 0 0 0 ⟨#[]⟩ false 0 ⟨#[]⟩ 0 none 0 0 none 0 0 none 0 0 w).mono bk
 |sig n t =>
  obtain⟨A,a,rfl,-⟩:=hv;obtain⟨K,X,Z,B,mm,q,hs⟩:=zaT (some t) A a;have lE:za7 1 m (.sig n t)=if(!decide (n∈m.b))=true then some (n,92) else none:=by rw[zoE];rfl
  rw[show([.int .i64 2,Sx.strV n,.slice none 0 0,.slice none 0 0]++tyV t A a++exZl).toArray=#[.int .i64 2,.string ⟨n.toArray⟩,.slice none 0 0,.slice none 0 0,.int .i64 K,.string X,.int .i64 Z,.slice B mm q,.int .i64 0,.string ⟨#[]⟩,.bool false,.int .i64 0,.string ⟨#[]⟩,.int .i64 0,.slice none 0 0,.slice none 0 0,.slice none 0 0] by rw[show tyV t A a=tyC (some t) A a from rfl,hs];rfl]
  exact(ze1 da co (co+1) (co+2) 2 ⟨n.toArray⟩ none 0 0 none 0 0 K X Z B mm q 0 ⟨#[]⟩ false 0 ⟨#[]⟩ 0 none 0 0 none 0 0 none 0 0 w).mono
   (OneFault.post (c:=92) ze3 (zej _ _) rfl (.inr (.inr (.inr rfl))) hM.b (zaQ ay.1 (by decide)) (by omega) lE rfl (λW W' hb hc hm=>hM.set_b hd hb hc hm))
 |bind n e =>
  obtain⟨P,rfl,-⟩:=hv;obtain⟨k1,x1,t1,K1,X1,Z1,B1,m1,q1,cE,cz,cA,cD,cw,cy,hs⟩:=zdg e P;rw[show([.int .i64 3,Sx.strV n,.slice none 0 0,.slice none 0 0]++tyZl++exC e P).toArray=#[.int .i64 3,.string ⟨n.toArray⟩,.slice none 0 0,.slice none 0 0,.int .i64 0,.string ⟨#[]⟩,.int .i64 0,.slice none 0 0,.int .i64 k1,.string x1,.bool t1,.int .i64 K1,.string X1,.int .i64 Z1,.slice B1 m1 q1,.slice cE cz cA,.slice cD cw cy] by rw[hs];rfl]
  exact(ze1 da co (co+1) (co+2) 3 ⟨n.toArray⟩ none 0 0 none 0 0 0 ⟨#[]⟩ 0 none 0 0 k1 x1 t1 K1 X1 Z1 B1 m1 q1 cE cz cA cD cw cy w).mono bk
structure BF where
 V:Option Addr
 n:Nat
 v:Nat
 f:Nat
def BF.cells(r:BF):List Value:=[.slice r.V r.n r.v,.func (.func 113) #[.map (some r.f)] #[],.int .i64 90]
structure MisI (E:Nat->Prop) (w0:World) (pb base:Nat) (v0:List Value) (x0:List Nm) (V0:Option Addr) (c:Nat) (s:List (List Nm)) (L:List BF) (M:Nat->Prop) (w:World):Prop where
 len:s.length<=c
 ll:L.length=s.length
 recs:∀(i:Nat) (xs:List Nm) (r:BF),s[i]?=some xs->L[i]?=some r->r.n=xs.length/\NmsIn (λg=>g<w.heap.size/\¬M g) w xs r.V/\(∀x∈xs,x.length<=24)/\MapE mkMet w r.f (units [])/\M r.f/\r.f≠pb/\base<=r.f
 nd:(L.map BF.f).Nodup
 nm0:NmsIn (λg=>(g<w.heap.size/\¬M g)/\base<=g) w x0 V0
 low:M pb/\base<=pb
 old:∀g,E g->M g/\g<base/\w.heap[g]?=w0.heap[g]?
 all:∀g,M g->g<w.heap.size/\(base<=g\/E g)
 row:∃g cp,Blk w pb 129 #[.slice (some ⟨g,0,none⟩) (s.length+1) cp]/\w.ownsRow base 184 3 (.slice (some ⟨g,0,none⟩) (s.length+1) cp) (s.length+1) (v0++L.flatMap BF.cells)/\M g/\g≠pb/\∀r∈L,r.f≠g
def IMis(E:Nat->Prop)(w0:World)(pb base:Nat)(v0:List Value)(x0:List Nm)(V0:Option Addr)(c:Nat)(s:List (List Nm))(M:Nat->Prop)(w:World):Prop:=∃L,MisI E w0 pb base v0 x0 V0 c s L M w
theorem IMis.inv(E:Nat->Prop)(w0:World)(pb base:Nat)(v0:List Value)(x0:List Nm)(V0:Option Addr):InvB (IMis E w0 pb base v0 x0 V0) where
 lt:=λ_ _ _ _ ⟨_,h⟩ g hg=>(h.all g hg).1
 keep:=λc s M w w' ⟨L,h⟩ hb=>⟨L,{
                      len:=h.len,ll:=h.ll,nd:=h.nd,low:=h.low
                      recs:=λi xs r h1 h2=>by
                       obtain⟨a1,a2,a3,a4,a5,a6⟩:=h.recs i xs r h1 h2;exact⟨a1,a2.keep (λg hg=>⟨uO hg.1 hb.size,hg.2⟩) (λg hg=>hb.block g hg.1),a3,a4.keep (hb.block _ a4.lt),a5,a6⟩
                      nm0:=h.nm0.keep (λg hg=>⟨⟨uO hg.1.1 hb.size,hg.1.2⟩,hg.2⟩) (λg hg=>hb.block g hg.1.1)
                      old:=λg hg=>⟨(h.old g hg).1,(h.old g hg).2.1,(hb.block g (h.all g (h.old g hg).1).1).trans (h.old g hg).2.2⟩
                      all:=λg hg=>⟨uO (h.all g hg).1 hb.size,(h.all g hg).2⟩
                      row:=by
                       obtain⟨g,cp,h1,h2,h3,h4⟩:=h.row;exact⟨g,cp,h1.below hb h1.lt,zbi h2 (λa ha=>by injection ha with ha;subst ha;exact hb.block g (h.all g h3).1),h3,h4⟩ }⟩
def stM(ev:Ev)(s:List (List Nm)):List (List Nm):=match ev with
 |.bi xs=>s++[xs]
 |_=>s
theorem infoFa:(Tryz.prog.info? 184).map (λi=>(i.zero,i.size,i.bytes))=some (some (.agg #[.slice none 0 0,.nilFunc,.int .i64 0]),3,40):=by kernel_rfl
theorem zlh {ev:Ev}(h:evW ev≠2)(s:List (List Nm)):stM ev s=s:=by
 cases ev <;> first|rfl|exact absurd rfl h
theorem zpW {ev:Ev}(h:evW ev=2):∃xs,ev=.bi xs:=by
 cases ev <;> first|exact⟨_,rfl⟩|(simp[evW]at h)
theorem MisI.add {E:Nat->Prop} {w0:World} {pb base:Nat} {v0:List Value} {x0:List Nm} {V0:Option Addr} {c:Nat} {s:List (List Nm)} {L:List BF} {M:Nat->Prop} {w w5:World}(h:MisI E w0 pb base v0 x0 V0 c s L M w) {g cp:Nat}
  (hb:Blk w pb 129 #[.slice (some ⟨g,0,none⟩) (s.length+1) cp])(k2:w.ownsRow base 184 3 (.slice (some ⟨g,0,none⟩) (s.length+1) cp) (s.length+1) (v0++L.flatMap BF.cells))(hM:M g)(hgp:g≠pb)(bf:∀r∈L,r.f≠g) {xs:List Nm} {V:Option Addr} {v:Nat} {S:Nat->Prop}(hx:NmsIn S w xs V)(hS:∀g,S g->g<w.heap.size/\¬M g)(eO:∀x∈xs,x.length<=24)
  {w2:World} (h2:Below w.heap.size w w2) (bE:w2.heap.size=w.heap.size+1+1) (pD:MapE mkMet w2 w.heap.size (units [])) {g5 c5:Nat}
  (ho:w5.ownsRow base 184 3 (.slice (some ⟨g5,0,none⟩) (s.length+1+1) c5) (s.length+1+1) (v0++L.flatMap BF.cells++BF.cells ⟨V,xs.length,v,w.heap.size⟩))(hg5:w2.grownBy w5 (some g))(aH:g5=g\/g5=w2.heap.size):Sta (IMis E w0 pb base v0 x0 V0) M w (c+(xs.length+1)) (s++[xs]) (w5.setCell ⟨pb,0,none⟩ (.slice (some ⟨g5,0,none⟩) (s.length+1+1) c5)):=by
 have ee:=hg5.size;have dW:=hb.lt;have aV:=(h.all g hM).1;have hbp:=h.low.2;have nD:base<=g5:=(ho.lt g5 rfl).1;have cJ:Blk w5 pb _ _:=(hb.below h2 dW).grown hg5 (λe=>by injection e with e;exact hgp e.symm);have g5l:g5<w5.heap.size:=(ho.lt g5 rfl).2;have bu:∀k,k≠pb->k≠g->k<w2.heap.size->(w5.setCell ⟨pb,0,none⟩ (.slice (some ⟨g5,0,none⟩) (s.length+1+1) c5)).heap[k]?=w2.heap[k]?:=λk h1 h3 h4 =>
  (tY _ ⟨pb,0,none⟩ _ k h1).trans (hg5.block k h4 (λe=>by injection e with e;exact h3 e))
 have hold:∀k,k≠pb->k≠g->k<w.heap.size->(w5.setCell ⟨pb,0,none⟩ (.slice (some ⟨g5,0,none⟩) (s.length+1+1) c5)).heap[k]?=w.heap[k]?:=λk h1 h3 h4=>(bu k h1 h3 (by omega)).trans (h2.block k h4);have aG:(w5.setCell ⟨pb,0,none⟩ (.slice (some ⟨g5,0,none⟩) (s.length+1+1) c5)).heap.size=w5.heap.size:=by simp
 have bk:∀k,k<w.heap.size/\¬M k->k≠pb/\k≠g:=λk hk=>⟨λe=>hk.2 (e▸h.low.1),λe=>hk.2 (e▸hM)⟩;refine⟨λk=>M k\/(w.heap.size<=k/\k<w5.heap.size),⟨L++[⟨V,xs.length,v,w.heap.size⟩],?_⟩,λk hk=>hk.imp id (λe=>e.1),?_⟩
 ·have kE:∀k,k<w.heap.size/\¬M k->k<(w5.setCell ⟨pb,0,none⟩ (.slice (some ⟨g5,0,none⟩) (s.length+1+1) c5)).heap.size/\¬(M k\/(w.heap.size<=k/\k<w5.heap.size)):=λk hk=>⟨by omega,λe=>by rcases e with e|e;exact hk.2 e;omega⟩
  refine { len:=by have:=h.len;simp;omega,ll:=by simp[h.ll],recs:=λi ys r h1 h3=>?_,nd:=?_,nm0:=h.nm0.keep (λk hk=>⟨kE k hk.1,hk.2⟩) (λk hk=>hold k (bk k hk.1).1 (bk k hk.1).2 hk.1.1),low:=⟨.inl h.low.1,h.low.2⟩,old:=λk hk=>?_,all:=λk hk=>?_,row:=?_ }
  ·by_cases hi:i<s.length
   ·rw[vB hi]at h1
    rw[vB (by rw[h.ll];exact hi)]at h3
    obtain⟨a1,a2,a3,a4,a5,a6⟩:=h.recs i ys r h1 h3;exact⟨a1,a2.keep kE (λk hk=>hold k (bk k hk).1 (bk k hk).2 hk.1),a3,a4.keep (hold _ a6.1 (bf r (uM h3)) a4.lt),.inl a5,a6⟩
   ·have nA:i=s.length:=by
     have:=(uj.1 h1).1;simp at this;omega
    subst nA;rw[uI (tV _),Nat.sub_self]at h1
    rw[uI (by rw[h.ll];exact tV _),h.ll,Nat.sub_self]at h3
    injection h1 with h1;injection h3 with h3;subst h1 h3;exact⟨rfl,hx.keep (λk hk=>kE k (hS k hk)) (λk hk=>hold k (bk k (hS k hk)).1 (bk k (hS k hk)).2 (hS k hk).1),eO,pD.keep (bu _ (by show w.heap.size≠pb;omega) (by show w.heap.size≠g;omega) (by show w.heap.size<_;omega)),.inr ⟨tV _,by show w.heap.size<_;omega⟩,by show w.heap.size≠pb;omega,by show base<=w.heap.size;omega⟩
  ·rw[wb,List.nodup_append]
   refine⟨h.nd,by simp,λa ha b aA=>?_⟩;obtain⟨r,hr,rfl⟩:=wI.1 ha;obtain⟨i,hi⟩:=vd.1 hr;have jf:=(uj.1 hi).1;obtain⟨a1,a2,a3,a4,a5,a6⟩:=h.recs i _ r (ug (by rw[<-h.ll];exact jf)) hi;have ah:=a4.lt;simp at aA;omega
  ·obtain⟨o1,o2,o3⟩:=h.old k hk
   exact⟨.inl o1,o2,(hold k (by omega) (λe=>by have:=k2.lt g rfl;omega) (h.all k o1).1).trans o3⟩
  ·rcases hk with hk|hk
   ·have:=h.all k hk;exact⟨by omega,this.2⟩
   ·exact⟨by omega,.inl (by omega)⟩
  ·refine⟨g5,c5,?_,?_,?_,?_,?_⟩
   ·rw[show(s++[xs]).length+1=s.length+1+1 by simp]
    exact uk w5 pb 0 _ _ (.slice (some ⟨g5,0,none⟩) (s.length+1+1) c5) cJ
   ·have hl:(s++[xs]).length+1=s.length+1+1:=by simp
    rw[hl,uA,<-uy]
    have:([⟨V,xs.length,v,w.heap.size⟩]:List BF).flatMap BF.cells=BF.cells ⟨V,xs.length,v,w.heap.size⟩:=by simp
    rw[this]
    exact zbi ho (λa ha=>by injection ha with ha;subst ha;exact tY _ ⟨pb,0,none⟩ _ g5 (by show g5≠pb;rcases aH with e|e <;> omega))
   ·rcases aH with e|e
    ·exact .inl (e▸hM)
    ·exact .inr ⟨by omega,g5l⟩
   ·rcases aH with e|e <;> omega
   ·intro r hr
    rcases uz.1 hr with hr|hr
    ·have gD:r.f<w.heap.size:=by
      obtain⟨i,hi⟩:=vd.1 hr;have jf:=(uj.1 hi).1;obtain⟨a1,a2,a3,a4,a5,a6⟩:=h.recs i _ r (ug (by rw[<-h.ll];exact jf)) hi;exact a4.lt
     have:=bf r hr;rcases aH with e|e <;> omega
    ·simp at hr
     subst hr;show w.heap.size≠g5;rcases aH with e|e <;> omega
 ·exact((Chg.of_below h2).grown hg5 (λk hk=>by injection hk with hk;exact .inr (hk▸hM))).setCell (.inr h.low.1) _
theorem zij(E:Nat->Prop)(w0:World)(pb base:Nat)(v0:List Value)(x0:List Nm)(V0:Option Addr)(B:Nat)(qI:B<=1000000):VisE 118 #[.pointer (some ⟨pb,0,none⟩)] B (IMis E w0 pb base v0 x0 V0) stM:=by
 intro c s M ev S V v w hi hx hS eO hB;show Calls Tryz.prog 118 #[.int .i64 (evW ev),.slice V (evN ev).length v,.pointer (some ⟨pb,0,none⟩)] w _;have fk:∀w,(Instr.makeMap 123 none).run Tryz.prog w=.ok (.map (some w.heap.size)) (w.alloc (.map #[] 0)):=λ_=>rfl;by_cases h2:evW ev=2
 ·obtain⟨xs,rfl⟩:=zpW h2
  obtain⟨L,hm⟩:=hi;obtain⟨g,cp,k1,k2,k3,k4,k5⟩:=hm.row;simp only[evN,evW,evL]at hx eO hB ⊢;rw[show stM (.bi xs) s=s++[xs] from rfl]
  obtain⟨N,hN⟩:∃n,xs.length=n:=⟨_,rfl⟩;obtain⟨sn,og⟩:∃n,s.length=n:=⟨_,rfl⟩;obtain⟨i0,bJ,bO,bz,bE⟩:=vz infoFa;have j9:=hm.len;have mv:=wJ (λw5 w2 g5 c5=>hm.add (w5:=w5) (w2:=w2) (g5:=g5) (c5:=c5) (v:=v) k1 k2 k3 k4 k5 hx hS eO);rw[og]at k1 k2 j9
  simp only[og,hN]at mv;rw[hN]at hB ⊢
  have HBS:Hid (base<=w.heap.size):=wJ (by have:=(hm.all pb hm.low.1).1;have:=hm.low.2;omega);obtain⟨r0,r1,r2⟩:=zbh k1;obtain⟨vs,dv⟩:∃y,v0++L.flatMap BF.cells=y:=⟨_,rfl⟩;rw[dv]at k2 mv
  have HO:=wJ ((k2.alloc (.map #[] 0)).alloc (.cells #[.slice V N v,.func (.func 113) #[.map (some w.heap.size)] #[],.int .i64 90] 184));have HK1:=wJ k1;have HB:Hid (Below w.heap.size w ((w.alloc (.map #[] 0)).alloc (.cells #[.slice V N v,.func (.func 113) #[.map (some w.heap.size)] #[],.int .i64 90] 184))):=wJ (((ua _ w).alloc (tV _) _).alloc (by simp) _);have HF:Hid (MapE mkMet ((w.alloc (.map #[] 0)).alloc (.cells #[.slice V N v,.func (.func 113) #[.map (some w.heap.size)] #[],.int .i64 90] 184)) w.heap.size (units [])):=wJ ((MapE.made mkMet w).keep (uc _ _ _ (by simp)));have hgp:g≠pb:=k4;clear hm k1 k2 k3 k4 k5 hx hS eO hN og h2 dv;go_enter Tryz.func118,Tryz.ntmps118
  go_wp2_with (at_builtin;refine uP _ rfl (.tmp 7) (.tmp 12) 129 rfl base 184 i0 _ 3 40 Tryz.underlying129 bJ bO bz bE rfl (by decide) _ (sn+1) vs rfl HO.out ⟨w.heap.size+1,0,none⟩ 1 1 [.slice V N v,.func (.func 113) #[.map (some w.heap.size)] #[],.int .i64 90] rfl rfl (zao _ _ _ _ (by simp)) (by intro u hu;simp at hu;rcases hu with rfl|rfl|rfl <;> rfl) (by unfold maxLen;omega) (by omega) (by have:=HBS.out;simp;omega) ?_;intro v5 w5 aI ab _ cv;obtain⟨A5,c5,rfl⟩:=zat aI;have eU:=wJ aI;have cQ:=wJ ab;have fZ:=wJ cv;have cJ:Blk w5 pb 129 #[.slice (some ⟨g,0,none⟩) (sn+1) cp]:=(((HK1.out.alloc _).alloc _).grown ab (λe=>by injection e with e;exact hgp e.symm));obtain⟨s0,s1,s2⟩:=zbh cJ;clear aI ab cv cJ)
  first|go_end0|refine ub (vE rfl _ _ _) rfl ?_
  obtain⟨g5,cap,hv,-,-⟩:=eU.out.form (by omega);injection hv with hv _ _;subst hv;exact⟨rfl,mv.out w5 _ g5 c5 HB.out (by simp) HF.out eU.out cQ.out (by
   rcases fZ.out with e|e
   ·injection e with e
    exact .inl e
   ·injection e with e
    exact .inr e)⟩
 ·have HS:Hid (Sta (IMis E w0 pb base v0 x0 V0) M w (c+evL ev) (stM ev s) w):=wJ (by
   rw[zlh h2]
   obtain⟨L,hm⟩:=hi;exact Sta.init ⟨L,{ hm with len:=by have:=hm.len;omega }⟩)
  have d:(evW ev==2)=false:=by simpa using h2
  obtain⟨N,hN⟩:∃n,(evN ev).length=n:=⟨_,rfl⟩;obtain⟨W,hW⟩:∃n,evW ev=n:=⟨_,rfl⟩;rw[hW]at d ⊢
  rw[hN]
  clear hi hx hS eO h2 hN hW hB;go_enter Tryz.func118,Tryz.ntmps118
  go_wp2_with fail
  first|go_end0|refine ub (vE rfl _ _ _) rfl ?_
  exact⟨rfl,HS.out⟩
end Go.Proofs.YtknkclefoiohpaaGreatDoor
namespace Go.Proofs.YtknkclefoiohpaaGreatDoor
open Go.RowKit Lx Tx Sx Go.Maps Go.WideMaps Go.Shelf
set_option maxRecDepth 100000
def Flt.cells(f:Flt):List Value:=[.slice f.V f.n f.v,.func (.func f.kf) f.bd #[],.int .i64 f.e]
theorem flat3:∀(l:List Flt)(j:Nat)(f:Flt),l[j]?=some f->(l.flatMap Flt.cells)[j*3]?=some (.slice f.V f.n f.v)/\(l.flatMap Flt.cells)[j*3+1]?=some (.func (.func f.kf) f.bd #[])/\(l.flatMap Flt.cells)[j*3+2]?=some (.int .i64 f.e)
 |[],_,_,h=>by simp at h
 |g::r,0,f,h=>by
  simp at h;subst h;exact⟨rfl,rfl,rfl⟩
 |g::r,j+1,f,h=>by
  obtain⟨h1,h2,h3⟩:=flat3 r j f (by simpa using h);have e:(g::r).flatMap Flt.cells=g.cells++r.flatMap Flt.cells:=rfl;have hl:g.cells.length=3:=rfl;rw[e]
  refine⟨?_,?_,?_⟩
  ·rw[uI (by omega),hl,show(j+1)*3-3=j*3 by omega];exact h1
  ·rw[uI (by omega),hl,show(j+1)*3+1-3=j*3+1 by omega];exact h2
  ·rw[uI (by omega),hl,show(j+1)*3+2-3=j*3+2 by omega];exact h3
def toB(x:Nm):ByteArray:=⟨x.toArray⟩
def bF(p:List Nm × BF):Flt:=⟨p.2.V,p.2.n,p.2.v,113,#[.map (some p.2.f)],90,(rep [] p.1).map toB⟩
theorem zhx:∀(s:List (List Nm))(L:List BF),L.length=s.length->((s.zip L).map bF).flatMap Flt.cells=L.flatMap BF.cells
 |[],[],_=>rfl
 |[],_::_,h=>by simp at h
 |_::_,[],h=>by simp at h
 |xs::s,r::L,h=>by
  have:=zhx s L (by simpa using h);simp only[List.zip_cons_cons,vI,uH,this];rfl
theorem zhy(r:List Flt):∀(s:List (List Nm))(L:List BF),L.length=s.length->fst1 ((s.zip L).map bF++r)=match s.findSome? (rep []) with|some x=>(toB x,90)|none=>fst1 r
 |[],[],_=>rfl
 |[],_::_,h=>by simp at h
 |_::_,[],h=>by simp at h
 |xs::s,b::L,h=>by
  have:=zhy r s L (by simpa using h);rw[uU]
  cases hx:rep [] xs with
  |some x =>
   simp only[List.zip_cons_cons,vI,uS];rw[fst1]
   simp only[bF,hx,uq]
  |none =>
   simp only[List.zip_cons_cons,vI,uS];rw[fst1]
   simp only[bF,hx,Option.map_none];exact this
theorem runM:∀(l:List Ev)(s:List (List Nm)),runS stM l s=s++l.filterMap (λv=>match v with|.bi xs=>some xs|_=>none)
 |[],s=>(uW s).symm
 |v::l,s=>by
  rw[zbt,runM l]
  cases v <;> simp[stM]
theorem zoG(l:List Ev):(runS stM l []).findSome? (rep [])=l.findSome? repV:=by
 rw[runM,vC]
 induction l with
 |nil=>rfl
 |cons v l ih =>
  cases v with
  |bi xs =>
   rw[show(Ev.bi xs::l).filterMap (λv=>match v with|.bi xs=>some xs|_=>none)=xs::l.filterMap (λv=>match v with|.bi xs=>some xs|_=>none) from rfl,uU,uU,ih]
   rfl
  |use x=>simpa[uU,repV] using ih
  |cn x=>simpa[uU,repV] using ih
  |beg x=>simpa[uU,repV] using ih
  |fin x=>simpa[uU,repV] using ih
def IMf(co:Nat)(B C:List Nm)(L:List BF)(W:World)(j:Nat)(W':World):Prop :=
 Chg (λg=>g=co\/g=co+2\/∃(i:Nat) (r:BF),L[i]?=some r/\i+2<=j/\r.f=g) W W'/\MapE mkMet W' (co+2) (units B)/\MapE mkMet W' co (units C)
theorem zli {da co:Nat}(hd:da<co) {m:Mets} {e:Ex} {s:List (List Nm)} {L:List BF} {M:Nat->Prop} {V0 V1 V2:Option Addr} {v0 v1 v2 g n d:Nat} {w W:World} {nb nf nc:Nat}
  (hM:MetsAt da co m W)(fM:∀g,metB da co g->g<w.heap.size)(hb:Below w.heap.size w W)(hs:s=runS stM (evs e) [])(rW:L.length=s.length)
  (hnb:nb=(zas e).length)(hnf:nf=(zaF e).length)(hnc:nc=(zaG e).length)
  (rH:∀(i:Nat)(xs:List Nm)(r:BF),s[i]?=some xs->L[i]?=some r->r.n=xs.length/\NmsIn (λg=>g<W.heap.size/\¬M g) W xs r.V/\(∀x∈xs,x.length<=24)/\MapE mkMet W r.f (units [])/\M r.f/\w.heap.size<=r.f)
  (hMm:∀g,metB da co g->M g)(kx:(L.map BF.f).Nodup)(h0:NmsIn (λg=>(g<W.heap.size/\¬M g)/\w.heap.size<=g) W (zas e) V0)(h1:NmsIn (λg=>(g<W.heap.size/\¬M g)/\w.heap.size<=g) W (zaF e) V1)(h2:NmsIn (λg=>(g<W.heap.size/\¬M g)/\w.heap.size<=g) W (zaG e) V2)
  (ao:W.ownsRow w.heap.size 184 3 (.slice (some ⟨g,0,none⟩) n d) n ([.slice V0 nb v0,.func (.func 116) #[.map (some (co+2))] #[],.int .i64 90]++L.flatMap BF.cells++[.slice V1 nf v1,.func (.func 115) #[.map (some (co+2))] #[],.int .i64 91,.slice V2 nc v2,.func (.func 115) #[.map (some co)] #[],.int .i64 91]))
  (hgM:∀r∈L,r.f≠g)(hn:n=s.length+3)(aG:m.size+s.length<=90000)(mz:∀x∈nms e,x.length<=24)(hle:(zas e).length+(zaF e).length+(zaG e).length<=90000)(ic:∀xs∈s,xs.length<=90000):LPostF da co w (mis m.b m.c e) (MetsAt da co m) (.returned (.slice (some ⟨g,0,none⟩) n d)) W:=by
 have hdw:=fM da (.inl rfl);have pF:=fM co (.inr (.inl rfl));have gn:=fM (co+1) (.inr (.inr (.inl rfl)));have aX:=fM (co+2) (.inr (.inr (.inr rfl)));have pJ:=hb.size;unfold Mets.size at aG;obtain⟨kZ,aV⟩:=ao.lt g rfl;obtain⟨l,hl⟩:∃l:List Flt,l=[⟨V0,nb,v0,116,#[.map (some (co+2))],90,((zas e).find? (λx=>decide (x∈m.b))).map toB⟩]++(s.zip L).map bF++[⟨V1,nf,v1,115,#[.map (some (co+2))],91,((zaF e).find? (λx=>decide (x∉m.b))).map toB⟩,⟨V2,nc,v2,115,#[.map (some co)],91,((zaG e).find? (λx=>decide (x∉m.c))).map toB⟩]:=⟨_,rfl⟩;have pH:l.flatMap Flt.cells=[.slice V0 nb v0,.func (.func 116) #[.map (some (co+2))] #[],.int .i64 90]++L.flatMap BF.cells++[.slice V1 nf v1,.func (.func 115) #[.map (some (co+2))] #[],.int .i64 91,.slice V2 nc v2,.func (.func 115) #[.map (some co)] #[],.int .i64 91]:=by
  rw[hl,uA,uA,zhx s L rW]
  rfl
 have hzl:((s.zip L).map bF).length=s.length:=by simp[rW]
 have hlen:l.length=s.length+3:=by rw[hl];simp[rW]
 rw[<-pH]at ao
 have ky:∀i xs r,s[i]?=some xs->L[i]?=some r->l[i+1]?=some (bF (xs,r)):=λi xs r h1 h2=>by
  rw[hl,uy,uI (by simp),show i+1-([⟨V0,nb,v0,116,#[.map (some (co+2))],90,((zas e).find? (λx=>decide (x∈m.b))).map toB⟩]:List Flt).length=i by simp,vB (by rw[hzl];exact(uj.1 h1).1)]
  rw[vA,(List.getElem?_zip_eq_some (z:=(xs,r))).2 ⟨h1,h2⟩]
  rfl
 have hI:∀j W',IMf co m.b m.c L W j W'->∀k,k≠co->k≠co+2->(∀r∈L,r.f≠k)->k<W.heap.size->W'.heap[k]?=W.heap[k]?:=λj W' h k a1 a2 a3 a4 =>
  h.1.block k a4 (λe=>by
   rcases e with e|e|⟨i,r,e1,-,e3⟩
   ·exact a1 e
   ·exact a2 e
   ·exact a3 r (uM e1) e3)
 have hF:∀r∈L,M r.f/\w.heap.size<=r.f:=λr hr=>by
  obtain⟨i,hi⟩:=vd.1 hr;have jf:=(uj.1 hi).1;obtain⟨-,-,-,-,a5,a6⟩:=rH i _ r (ug (by rw[<-rW];exact jf)) hi;exact⟨a5,a6⟩
 have hNS:∀j W',IMf co m.b m.c L W j W'->∀k,(k<W.heap.size/\¬M k)/\w.heap.size<=k->W'.heap[k]?=W.heap[k]?:=λj W' h k hk =>
  hI j W' h k (by omega) (by omega) (λr hr e=>hk.1.2 (e▸(hF r hr).1)) hk.1.1
 have gF:∀j W1 W2,IMf co m.b m.c L W j W1->Below W1.heap.size W1 W2->IMf co m.b m.c L W j W2:=λj W1 W2 h aC=>⟨h.1.below aC,h.2.1.keep (aC.block _ h.2.1.lt),h.2.2.keep (aC.block _ h.2.2.lt)⟩;have hup:∀j W1 W2,IMf co m.b m.c L W j W1->Chg (λg=>g=co\/g=co+2\/∃(i:Nat) (r:BF),L[i]?=some r/\i+2<=j+1/\r.f=g) W1 W2->Chg (λg=>g=co\/g=co+2\/∃(i:Nat) (r:BF),L[i]?=some r/\i+2<=j+1/\r.f=g) W W2:=λj W1 W2 h hc =>
  (h.1.mono (λk _ hk=>hk.imp id (Or.imp id (λ⟨i,r,e1,e2,e3⟩=>⟨i,r,e1,by omega,e3⟩)))).trans hc
 have hB24:∀x∈zas e,x.length<=24:=λx hx=>mz x (ziY e x (by simpa[zas,zbU] using hx));have hF24:∀x∈zaF e,x.length<=24:=λx hx=>mz x (zb2 e x (by simpa[zaF,zbU] using hx));have hC24:∀x∈zaG e,x.length<=24:=λx hx=>mz x (ziX e x (by simpa[zaG,zbU] using hx));refine⟨_,_,_,rfl,hb,?_⟩;refine(ze0 l (IMf co m.b m.c L W) g n d W (by rw[hlen,hn]) (by omega) ?_ ?_ ⟨Chg.refl _ _,hM.b,hM.c⟩ gF).mono ?_
 ·intro j f hf W' hi
  have hk:=hI j W' hi g (by omega) (by omega) hgM aV;obtain⟨x0,x1,x2⟩:=flat3 l j f hf;have hc:∀i u,(l.flatMap Flt.cells)[i]?=some u->W'.cell? ⟨g,i,none⟩=some u:=λi u hu=>by
   have:=ao.cells (g:=g) rfl i u hu;rw[show(⟨g,0,none⟩:Addr).add i=⟨g,i,none⟩ by unfold Addr.add;split <;> simp_all]at this
   exact zcd this hk
  exact⟨by have:=hi.1.size;omega,hc _ _ x0,hc _ _ x1,hc _ _ x2⟩
 ·intro j f hf
  have kY:=(uj.1 hf).1;have oC:M co:=hMm co (.inr (.inl rfl));have hcb:M (co+2):=hMm (co+2) (.inr (.inr (.inr rfl)));have h5:∀ {W' Wc w':World} {j:Nat},IMf co m.b m.c L W j W'->Below W'.heap.size W' Wc->Chg (only (co+2)) Wc w'->MapE mkMet w' (co+2) (units m.b)->IMf co m.b m.c L W (j+1) w':=fun {W' Wc w' j} hi aC hc fk =>
   ⟨hup j Wc w' (gF j W' Wc hi aC) (hc.mono (λk _ h=>.inr (.inl h))),fk,((gF j W' Wc hi aC).2.2).keep (hc.block _ (by have:=aC.size;have:=hi.1.size;omega) (by unfold only;omega))⟩
  have h6:∀ {W' Wc w':World} {j:Nat},IMf co m.b m.c L W j W'->Below W'.heap.size W' Wc->Chg (only co) Wc w'->MapE mkMet w' co (units m.c)->IMf co m.b m.c L W (j+1) w':=fun {W' Wc w' j} hi aC hc fk =>
   ⟨hup j Wc w' (gF j W' Wc hi aC) (hc.mono (λk _ h=>.inl h)),((gF j W' Wc hi aC).2.1).keep (hc.block _ (by have:=aC.size;have:=hi.1.size;omega) (by unfold only;omega)),fk⟩
  by_cases j0:j=0
  ·subst j0
   rw[hl]at hf
   simp at hf;subst hf;refine⟨?_,show nb<=1000000 by omega⟩;have:=zbT (I:=IMf co m.b m.c L W) (j:=0) (xs:=zas e) (L:=m.b) (V:=V0) (v:=v0) (S:=λk=>(k<W.heap.size/\¬M k)/\w.heap.size<=k) zpv (co+2) (zoC (co+2) 1000000)
    (λW' hi=>⟨hi.2.1,h0.keep (λ_ h=>h) (λk hk=>hNS 0 W' hi k hk),λk hk=>⟨by have:=hi.1.size;omega,by omega⟩⟩) hB24 (by omega) (λW' Wc w' hi aC hc fk=>h5 hi aC hc (by rw[zfo]at fk;exact fk))
   rw[zhs,<-hnb]at this
   exact this
  ·by_cases j1:j<=s.length
   ·obtain⟨i,rfl⟩:∃i,j=i+1:=⟨j-1,by omega⟩
    obtain⟨xs,eO⟩:∃x,s[i]?=some x:=⟨_,ug (by omega)⟩;obtain⟨r,hr⟩:∃x,L[i]?=some x:=⟨_,ug (by omega)⟩;rw[ky i xs r eO hr]at hf
    injection hf with hf;subst hf;obtain⟨a1,a2,a3,a4,a5,a6⟩:=rH i xs r eO hr;have jv:=ic xs (uM eO);refine⟨?_,show r.n<=1000000 by omega⟩;have:=zbT (I:=IMf co m.b m.c L W) (j:=i+1) (xs:=xs) (L:=[]) (V:=r.V) (v:=r.v) (S:=λk=>k<W.heap.size/\¬M k) zcr r.f (zcb r.f 1000000 (tV _))
     (λW' hi=>⟨a4.keep (hi.1.block _ a4.lt (λe=>by
      rcases e with e|e|⟨i2,r2,e1,e2,e3⟩
      ·omega
      ·omega
      ·have:=(List.getElem?_inj (i:=i2) (j:=i) (by rw[wG];exact(uj.1 e1).1) kx).1 (by rw[vA,vA,e1,hr,uq,uq,e3])
       omega)),a2.keep (λ_ h=>h) (λk hk=>hI _ W' hi k (λe=>hk.2 (e▸oC)) (λe=>hk.2 (e▸hcb)) (λr hr e=>hk.2 (e▸(hF r hr).1)) hk.1),λk hk=>⟨by have:=hi.1.size;omega,λe=>hk.2 (e▸a5)⟩⟩) a3 (by simp;omega)
     (λW' Wc w' hi aC hc _=>by
      have nA:=gF _ W' Wc hi aC;have lv:=nA.1.size;refine⟨hup _ Wc w' nA (hc.mono (λk _ h=>.inr (.inr ⟨i,r,hr,by omega,?_⟩))),nA.2.1.keep (hc.block _ nA.2.1.lt (by unfold only;omega)),nA.2.2.keep (hc.block _ nA.2.2.lt (by unfold only;omega))⟩;have e:k=r.f:=h;exact e.symm)
    rw[zcX xs [] [] (λ_=>wC),<-a1]at this
    exact this
   ·have dW:([⟨V0,nb,v0,116,#[.map (some (co+2))],90,((zas e).find? (λx=>decide (x∈m.b))).map toB⟩]++(s.zip L).map bF:List Flt).length=s.length+1:=by rw[uf,hzl];simp;omega
    rw[hl,uI (by omega),dW]at hf
    by_cases j2:j=s.length+1
    ·subst j2
     rw[Nat.sub_self]at hf
     obtain rfl:=Option.some.inj hf;refine⟨?_,show nf<=1000000 by omega⟩;have:=zbT (I:=IMf co m.b m.c L W) (j:=s.length+1) (xs:=zaF e) (L:=m.b) (V:=V1) (v:=v1) (S:=λk=>(k<W.heap.size/\¬M k)/\w.heap.size<=k) ze3 (co+2) (zej (co+2) 1000000)
      (λW' hi=>⟨hi.2.1,h1.keep (λ_ h=>h) (λk hk=>hNS _ W' hi k hk),λk hk=>⟨by have:=hi.1.size;omega,by omega⟩⟩) hF24 (by omega) (λW' Wc w' hi aC hc fk=>h5 hi aC hc (by rw[zfo]at fk;exact fk))
     rw[zdN,<-hnf]at this
     exact this
    ·obtain rfl:j=s.length+2:=by omega
     rw[show s.length+2-(s.length+1)=1 by omega]at hf
     obtain rfl:=Option.some.inj hf;refine⟨?_,show nc<=1000000 by omega⟩;have:=zbT (I:=IMf co m.b m.c L W) (j:=s.length+2) (xs:=zaG e) (L:=m.c) (V:=V2) (v:=v2) (S:=λk=>(k<W.heap.size/\¬M k)/\w.heap.size<=k) ze3 co (zej co 1000000)
      (λW' hi=>⟨hi.2.2,h2.keep (λ_ h=>h) (λk hk=>hNS _ W' hi k hk),λk hk=>⟨by have:=hi.1.size;omega,by omega⟩⟩) hC24 (by omega) (λW' Wc w' hi aC hc fk=>h6 hi aC hc (by rw[zfo]at fk;exact fk))
     rw[zdN,<-hnc]at this
     exact this
 ·rintro e' w' ⟨rfl,j,hj,hi,-⟩
  have sd:fst1 l=match mis m.b m.c e with|some y=>(toB y.1,(y.2:Int))|none=>(⟨#[]⟩,0):=by
   rw[hl,uy]
   show fst1 (_::((s.zip L).map bF++_))=_;rw[fst1,zhy _ s L rW,hs,zoG]
   unfold mis;cases (zas e).find? (λx=>decide (x∈m.b)) with
   |some x=>rfl
   |none =>
    simp only[Option.map_none];cases (evs e).findSome? repV with
    |some x=>rfl
    |none =>
     simp only;cases (zaF e).find? (λx=>decide (x∉m.b)) with
     |some x=>rfl
     |none =>
      simp only[fst1,Option.map_none];cases (zaG e).find? (λx=>decide (x∉m.c)) with
      |some x=>rfl
      |none=>rfl
  refine⟨hi.1.mono (λk _ h=>?_),_,_,rfl,?_,?_⟩
  ·rcases h with h|h|⟨i,r,e1,-,e3⟩
   ·exact .inl (.inr (.inl h))
   ·exact .inl (.inr (.inr (.inr h)))
   ·exact .inr (e3▸(hF r (uM e1)).2)
  ·intro bk
   rw[sd,bk]
   refine⟨rfl,rfl,hM.d.keep (hI j w' hi da (by omega) (by omega) (λr hr=>by have:=(hF r hr).2;omega) hM.d.lt),hi.2.2,hM.s.keep (hI j w' hi (co+1) (by omega) (by omega) (λr hr=>by have:=(hF r hr).2;omega) hM.s.lt),hi.2.1⟩
  ·intro y hy
   rw[sd,hy]
   exact⟨rfl,rfl⟩
end Go.Proofs.YtknkclefoiohpaaGreatDoor
namespace Go.Proofs.YtknkclefoiohpaaGreatDoor
open Go.RowKit Lx Tx Sx
mutual
theorem zcw:∀(e:Ex),e.Ok->∀x∈nms e,x.length<=24
 |.var y,h,x,hx=>by
  simp only[nms,evs,uH,vr,useOf,uW,vL]at hx;exact hx▸zaQ h (by decide)
 |.con y,h,x,hx=>by
  simp only[nms,evs,uH,vr,useOf,uW,vL]at hx;exact hx▸zaQ h (by decide)
 |.lam y e,h,x,hx=>by
  have ih:=zcw e h.2;unfold nms at hx ih;simp only[evs,uH,uA,uz,useOf,vr,u9,vY,wu,vL]at hx;rcases hx with rfl|hx
  ·exact zaQ h.1 (by decide)
  ·exact ih x hx
 |.app a b,h,x,hx=>by
  have i1:=zcw a h.1;have i2:=zcw b h.2;unfold nms at hx i1 i2;simp only[evs,uH,uA,uz,useOf,vr,u9,vY,wu]at hx;exact hx.elim (i1 x) (i2 x)
 |.lt y t a b,h,x,hx=>by
  have i1:=zcw a h.2.2.1;have i2:=zcw b h.2.2.2;unfold nms at hx i1 i2;simp only[evs,uH,uA,uz,useOf,vr,u9,vY,wu,vL]at hx;rcases hx with rfl|hx|hx
  ·exact zaQ h.1 (by decide)
  ·exact i1 x hx
  ·exact i2 x hx
 |.cs e l,h,x,hx=>by
  have i1:=zcw e h.1;unfold nms at hx i1;simp only[evs,uH,uA,uz,useOf,u9,wu]at hx;exact hx.elim (i1 x) (zkW l h.2 x)
 |.ann e t,h,x,hx=>by
  have ih:=zcw e h.1;unfold nms at hx ih;simp only[evs,uH,uA,uz,useOf,vr,u9,vY,wu]at hx;exact ih x hx
theorem zpo:∀(a:Al),a.Ok->∀x∈(evs1 a).flatMap useOf,x.length<=24
 |.mk c vs b,h,x,hx=>by
  have ih:=zcw b h.2.2;unfold nms at ih;simp only[evs1,uH,uA,uz,useOf,vr,u9,vY,wu,vL]at hx;rcases hx with rfl|hx|hx
  ·exact zaQ h.1 (by decide)
  ·exact zaQ (h.2.1 x hx) (by decide)
  ·exact ih x hx
theorem zkW:∀(l:List Al),okA l->∀x∈(evsA l).flatMap useOf,x.length<=24
 |[],_,x,hx=>by simp[evsA]at hx
 |a::r,h,x,hx=>by
  simp only[evsA,uA,uz]at hx;exact hx.elim (zpo a h.1 x) (zkW r h.2 x)
end
theorem zbK(vs l:List Nm):(but vs l).length<=l.length:=List.length_filter_le _ _
mutual
theorem zbW:∀(e:Ex),(fr e).length<=e.wt/\(cns e).length<=e.wt/\(bis e).length<=e.wt
 |.var _=>by simp[fr,cns,bis,Ex.wt]
 |.con _=>by simp[fr,cns,bis,Ex.wt]
 |.lam x e=>by
  obtain⟨h1,h2,h3⟩:=zbW e;have:=zbK [x] (fr e);simp only[fr,cns,bis,Ex.wt,ui];omega
 |.app a b=>by
  obtain⟨h1,h2,h3⟩:=zbW a;obtain⟨k1,k2,k3⟩:=zbW b;simp only[fr,cns,bis,Ex.wt,uf];omega
 |.lt x t a b=>by
  obtain⟨h1,h2,h3⟩:=zbW a;obtain⟨k1,k2,k3⟩:=zbW b;have:=zbK [x] (fr b);simp only[fr,cns,bis,Ex.wt,uf,ui];omega
 |.cs e l=>by
  obtain⟨h1,h2,h3⟩:=zbW e;obtain⟨k1,k2,k3⟩:=zhh l;simp only[fr,cns,bis,Ex.wt,uf];omega
 |.ann e t=>by
  obtain⟨h1,h2,h3⟩:=zbW e;simp only[fr,cns,bis,Ex.wt];omega
theorem zmQ:∀(a:Al),(fr1 a).length<=a.wt/\(cns1 a).length<=a.wt/\(bis1 a).length<=a.wt
 |.mk c vs b=>by
  obtain⟨h1,h2,h3⟩:=zbW b;have:=zbK vs (fr b);simp only[fr1,cns1,bis1,Al.wt,uf,ui];omega
theorem zhh:∀(l:List Al),(frA l).length<=wtA l/\(cnsA l).length<=wtA l/\(bisA l).length<=wtA l
 |[]=>by simp[frA,cnsA,bisA,wtA]
 |a::r=>by
  obtain⟨h1,h2,h3⟩:=zmQ a;obtain⟨k1,k2,k3⟩:=zhh r;simp only[frA,cnsA,bisA,wtA,uf];omega
end
theorem ziP(e:Ex):(zas e).length+(zaF e).length+(zaG e).length<=3*e.wt:=by
 obtain⟨h1,h2,h3⟩:=zbW e;have:=@zbl [] (fr e);have:=@zbl [] (cns e);have:=@zbl [] (bis e);unfold zas zaF zaG;simp only[uF]at *;omega
theorem zpp:∀(l:List Ev)(xs:List Nm),xs∈runS stM l []->xs.length<=cost l:=by
 intro l xs h;rw[runM,vC]at h
 induction l with
 |nil=>simp at h
 |cons v l ih =>
  rw[zaz]
  cases v with
  |bi ys =>
   simp at h;rcases h with rfl|h
   ·simp only[evL];omega
   ·have:=ih (by simpa using h);omega
  |use x=>have:=ih (by simpa using h);omega
  |cn x=>have:=ih (by simpa using h);omega
  |beg x=>have:=ih (by simpa using h);omega
  |fin x=>have:=ih (by simpa using h);omega
end Go.Proofs.YtknkclefoiohpaaGreatDoor
