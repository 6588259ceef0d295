import Derived.Test.YtfafilmklhnngaaGreatDoorBiAM
import Derived.Test.YtfafilmklhnngaaGreatDoorBiC
set_option maxHeartbeats 12800000
namespace Go.Proofs.YtfafilmklhnngaaGreatDoor
open Go.RowKit Go.Shelf Lx Tx Go.Maps Go.WideMaps
set_option maxRecDepth 100000
theorem zoi {w:World} {q u:Nat}(hq:LaidQ w q)(hu:LaidQ w u):(binOp BinOp.neq 75 (.pointer (some ⟨q,0,none⟩)) (.pointer (some ⟨u,0,none⟩))).run Tryz.prog w=.ok (.bool (!decide (u=q))) w:=by
 obtain⟨j,hj,hs⟩:∃j,Tryz.prog.info? 132=some j/\j.size≠0:=by
  cases h:Tryz.prog.info? 132 with
  |none=>have:=infoPart;rw[h]at this;cases this
  |some j=>have:=infoPart;rw[h]at this;exact⟨j,rfl,by simp at this;omega⟩
 obtain⟨cq,hq⟩:=hq;obtain⟨cu,hu⟩:=hu;have h:=zgO (P:=Tryz.prog) (w:=w) Tryz.underlying75 hj hs q u ⟨cq,_,hq⟩ ⟨cu,_,hu⟩;unfold PK at h;simp only[binOp];simp[h,Result.andThen]
theorem infoKn:(Tryz.prog.info? 39).map (λi=>(i.zero,i.size,i.bytes))=some (some (.agg #[.int .i64 0,.int .i64 0,.string ⟨#[]⟩,.int .i64 0,.slice none 0 0]),5,64):=by kernel_rfl
section
variable {G:Nat->Option Nd} {L:List Nat} {hd:Nat->Nat} {k:Sb} {O:List Nat} {U:Nat->Option Nat}
noncomputable def za8 (U:Nat->Option Nat)(G:Nat->Option Nd)(k:Sb)(hd:Nat->Nat)(done:List Nat):List (Nat × Ty) :=
 (done.filter λn=>decide (hd ((U n).getD 0)≠(U n).getD 0)).map λn=>(n,toTy (tv G k (hd ((U n).getD 0))))
theorem zlp {done:List Nat} {n p:Nat}(hn:U n=some p)(hp:hd p≠p):za8 U G k hd (done++[n])=za8 U G k hd done++[(n,toTy (tv G k (hd p)))]:=by
 unfold za8;rw[List.filter_append,List.map_append]
 simp[hn,hp]
theorem zfN {done:List Nat} {n p:Nat}(hn:U n=some p)(hp:hd p=p):za8 U G k hd (done++[n])=za8 U G k hd done:=by
 unfold za8;rw[List.filter_append]
 simp[hn,hp]
theorem zlq(hg:Gr G hd L)(hUG:∀n p,U n=some p->G p=some ⟨2,⟨#[]⟩,n,[],none,false⟩\/(hd p=p/\k n=.mt n))(hw:1+wg G [] L<=1000000) {done:List Nat}(hn:done.Nodup)(hd2:∀n∈done,∃p,U n=some p):(za8 U G k hd done).length+1<=1000000:=by
 obtain⟨F,hF⟩:∃F,done.filter (λn=>decide (hd ((U n).getD 0)≠(U n).getD 0))=F:=⟨_,rfl⟩;have hm:∀n∈F,∃p,U n=some p/\G p=some ⟨2,⟨#[]⟩,n,[],none,false⟩:=λn hnF=>by
  rw[<-hF,List.mem_filter]at hnF
  obtain⟨p,hp⟩:=hd2 n hnF.1;have h2:=of_decide_eq_true hnF.2;rw[hp]at h2
  rcases hUG n p hp with h|h
  ·exact⟨p,hp,h⟩
  ·exact absurd h.1 h2
 have hFn:F.Nodup:=by rw[<-hF];exact hn.filter _
 have hM:(F.map λn=>(U n).getD 0).Nodup:=by
  show List.Pairwise _ _;rw[List.pairwise_map]
  refine List.Pairwise.imp_of_mem (fun {a c} ha hc hne e=>hne ?_) hFn;obtain⟨p,h1,h2⟩:=hm a ha;obtain⟨q,h3,h4⟩:=hm c hc;rw[h1,h3]at e
  have e:p=q:=e;rw[e,h4]at h2
  injection h2 with h2;injection h2 with _ _ h2;exact h2.symm
 have hsub:=zfX (G:=G) (L:=L) (F.map λn=>(U n).getD 0) [] hM (λq hq=>by
  obtain⟨n,hnF,rfl⟩:=List.mem_map.1 hq;obtain⟨p,h1,h2⟩:=hm n hnF;rw[h1]
  exact⟨hg.all p _ h2,_,h2⟩) (λq _=>by simp)
 have hsum:∀l:List Nat,(∀q∈l,∃x,G q=some x)->l.length<=(l.map (ndW G)).sum:=λl=>by
  induction l with
  |nil=>intro _;exact Nat.le_refl _
  |cons q l ih =>
   intro h;obtain⟨x,hx⟩:=h q (by simp);have:=ih λz hz=>h z (by simp[hz]);have hq:ndW G q=x.kids.length+1:=by unfold ndW;rw[hx]
   rw[List.map_cons,List.sum_cons,List.length_cons]
   omega
 have h1:=hsum (F.map λn=>(U n).getD 0) (λq hq=>by
  obtain⟨n,hnF,rfl⟩:=List.mem_map.1 hq;obtain⟨p,h1,h2⟩:=hm n hnF;rw[h1]
  exact⟨_,h2⟩)
 have h2:(za8 U G k hd done).length=F.length:=by unfold za8;rw[hF,List.length_map]
 rw[List.length_map]at h1
 omega
theorem HdS.mt_root(S:HdS G L hd k [] O)(gs:GrS G) {p n:Nat}(hp:G p=some ⟨2,⟨#[]⟩,n,[],none,false⟩)(hk:k n=.mt n):hd p=p:=by
 have hF:FV G p:=⟨.mt n,.mt [] p n hp,zaM n⟩;obtain⟨⟨d,h1,h2⟩,h3⟩:=S.fv_head hF;rw[zcl k (Tr.mt [] p n hp) (zaM n),zaw,hk,zcl k h1 h2]at h3
 cases d with
 |fv x=>rw[zbm]at h3;cases h3
 |bv i=>exact absurd h2 (zaH i)
 |con c l=>rw[zaZ]at h3;cases h3
 |fn a b=>rw[zbf]at h3;cases h3
 |all t=>rw[zaJ]at h3;cases h3
 |mt m =>
  rw[zaw]at h3
  have hG:G (hd p)=some ⟨2,⟨#[]⟩,m,[],none,false⟩:=by
   generalize hns:([]:List Nat)=ns at h1;cases h1 with
   |mt _ _ _ h=>exact h
   |app _ _ _ _ _ ha=>simp[App,kdD]at ha
  have hm:=S.un _ m hG (S.gr.idm p);rw[hm]at h3
  injection h3 with h3;rw[h3]at hG
  exact gs.uu _ _ n hG hp
theorem zlr(S:HdS G L hd k [] O)(gs:GrS G)(hUG:∀n p,U n=some p->G p=some ⟨2,⟨#[]⟩,n,[],none,false⟩\/(hd p=p/\k n=.mt n))(hU:∀n,k n≠.mt n->∃p,U n=some p) {done:List Nat}(hd2:∀n∈done,∃p,U n=some p)(hall:∀n p,U n=some p->n∈done)(n:Nat)(t:Ty):(n,t)∈za8 U G k hd done↔k n≠.mt n/\t=toTy (k n):=by
 have hval:∀p,G p=some ⟨2,⟨#[]⟩,n,[],none,false⟩->tv G k (hd p)=k n:=λp hp=>by
  rw[(S.fv_head ⟨.mt n,.mt [] p n hp,zaM n⟩).2,zcl k (Tr.mt [] p n hp) (zaM n),zaw]
 unfold za8;rw[List.mem_map]
 constructor
 ·rintro⟨m,hm,e⟩
  injection e with e1 e2;subst e1;rw[List.mem_filter]at hm
  obtain⟨p,hp⟩:=hd2 m hm.1;have h2:=of_decide_eq_true hm.2;rw[hp]at h2 e2
  have h2:hd p≠p:=h2;have e2:toTy (tv G k (hd p))=t:=e2;rcases hUG m p hp with h|h
  ·exact⟨λhk=>h2 (S.mt_root gs h hk),by rw[<-e2,hval p h]⟩
  ·exact absurd h.1 h2
 ·rintro⟨hk,rfl⟩
  obtain⟨p,hp⟩:=hU n hk;have hG:G p=some ⟨2,⟨#[]⟩,n,[],none,false⟩:=by
   rcases hUG n p hp with h|h
   ·exact h
   ·exact absurd h.2 hk
  refine⟨n,List.mem_filter.2 ⟨hall n p hp,?_⟩,?_⟩
  ·rw[hp]
   exact decide_eq_true λ(e:hd p=p)=>hk (S.un p n hG e)
  ·rw[hp]
   show(n,toTy (tv G k (hd p)))=_;rw[hval p hG]
theorem zj2(S:HdS G L hd k [] O)(gs:GrS G)(hUG:∀n p,U n=some p->G p=some ⟨2,⟨#[]⟩,n,[],none,false⟩\/(hd p=p/\k n=.mt n))(hU:∀n,k n≠.mt n->∃p,U n=some p) {done:List Nat}(hn:done.Nodup)(hd2:∀n∈done,∃p,U n=some p)(hall:∀n p,U n=some p->n∈done) {l:List (Nat × Ty)}(hp:l.Perm (za8 U G k hd done))(hs:(l.map (·.1)).Pairwise (·<=·)):Told k l where
 up:=by
  have hnd:(l.map (·.1)).Nodup:=by
   refine(hp.map (·.1)).nodup_iff.2 ?_;unfold za8;rw[List.map_map]
   have:((λx:Nat × Ty=>x.1) ∘ λn=>(n,toTy (tv G k (hd ((U n).getD 0)))))=id:=rfl;rw[this,List.map_id]
   exact hn.filter _
  exact(List.pairwise_and_iff.2 ⟨hs,hnd⟩).imp λh=>Nat.lt_of_le_of_ne h.1 h.2
 mem n t:=by rw[hp.mem_iff];exact zlr S gs hUG hU hd2 hall n t
end
theorem SolW.fil {b mu mk B:Nat} {G:Nat->Option Nd} {U:Nat->Option Nat} {hd:Nat->Nat} {s:Int} {D:Nat->Dy} {mv v:Value} {k:Sb} {W:World}(h:SolW b mu mk B G U hd s D mv v [] W):FilM b mk W.heap.size v mv (.map (some mu)) (.int .i64 s) G k hd (λ_=>False) D W where
 sb:=h.sb
 kn:=h.kn
 pd:=h.pd
 fd q x hx hf:=by rw[h.fl q x hx]at hf;cases hf
 da:=h.da
 tt g hg:=hg.elim
 lb:=⟨h.sb.lt,by obtain⟨K,hK⟩:=h.kn;exact hK.mp.lt,λq x hx=>by obtain⟨_,_,hb,_⟩:=h.pd q x hx;exact hb.lt,λq x hx hn=>by
  obtain⟨_,_,_,hr⟩:=h.pd q x hx;obtain⟨_,cur,hcur,_⟩:=hr hn;exact(Array.getElem?_eq_some_iff.1 hcur).1⟩
 ls:=Nat.le_refl _
def AnsR(b mu mk r:Nat)(c0 c1 c4:Value)(G:Nat->Option Nd)(k:Sb)(hd:Nat->Nat)(U:Nat->Option Nat)(l:List (Nat × Nat))(W:World)(v3:Value)(wr:World):Prop :=
 ∃done T D vs,RngK IK wr mu r l done/\done.Nodup/\(∀n∈done,∃p,U n=some p)/\FilM b mk W.heap.size c0 c1 (.map (some mu)) c4 G k hd T D wr/\wr.ownsRow W.heap.size 39 5 v3 (za8 U G k hd done).length vs/\KnRow T wr (za8 U G k hd done) vs /\
  Chg (λg=>g=mk\/∃x,G g=some x) W wr
set_option maxRecDepth 100000
theorem zgR:znB:=by
 intro b mu mk B G L U hd s D mv v k O W hw S gs hUG hU hwt;have q2:W.cell? ⟨b,2,none⟩=some (.map (some mu)):=hw.sb.cell 2;have hbl:=hw.sb.lt;have HMI:Hid (MapK IK okT W mu U):=hidE hw.mi;have HFIL:=hidE (hw.fil (k:=k));have HLQ:=hidE hw.lq;have HMM:=hidE hw.mm;have HS:=hidE S;have HGS:=hidE gs;have HUG:=hidE hUG;have HU:=hidE hU;have HWT:=hidE hwt;have HML:Hid (mu<W.heap.size/\mk<W.heap.size):=hidE ⟨(show MapK IK okT W mu U from hw.mi).lt,by obtain⟨K,hK⟩:=hw.kn;exact hK.mp.lt⟩;obtain⟨i0,hi0,hz0,hz1,hz2⟩:=info_parts infoKn;clear hw S gs hUG hU hwt;go_enter Tryz.func37,Tryz.ntmps37
 go_wp2_with (first
  |(at_range;refine zg6 _ rfl _ 82 rfl 3 75 Tryz.underlying82 mu U rfl HMI.out ?_;intro w0 l hrg0 hln hul hg0 hs0)
  |go_in)
 have HRG0:=hidE hrg0;have HLN:=hidE hln;have HUL:=hidE hul;have HG0:=hidE hg0;have HS0:=hidE hs0;clear hrg0 hln hul hg0 hs0 q2;go_frame
 go_loopw [3] (λv3 wr=>AnsR b mu mk W.heap.size v mv (.int .i64 s) G k hd U l W v3 wr) (λ_ wr=>wr.rangeLeft mu W.heap.size)
 case atStart =>
  have hk0:∀g,g<W.heap.size->w0.heap[g]?=W.heap[g]?:=λg hg=>HG0.out.block g hg (λe=>by cases e);refine⟨[],λ_=>False,D,[],HRG0.out,List.nodup_nil,(λ_ h=>by cases h),HFIL.out.keep hk0 (λg hg=>hg.elim) (λx ⟨cs,hx⟩=>⟨cs,(hk0 x (Array.getElem?_eq_some_iff.1 hx).1).trans hx⟩) HG0.out.size,World.ownsRow_nil _ _ _ _,?_,⟨HG0.out.os,HG0.out.tape,HG0.out.output,HG0.out.size,λg hg _=>hk0 g hg⟩⟩;show KnRow _ _ [] [];rw[KnRow]
 case round =>
  obtain⟨done,T,D1,vs,hrg,hdn,hdu,hfm,hown,hkn,hch⟩:=hrel;have hlen:=zlq HS.out.gr HUG.out HWT.out hdn hdu;have HLEN:=hidE hlen;have HTT:Hid (∀g,T g->u3.ownBlock≠some g/\g<wr.heap.size):=hidE (λg hg=>by
   obtain⟨_,cur,hcur⟩:=hfm.tt g hg;refine⟨λe=>?_,(Array.getElem?_eq_some_iff.1 hcur).1⟩;obtain⟨_,_,cur2,hcur2⟩:=zab hown g e;rw[hcur]at hcur2
   injection hcur2 with hcur2;injection hcur2 with _ ht _;exact absurd ht (by decide))
  have HRG:=hidE hrg;have HDN:=hidE hdn;have HDU:=hidE hdu;have HFM:=hidE hfm;have HOWN:=hidE hown;have HKN:=hidE hkn;have HCH:=hidE hch;clear hrg hdn hdu hfm hown hkn hch hlen;go_wp2_with (first
   |(at_next;refine zhK _ rfl _ rfl mu W.heap.size l done rfl HRG.out HLN.out ?_ ?_)
   |go_in)
  ·intro hall
   have hsort:=zoh T W.heap.size (za8 U G k hd done) vs u3 wr HOWN.out HKN.out HTT.out (by have:=HLEN.out;omega);have HSORT:=hidE hsort;have HALL:=hidE hall;clear hsort hall;go_wp2_with fail
   refine HSORT.out.mono ?_;rintro e w2 ⟨rfl,l',vs',hp,hs,ho',hk',hc'⟩;have HP:=hidE hp;have HSO:=hidE hs;have HO:=hidE ho';have HK:=hidE hk';have HC:=hidE hc';clear hp hs ho' hk' hc';go_wp2_with fail
   go_ret
   refine⟨_,l',T,rfl,⟨vs',HO.out,HK.out⟩,zj2 HS.out HGS.out HUG.out HU.out HDN.out HDU.out (λn p hn=>HALL.out n p (zhI (by rw[<-HUL.out];exact hn))) HP.out HSO.out,λg hg=>⟨(HFM.out.tt g hg).1,Nat.lt_of_lt_of_le (HTT.out g hg).2 HC.out.size⟩,HCH.out.trans' HC.out (λg hg e=>?_)⟩;have:=(zab HOWN.out g e).1;omega
  ·intro n p w1 hxp hnd hrg1 hlt1 hg1 hs1 hen
   unfold PK IK at hen ⊢;have hUn:U n=some p:=by rw[HUL.out];exact zhJ HLN.out hxp
   have hr1:∀g,g<wr.heap.size->g≠W.heap.size->w1.heap[g]?=wr.heap[g]?:=λg hg hn=>hg1.block g hg (λe=>hn (Option.some.inj e));have hc1:∀(g:Nat) (cs:Array Value) (t:TypeId),wr.heap[g]?=some (.cells cs t (0,0))->w1.heap[g]?=wr.heap[g]?:=λg cs t hg=>hr1 g (Array.getElem?_eq_some_iff.1 hg).1 (HRG.out.noCells hg).2;have hfm1:FilM b mk W.heap.size v mv (.map (some mu)) (.int .i64 s) G k hd T D1 w1:=HFM.out.keep (λg hg=>hr1 g (Nat.lt_of_lt_of_le hg HFM.out.ls) (by omega)) (λg hg=>by obtain⟨_,cur,hcur⟩:=HFM.out.tt g hg;exact hc1 g cur _ hcur) (λx ⟨cs,hx⟩=>⟨cs,(hc1 x cs _ hx).trans hx⟩) (by omega);have hch1:Chg (λg=>g=mk\/∃x,G g=some x) W w1:=HCH.out.trans' ⟨hg1.os,hg1.tape,hg1.output,hg1.size,λg hg hn=>hr1 g hg hn⟩ (λg hg e=>by have e:g=W.heap.size:=e;omega);have hown1:=zal HOWN.out (λg hg=>by obtain⟨_,_,cur,hcur⟩:=zab HOWN.out g hg;exact hc1 g cur _ hcur);have hkn1:KnRow T w1 (za8 U G k hd done) vs:=HKN.out.keep (λ_ h=>h) (λg hg=>by obtain⟨_,cur,hcur⟩:=HFM.out.tt g hg;exact hc1 g cur _ hcur) _ _;have hlq1:LaidQ w1 p:=by
    by_cases hG:∃x,G p=some x
    ·obtain⟨x,hx⟩:=hG
     exact(hfm1.pd p x hx).laid
    ·obtain⟨cs,hx⟩:=HLQ.out n p hUn
     refine⟨cs,(hch1.block p (Array.getElem?_eq_some_iff.1 hx).1 (λe=>?_)).trans hx⟩;rcases e with e|e
     ·rw[e]at hx
      obtain⟨K,hK⟩:=HFIL.out.kn;exact MapK.no hK.mp hx
     ·exact hG e
   obtain⟨K1,hK1⟩:=hfm1.kn;have hhead:=zeI b mk K1 hd p w1 _ _ _ _ hfm1.sb hK1 hlq1;have HHEAD:=hidE hhead;have HUN:=hidE hUn;have HND:=hidE hnd;have HRG1:=hidE hrg1;have HLT1:=hidE hlt1;have HFM1:=hidE hfm1;have HCH1:=hidE hch1;have HOWN1:=hidE hown1;have HKN1:=hidE hkn1;have HLQ1:=hidE hlq1;have HK1:=hidE hK1;clear hUn hr1 hc1 hfm1 hch1 hown1 hkn1 hlq1 hK1 hhead hxp hnd hrg1 hlt1 hg1 hs1 HRG HFM HOWN HKN HCH;go_wp2_with fail
   refine HHEAD.out.mono ?_;rintro e w2 ⟨rfl,K2,hk2,hc2,hs2,hlq2⟩;have hlqp:=HLQ1.out.chg HK1.out.mp hc2;have hq:=zoi hlq2 hlqp;have hc2c:∀(g:Nat) (x:Obj),w1.heap[g]?=some x->g≠mk->w2.heap[g]?=w1.heap[g]?:=λg x hx hn=>hc2.block g (Array.getElem?_eq_some_iff.1 hx).1 (λe=>hn e);have hcc:∀(g:Nat) (cs:Array Value) (t:TypeId),w1.heap[g]?=some (.cells cs t (0,0))->w2.heap[g]?=w1.heap[g]?:=λg cs t hg=>hc2c g _ hg (λe=>by rw[e]at hg;exact MapK.no HK1.out.mp hg);have hm2:w2.heap[mu]?=w1.heap[mu]?:=by
    obtain⟨es,_,_,_,_,h1,_⟩:=HRG1.out;exact hc2c mu _ h1 HMM.out
   have hr2:w2.heap[W.heap.size]?=w1.heap[W.heap.size]?:=by
    obtain⟨es,_,_,_,_,_,_,_,h1,_⟩:=HRG1.out;exact hc2c _ _ h1 (by have:=HML.out.2;omega)
   have hrg2:=HRG1.out.keep hm2 hr2;have hrl2:=zce hm2 hr2;have hfm2:=HFM1.out.head hc2 ⟨K2,hk2⟩;have hown2:=zal HOWN1.out (λg hg=>by obtain⟨_,_,cur,hcur⟩:=zab HOWN1.out g hg;exact hcc g cur _ hcur);have hkn2:KnRow T w2 (za8 U G k hd done) vs:=HKN1.out.keep (λ_ h=>h) (λg hg=>by obtain⟨_,cur,hcur⟩:=HFM1.out.tt g hg;exact hcc g cur _ hcur) _ _;have hch2:=HCH1.out.trans' hc2 (λg _ e=>.inl e);have HNDN:Hid ((done++[n]).Nodup/\∀m∈done++[n],∃q,U m=some q):=hidE (by
    refine⟨?_,λm hm=>?_⟩
    ·rw[List.nodup_append]
     exact⟨HDN.out,by simp,λa ha c hc e=>HND.out (by rw[List.mem_singleton]at hc;rw[<-hc,<-e];exact ha)⟩
    ·rcases List.mem_append.1 hm with hm|hm
     ·exact HDU.out m hm
     ·rw[List.mem_singleton]at hm;rw[hm];exact⟨p,HUN.out⟩)
   have HRG2:=hidE hrg2;have HRL2:=hidE hrl2;have HFM2:=hidE hfm2;have HOWN2:=hidE hown2;have HKN2:=hidE hkn2;have HCH2:=hidE hch2;clear hk2 hc2 hs2 hlq2 hlqp hc2c hcc hm2 hr2 hrg2 hrl2 hfm2 hown2 hkn2 hch2 HHEAD HRG1 HFM1 HCH1 HOWN1 HKN1 HLQ1 HK1;by_cases hpp:hd p=p
   ·rw[hpp]at hq ⊢
    rw[decide_eq_true rfl]at hq
    have HPP:=hidE hpp;clear hpp;go_wp2_with fail
    go_roundw
    case rel =>
     refine⟨done++[n],T,D1,vs,HRG2.out,HNDN.out.1,HNDN.out.2,HFM2.out,?_,?_,HCH2.out⟩
     ·rw[zfN HUN.out HPP.out];exact HOWN2.out
     ·rw[zfN HUN.out HPP.out];exact HKN2.out
    case measure=>rw[HRL2.out];exact HLT1.out
   ·have hG:G p=some ⟨2,⟨#[]⟩,n,[],none,false⟩:=by
     rcases HUG.out n p HUN.out with h|h
     ·exact h
     ·exact absurd h.1 hpp
    obtain⟨y,hy⟩:=HS.out.gr.hin p _ hG;have hfv:=(HS.out.fv_head ⟨.mt n,.mt [] p n hG,zaM n⟩).1;have hfil:=zlm b mk W.heap.size (hd p) _ _ _ _ G L k hd T D1 O w2 HFM2.out HS.out hfv (HS.out.gr.idm p) y hy HWT.out;rw[decide_eq_false (λe=>hpp e.symm)]at hq
    have HTL:=hidE (zlp (U:=U) (G:=G) (k:=k) (done:=done) HUN.out hpp);obtain⟨t,ht⟩:∃t,toTy (tv G k (hd p))=t:=⟨_,rfl⟩;obtain⟨h,hh⟩:∃h,hd p=h:=⟨_,rfl⟩;obtain⟨m,hm⟩:∃m,(za8 U G k hd done).length=m:=⟨_,rfl⟩;have hm6:m+1<=1000000:=by rw[<-hm];exact HLEN.out
    have HM:=hidE hm;have hown2:=HOWN2.out;rw[hm]at hown2
    rw[hh]at hq hfil ⊢
    rw[ht]at HTL
    have HT:=hidE (show toTy (tv G k h)=t by rw[<-hh];exact ht);obtain⟨A3,a3,rfl⟩:=zao hown2;have HO2:=hidE hown2;have HFILL:=hidE hfil;clear hG hy hfv hfil hpp ht hh hm hown2 HOWN2;go_wp2_with fail
    refine HFILL.out.mono ?_;rintro e w3 ⟨v7,T',D',rfl,⟨A7,c7,rfl,ha7⟩,hfm3,hT3,hc3⟩;rw[HT.out]at ha7 ⊢
    have hcc3:∀(g:Nat) (cs:Array Value) (ty:TypeId),w2.heap[g]?=some (.cells cs ty (0,0))->ty≠132->w3.heap[g]?=w2.heap[g]?:=λg cs ty hg hn=>hc3.block g (Array.getElem?_eq_some_iff.1 hg).1 (λe=>by
     rcases e with e|⟨x,hx⟩
     ·obtain⟨K,hK⟩:=HFM2.out.kn
      rw[e]at hg
      exact MapK.no hK.mp hg
     ·obtain⟨_,_,hb,_⟩:=HFM2.out.pd g x hx
      have hb:w2.heap[g]?=some _:=hb;rw[hg]at hb
      injection hb with hb;injection hb with _ hb _;exact hn hb)
    have hno3:∀(g:Nat),g=mu\/g=W.heap.size->w3.heap[g]?=w2.heap[g]?:=λg hg=>by
     have hl:=HRG2.out.lt;refine hc3.block g (by rcases hg with e|e <;> omega) (λe=>?_);rcases e with e|⟨x,hx⟩
     ·rcases hg with e'|e'
      ·exact HMM.out (e'.symm.trans e)
      ·have:=HML.out.2;omega
     ·obtain⟨_,_,hb,_⟩:=HFM2.out.pd g x hx
      have:=HRG2.out.noCells hb;rcases hg with e'|e'
      ·exact this.1 e'
      ·exact this.2 e'
    have hrg3:=HRG2.out.keep (hno3 mu (.inl rfl)) (hno3 _ (.inr rfl));have hrl3:=(zce (hno3 mu (.inl rfl)) (hno3 _ (.inr rfl))).trans HRL2.out;have hown3:=zal HO2.out (λg hg=>by obtain⟨_,_,cur,hcur⟩:=zab HO2.out g hg;exact hcc3 g cur _ hcur (by decide));have hkn3:KnRow T' w3 (za8 U G k hd done) vs:=HKN2.out.keep hT3 (λg hg=>by obtain⟨_,cur,hcur⟩:=HFM2.out.tt g hg;exact hcc3 g cur _ hcur (by decide)) _ _;have hch3:=HCH2.out.trans' hc3 (λg _ e=>e);obtain⟨k7,hk7⟩:∃x:Int,((kd t:Nat):Int)=x:=⟨_,rfl⟩;obtain⟨x7,hx7⟩:∃x,nmB t=x:=⟨_,rfl⟩;obtain⟨z7,hz7⟩:∃x:Int,((nn t:Nat):Int)=x:=⟨_,rfl⟩;obtain⟨n7,hn7⟩:∃x,(kids t).length=x:=⟨_,rfl⟩;have HTV:Hid (knV n t A7 c7=[.int .i64 (n:Nat),.int .i64 k7,.string x7,.int .i64 z7,.slice A7 n7 c7]):=hidE (by unfold knV tyV;rw[hk7,hx7,hz7,hn7]);rw[hk7,hx7,hz7,hn7]
    have HA7:=hidE ha7;have HFM3:=hidE hfm3;have HT3:=hidE hT3;have HRG3:=hidE hrg3;have HRL3:=hidE hrl3;have HO3:=hidE hown3;have HO4:=hidE (hown3.alloc (.cells #[.int .i64 (n:Nat),.int .i64 k7,.string x7,.int .i64 z7,.slice A7 n7 c7] 39));have HKN3:=hidE hkn3;have HCH3:=hidE hch3;have HL3:Hid (W.heap.size<=w3.heap.size):=hidE hfm3.ls;clear ha7 hfm3 hT3 hc3 hcc3 hno3 hrg3 hrl3 hown3 hkn3 hch3 hk7 hx7 hz7 hn7 HT HFILL HRG2 HRL2 HFM2 HKN2 HCH2 HO2;go_wp2_with (at_builtin;refine wpList_append_own_at _ rfl (.tmp 23) (.tmp 29) 28 rfl W.heap.size 39 i0 _ 5 64 Tryz.underlying28 hi0 hz0 hz1 hz2 rfl (by decide) _ m vs rfl HO4.out ⟨w3.heap.size,0,none⟩ 1 1 [.int .i64 (n:Nat),.int .i64 k7,.string x7,.int .i64 z7,.slice A7 n7 c7] rfl rfl (zar _ _ _ _ (by simp)) (by intro u hu;simp at hu;rcases hu with rfl|rfl|rfl|rfl|rfl <;> rfl) (by unfold maxLen;omega) (by omega) (by have:=HL3.out;simp;omega) ?_;intro v5 w5 hown5 hgrow _ hat5;obtain⟨A5,a5,rfl⟩:=zao hown5;have HO5:=hidE hown5;have HG5:=hidE hgrow;clear hown5 hgrow hat5)
    have HR:Hid (AnsR b mu mk W.heap.size v mv (.int .i64 s) G k hd U l W (.slice A5 (m+1) a5) w5/\w5.rangeLeft mu W.heap.size=w1.rangeLeft mu W.heap.size):=hidE (by
     have hk5:∀g,g<w3.heap.size->some g≠(Value.slice A3 m a3).ownBlock->w5.heap[g]?=w3.heap[g]?:=λg hg hn=>(HG5.out.block g (by simp;omega) hn).trans (Below.heap_alloc _ _ _ hg);have hc5:∀(g:Nat) (cs:Array Value) (ty:TypeId),w3.heap[g]?=some (.cells cs ty (0,0))->ty≠39->w5.heap[g]?=w3.heap[g]?:=λg cs ty hg hn=>hk5 g (Array.getElem?_eq_some_iff.1 hg).1 (λe=>by
      obtain⟨_,_,cur,hcur⟩:=zab HO3.out g e.symm;rw[hg]at hcur
      injection hcur with hcur;injection hcur with _ hcur _;exact hn hcur)
     have hno5:∀(g:Nat),g=mu\/g=W.heap.size->w5.heap[g]?=w3.heap[g]?:=λg hg=>by
      have hl:=HRG3.out.lt;refine hk5 g (by rcases hg with e|e <;> omega) (λe=>?_);obtain⟨_,_,cur,hcur⟩:=zab HO3.out g e.symm;have:=HRG3.out.noCells hcur;rcases hg with e'|e'
      ·exact this.1 e'
      ·exact this.2 e'
     have hs5:w3.heap.size<=w5.heap.size:=by have:=HG5.out.size;simp at this;omega
     have hfm5:FilM b mk W.heap.size v mv (.map (some mu)) (.int .i64 s) G k hd T' D' w5:=HFM3.out.keep (λg hg=>hk5 g (by have:=HL3.out;omega) (λe=>by have:=(zab HO3.out g e.symm).1;omega)) (λg hg=>by obtain⟨_,cur,hcur⟩:=HFM3.out.tt g hg;exact hc5 g cur _ hcur (by decide)) (λx ⟨cs,hx⟩=>⟨cs,(hc5 x cs _ hx (by decide)).trans hx⟩) hs5;refine⟨⟨done++[n],T',D',vs++knV n t A7 c7,HRG3.out.keep (hno5 mu (.inl rfl)) (hno5 _ (.inr rfl)),HNDN.out.1,HNDN.out.2,hfm5,?_,?_,?_⟩,(zce (hno5 mu (.inl rfl)) (hno5 _ (.inr rfl))).trans HRL3.out⟩
     ·rw[HTL.out,List.length_append,HM.out,HTV.out];exact HO5.out
     ·rw[HTL.out]
      refine KnRow.snoc (HKN3.out.keep (λ_ h=>h) (λg hg=>by obtain⟨_,cur,hcur⟩:=HFM3.out.tt g hg;exact hc5 g cur _ hcur (by decide)) _ _) (HA7.out.keep (λ_ h=>h) (λg hg=>by obtain⟨_,cur,hcur⟩:=HFM3.out.tt g hg;exact hc5 g cur _ hcur (by decide)))
     ·refine HCH3.out.trans' (M1:=λg=>(Value.slice A3 m a3).ownBlock=some g) ⟨HG5.out.os,HG5.out.tape,HG5.out.output,hs5,λg hg hn=>hk5 g hg (λe=>hn e.symm)⟩ (λg hg e=>?_)
      have:=(zab HO3.out g e).1;omega)
    clear HO4 HO5 HG5 HO3;go_roundw
    case rel=>exact HR.out.1
    case measure=>rw[HR.out.2];exact HLT1.out
end Go.Proofs.YtfafilmklhnngaaGreatDoor
