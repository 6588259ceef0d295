import Derived.Test.YtknkclefoiohpaaGreatDoorKaAJ
import Derived.Deep.WholeRow
set_option maxHeartbeats 12800000
namespace Go.Proofs.YtknkclefoiohpaaGreatDoor
open Go.RowKit Lx Tx Sx Go.Maps Go.WideMaps Go.Shelf
set_option maxRecDepth 100000
def mS(l:List De)(j:Nat):Mets:=if j=0 then met0 else metF l
def resJ(l:List De)(j:Nat):Nm × Nat :=
 if j=0 then chk l
 else if j=1 then(match goL 1 (metF l) l with
  |some y=>y
  |none=>match goL 2 (metF l) l with
   |some y=>y
   |none=>([],0))
 else if j=2 then(match goL 2 (metF l) l with
  |some y=>y
  |none=>([],0))
 else([],0)
theorem zmS {l:List De} {j:Nat}(hj:j<3) {y:Nm × Nat}(h:goL j (mS l j) l=some y):resJ l j=y:=by
 match j,hj with
 |0,_=>show chk l=y;rw[zgb,show goL 0 met0 l=some y from h]
 |1,_=>show(match goL 1 (metF l) l with|some y=>y|none=>_)=y;rw[show goL 1 (metF l) l=some y from h]
 |2,_=>show(match goL 2 (metF l) l with|some y=>y|none=>_)=y;rw[show goL 2 (metF l) l=some y from h]
theorem zmT {l:List De} {j:Nat}(hj:j<3)(h:goL j (mS l j) l=none):resJ l j=resJ l (j+1):=by
 match j,hj with
 |0,_=>show chk l=resJ l 1;rw[zgb,show goL 0 met0 l=none from h];rfl
 |1,_=>show(match goL 1 (metF l) l with|some y=>y|none=>_)=resJ l 2;rw[show goL 1 (metF l) l=none from h];rfl
 |2,_=>show(match goL 2 (metF l) l with|some y=>y|none=>_)=resJ l 3;rw[show goL 2 (metF l) l=none from h];rfl
theorem zkX(m:Mets)(x:De)(j:Nat):(zaS j m x).size<=m.size+x.wt:=by
 unfold zaS Mets.size;split
 ·cases x with
  |data n ps l =>
   have hl:l.length<=za2 l:=by
    induction l with
    |nil=>exact tV _
    |cons c r ih=>simp only[ui,za2,conW];omega
   simp only[Mets.next,De.wt,uf,ui,uF,conNames,wG];omega
  |sig n t=>simp only[Mets.next,De.wt,uf,ui,uF];omega
  |bind n e=>simp only[Mets.next,De.wt,uf,ui,uF];omega
 ·omega
theorem zia(a b:List De):desW (a++b)=desW a+desW b:=by
 induction a with
 |nil=>simp[desW]
 |cons x a ih=>simp only[uS,desW,ih];omega
theorem fold_size(j:Nat):∀(l:List De)(m:Mets),(l.foldl (zaS j) m).size<=m.size+desW l
 |[],m=>by simp[desW]
 |x::r,m=>by
  have h1:=fold_size j r (zaS j m x);have h2:=zkX m x j;rw[vF]
  simp only[desW];omega
theorem zmU(l:List De)(j:Nat):l.foldl (zaS j) (mS l j)=mS l (j+1):=by
 by_cases h:j=0
 ·subst h
  have:(zaS 0:Mets->De->Mets)=Mets.next:=by funext m x;rfl
  rw[this]
  rfl
 ·have:(zaS j:Mets->De->Mets)=λm _=>m:=by funext m x;unfold zaS;rw[ue h]
  rw[this,show mS l j=metF l from ue h,show mS l (j+1)=metF l from ue (by omega)]
  generalize metF l=m;induction l with
  |nil=>rfl
  |cons x r ih=>exact ih
theorem zov(l:List De)(j:Nat):(mS l j).size<=1+desW l:=by
 unfold mS;split
 ·have:met0.size=1:=rfl
  omega
 ·have h:=fold_size 0 l met0
  have:(zaS 0:Mets->De->Mets)=Mets.next:=by funext m x;rfl
  rw[this]at h
  have:met0.size=1:=rfl;unfold metF;omega
theorem zmV(l:List De)(j i:Nat):((l.take i).foldl (zaS j) (mS l j)).size<=1+desW l:=by
 have h3:=uC desW (vQ i l);rw[zia]at h3
 by_cases h:j=0
 ·subst h
  have:=fold_size 0 (l.take i) (mS l 0);have:(mS l 0).size=1:=rfl;omega
 ·have:(zaS j:Mets->De->Mets)=λm _=>m:=by funext m x;unfold zaS;rw[ue h]
  rw[this]
  have h2:=zov l j;have h4:∀(r:List De) (m:Mets),r.foldl (λm _=>m) m=m:=λr=>by
   induction r with
   |nil=>exact λ_=>rfl
   |cons x r ih=>exact λm=>ih m
  rw[h4]
  exact h2
theorem zpr {j:Nat} {l:List De} {i:Nat} {x:De} {m:Mets}(hx:l[i]?=some x)(h:za7 j m x=none):goL j m (l.drop i)=goL j (zaS j m x) (l.drop (i+1)):=by
 have hi:=(uj.1 hx).1;have:l.drop i=x::l.drop (i+1):=by
  rw[uG hi]
  congr 1
  exact(uj.1 hx).2
 rw[this,goL,h]
theorem zib {j:Nat} {l:List De} {i:Nat} {x:De} {m:Mets} {y:Nm × Nat}(hx:l[i]?=some x)(h:za7 j m x=some y):goL j m (l.drop i)=some y:=by
 have hi:=(uj.1 hx).1;have:l.drop i=x::l.drop (i+1):=by
  rw[uG hi]
  congr 1
  exact(uj.1 hx).2
 rw[this,goL,h]
theorem zow {j:Nat} {m:Mets} {x:De} {y:Nm × Nat}(h:za7 j m x=some y):y.2≠0:=by
 unfold za7 at h;split at h
 ·obtain⟨z,-,rfl⟩:=Option.map_eq_some_iff.1 h
  exact(by decide:(90:Nat)≠0)
 ·split at h
  ·cases x with
   |data n ps l=>cases h
   |bind n e=>cases h
   |sig n t =>
    simp only at h;split at h
    ·cases h
    ·injection h with h;subst h;exact(by decide:(92:Nat)≠0)
  ·cases x with
   |data n ps l=>cases h
   |sig n e=>cases h
   |bind n e=>rcases(ze6 h).2 with h|h <;> omega
theorem zmW {S:Nat->Prop} {w:World} {x:De} {cs:List Value}(h:pcD.Cs S w x cs):cs.length=17/\cs.toArray.all (·.oneCell')=true:=by
 refine⟨pcD.len h,?_⟩;cases x with
 |data n ps l =>
  obtain⟨V,v,A,a,rfl,-⟩:=h;simp[tyZl,exZl,Value.oneCell',Sx.strV]
 |sig n t =>
  obtain⟨A,a,rfl,-⟩:=h;obtain⟨K,X,Z,B,mm,q,hs⟩:=zaT (some t) A a;rw[show tyV t A a=tyC (some t) A a from rfl,hs]
  simp[exZl,Value.oneCell',Sx.strV]
 |bind n e =>
  obtain⟨P,rfl,-⟩:=h;obtain⟨k1,x1,t1,K1,X1,Z1,B1,m1,q1,cE,cz,cA,cD,cw,cy,hs⟩:=zdg e P;rw[hs]
  simp[tyZl,Value.oneCell',Sx.strV]
theorem zhi(l:List De)(S:Nat->Prop)(A:Option Addr)(n d:Nat)(w:World)(hl:LstG pcD S w l A)(hn:n=l.length)(hS:∀g,S g->g<w.heap.size)(hw:desW l<=4000)(ay:∀x∈l,De.Ok x):Calls Tryz.prog 24 #[.slice A n d] w λe w'=>e=.returned (.tuple #[.string ⟨(chk l).1.toArray⟩,.int .i64 ((chk l).2:Nat)])/\Below w.heap.size w w':=by
 have fk:∀w,(Instr.makeMap 123 none).run Tryz.prog w=.ok (.map (some w.heap.size)) (w.alloc (.map #[] 0)):=λ_=>rfl;have HM:Hid (MapE mkMet (w.alloc (.map #[] 0)) w.heap.size []):=wJ (MapE.made mkMet w);obtain⟨R,hR⟩:∃R,chk l=R:=⟨_,rfl⟩;rw[hR]
 have HR0:Hid (resJ l 0=R):=wJ hR;have HL:=wJ hl;have HN:=wJ hn.symm;have HS:=wJ hS;have HW:=wJ hw;have gb:=wJ ay;have pw:n<=4000:=by
  have:∀l:List De,l.length<=desW l:=λl=>by
   induction l with
   |nil=>exact tV _
   |cons x r ih =>
    simp only[ui,desW];have:1<=x.wt:=by cases x <;> simp[De.wt]
    omega
  have:=this l;omega
 clear hl hn hS hw ay hR;go_enter Tryz.func24,Tryz.ntmps24
 go_wp2_with (refine zjv mkMet _ rfl _ _ _ rfl w.heap.size [] rfl HM.out (by decide) ⟨#[65,110,121]⟩ (by decide) rfl () trivial rfl ?_;intro w2 fK bH;have bN:=wJ fK;have dC:=wJ bH;clear fK bH)
 obtain⟨W0,ai⟩:∃x,((((w2.alloc (.map #[] 0)).alloc (.map #[] 0)).alloc (.map #[] 0)).alloc (.cells #[.map (some w.heap.size),.map (some w2.heap.size),.map (some (w2.heap.size+1)),.map (some (w2.heap.size+1+1))] 125)).alloc (.cells #[.func (.func 62) #[.agg #[.map (some w.heap.size),.map (some w2.heap.size),.map (some (w2.heap.size+1)),.map (some (w2.heap.size+1+1))]] #[],.func (.func 63) #[.agg #[.map (some w.heap.size),.map (some w2.heap.size),.map (some (w2.heap.size+1)),.map (some (w2.heap.size+1+1))]] #[],.func (.func 64) #[.agg #[.map (some w.heap.size),.map (some w2.heap.size),.map (some (w2.heap.size+1)),.map (some (w2.heap.size+1+1))]] #[]] 126)=x:=⟨_,rfl⟩;have bE:=dC.out.size;simp at bE;have hd:w.heap.size<w2.heap.size:=by omega
 have bO:W0.heap.size=w2.heap.size+5:=by rw[<-ai];simp
 have aA:Below w2.heap.size w2 W0:=ai▸(((((ua _ w2).alloc (tV _) _).alloc (by simp) _).alloc (by simp;omega) _).alloc (by simp;omega) _).alloc (by simp;omega) _;have aK:Below w.heap.size w W0:=(((ua _ w).alloc (tV _) (.map #[] 0)).grown dC.out (by simp) (λk hk=>by injection hk with hk;omega)).trans (aA.mono (by omega));have qP:Hid (MetsAt w.heap.size w2.heap.size (mS l 0) W0):=wJ (by
  refine⟨bN.out.keep (aA.block _ (by omega)),?_,?_,?_⟩
  ·exact ai▸((((MapE.made mkMet w2).keep (uc _ _ _ (by simp))).keep (uc _ _ _ (by simp;omega))).keep (uc _ _ _ (by simp;omega))).keep (uc _ _ _ (by simp;omega))
  ·have:=MapE.made mkMet (w2.alloc (.map #[] 0))
   rw[show(w2.alloc (.map #[] 0)).heap.size=w2.heap.size+1 by simp]at this
   exact ai▸((this.keep (uc _ _ _ (by simp))).keep (uc _ _ _ (by simp))).keep (uc _ _ _ (by simp))
  ·have:=MapE.made mkMet ((w2.alloc (.map #[] 0)).alloc (.map #[] 0))
   rw[show((w2.alloc (.map #[] 0)).alloc (.map #[] 0)).heap.size=w2.heap.size+2 by simp]at this
   exact ai▸(this.keep (uc _ _ _ (by simp))).keep (uc _ _ _ (by simp)))
 have hfs:Blk W0 (w2.heap.size+1+1+1+1) 126 #[.func (.func 62) #[.agg #[.map (some w.heap.size),.map (some w2.heap.size),.map (some (w2.heap.size+1)),.map (some (w2.heap.size+1+1))]] #[],.func (.func 63) #[.agg #[.map (some w.heap.size),.map (some w2.heap.size),.map (some (w2.heap.size+1)),.map (some (w2.heap.size+1+1))]] #[],.func (.func 64) #[.agg #[.map (some w.heap.size),.map (some w2.heap.size),.map (some (w2.heap.size+1)),.map (some (w2.heap.size+1+1))]] #[]]:=by
  have:=tW ((((w2.alloc (.map #[] 0)).alloc (.map #[] 0)).alloc (.map #[] 0)).alloc (.cells #[.map (some w.heap.size),.map (some w2.heap.size),.map (some (w2.heap.size+1)),.map (some (w2.heap.size+1+1))] 125)) (.cells #[.func (.func 62) #[.agg #[.map (some w.heap.size),.map (some w2.heap.size),.map (some (w2.heap.size+1)),.map (some (w2.heap.size+1+1))]] #[],.func (.func 63) #[.agg #[.map (some w.heap.size),.map (some w2.heap.size),.map (some (w2.heap.size+1)),.map (some (w2.heap.size+1+1))]] #[],.func (.func 64) #[.agg #[.map (some w.heap.size),.map (some w2.heap.size),.map (some (w2.heap.size+1)),.map (some (w2.heap.size+1+1))]] #[]] 126);rw[ai]at this
  unfold Blk;simpa using this
 have HFS:Hid (∀wr,Chg (metB w.heap.size w2.heap.size) W0 wr->∀j,j<3->wr.cell? ⟨w2.heap.size+1+1+1+1,j,none⟩=some (.func (.func (lkF j)) #[.agg #[.map (some w.heap.size),.map (some w2.heap.size),.map (some (w2.heap.size+1)),.map (some (w2.heap.size+1+1))]] #[])):=wJ λwr hc j hj=>by
  have hb:Blk wr _ _ _:=hfs.same (hc.block _ hfs.lt (by unfold metB;omega));match j,hj with
  |0,_=>exact hb.cell 0
  |1,_=>exact hb.cell 1
  |2,_=>exact hb.cell 2
 have bT:=wJ aK;have kP:Hid ((Tryz.prog.info? 59).map (·.size)=some 17):=wJ (by kernel_rfl);rw[ai]
 clear ai aA aK hfs dC bN HM;go_loopg [26] 3 (λgg vi wr=>∃j:Nat,gg=3-j/\vi=.int .i64 (j:Nat)/\j<=3/\Hid (Chg (metB w.heap.size w2.heap.size) W0 wr)/\Hid (MetsAt w.heap.size w2.heap.size (mS l j) wr)/\Hid (resJ l j=R))
 case atStart=>exact⟨0,rfl,rfl,by omega,wJ (Chg.refl _ _),qP,HR0⟩
 case round =>
  obtain⟨j,rfl,rfl,hj,hC,hMj,hRj⟩:=hrel;have hsC:=hC.out.size;by_cases ah:j<3
  ·have hf:=HFS.out wr hC.out j ah
   obtain⟨F,hF⟩:∃F,lkF j=F:=⟨_,rfl⟩;have ek:=zpq j;have HLK:=wJ (λm x cs W hM hv hS aG ay=>zou hd j ah m x S cs W hM hv hS aG ay);rw[hF]at hf ek HLK
   have i0:(0:Int)<=(j:Int):=by omega
   have i1:(j:Int)<3:=by omega
   clear hF qP;go_wp2_with fail
   go_loopg [32] n (λgg vi wr=>∃(i:Nat) (m:Mets),gg=n-i/\vi=.int .i64 (i:Nat)/\i<=n/\Hid (Chg (metB w.heap.size w2.heap.size) W0 wr)/\Hid (MetsAt w.heap.size w2.heap.size m wr)/\Hid (goL j (mS l j) l=goL j m (l.drop i))/\Hid (m=(l.take i).foldl (zaS j) (mS l j)))
   case atStart=>exact⟨0,mS l j,rfl,rfl,by omega,hC,hMj,wJ rfl,wJ rfl⟩
   case round =>
    obtain⟨i,m,rfl,rfl,hi,jJ,qF,fw,fK⟩:=hrel;have bo:=jJ.out.size;by_cases cg:i<n
    ·obtain⟨x,hx⟩:∃x,l[i]?=some x:=⟨_,ug (by rw[HN.out];exact cg)⟩
     obtain⟨g,cs,rfl,bh,au,ao⟩:=HL.out.row i x hx;have hnB:∀k,k<w.heap.size->¬metB w.heap.size w2.heap.size k:=λk hk=>by unfold metB;omega
     have dy:∀k,S k->wr.heap[k]?=w.heap[k]?:=λk hk=>(jJ.out.block k (by have:=HS.out k hk;omega) (hnB k (HS.out k hk))).trans (bT.out.block k (HS.out k hk));obtain⟨hlen,rL⟩:=zmW au;have av:Hid (wr.rangeAt g (i*17) cs):=wJ (Lie.keep ao (dy g bh));have fc:Hid ((Tryz.prog.info? 59).map (·.size)=some cs.length):=wJ (by rw[hlen];exact kP.out);have ko:Hid ((Tryz.prog.info? 59).map (·.size)=some cs.toArray.size):=wJ (by rw[List.size_toArray,hlen];exact kP.out);have HZ:Hid ((#[.int .i64 0,.string ⟨#[]⟩,.slice none 0 0,.slice none 0 0,.int .i64 0,.string ⟨#[]⟩,.int .i64 0,.slice none 0 0,.int .i64 0,.string ⟨#[]⟩,.bool false,.int .i64 0,.string ⟨#[]⟩,.int .i64 0,.slice none 0 0,.slice none 0 0,.slice none 0 0]:Array Value).size=cs.toArray.size):=wJ (by rw[show cs.toArray.size=17 by rw[List.size_toArray,hlen]];rfl);have jR:=wJ rL;have aV:g<wr.heap.size:=by have:=HS.out g bh;omega
     have rR:m.size+x.wt<=9000:=by
      have h1:=zmV l j i;rw[<-fK.out]at h1
      have h4:=zc4 l x (uM hx);have:=HW.out;omega
     have ak:=wJ (HLK.out m x cs (wr.alloc (.cells cs.toArray 59)) (qF.out.below ((ua _ wr).alloc (tV _) _)) (pcD.keep (λ_ h=>h) (λk hk=>(uc _ _ _ (by have:=HS.out k hk;omega)).trans (dy k hk)) au) (λk hk=>⟨by have:=HS.out k hk;simp;omega,hnB k (HS.out k hk)⟩) rR (gb.out x (uM hx)));have HX:=wJ hx;obtain⟨q,hq⟩:∃q,za7 j m x=q:=⟨_,rfl⟩;rw[hq]at ak
     have HQ:=wJ hq;clear hx bh au ao dy hlen rL rR hq hnB;go_wp2_with (first|((with_reducible refine wpList_load_mid ?_ 59 (.tmp 34) ?_ g (i*17) ?_ cs _ av.out Tryz.underlying59 ?_ fc.out ?_);(exact rfl);(exact rfl);(exact rfl);(exact rfl))|((with_reducible refine wpList_store_row ?_ 59 (.tmp 8) (.tmp 35) ?_ wr.heap.size cs.toArray ?_ ?_ 59 #[.int .i64 0,.string ⟨#[]⟩,.slice none 0 0,.slice none 0 0,.int .i64 0,.string ⟨#[]⟩,.int .i64 0,.slice none 0 0,.int .i64 0,.string ⟨#[]⟩,.bool false,.int .i64 0,.string ⟨#[]⟩,.int .i64 0,.slice none 0 0,.slice none 0 0,.slice none 0 0] (tW wr _) ko.out HZ.out jR.out ?_);(exact rfl);(exact rfl);(exact rfl);(exact rfl);rw[World.setRow_alloc_new])|((with_reducible refine wpList_load_row ?_ 59 (.tmp 8) ?_ wr.heap.size ?_ 59 cs.toArray (0,0) _ (tW wr _) Tryz.underlying59 ?_ ko.out ?_);(exact rfl);(exact rfl);(exact rfl);(exact rfl)))
     refine ak.out.mono ?_;rintro e w3 ⟨A3,n3,c3,rfl,eS,bC⟩;have eA:=eS.size;simp at eA;have dF:=wJ ((jJ.out.alloc (.cells cs.toArray 59)).below eS);have tB:=wJ bC;clear eS bC ak;go_wp2_with fail
     refine tB.out.mono ?_;rintro e w4 ⟨cP,X,k,rfl,bk,bG⟩;have o9:Hid (Chg (metB w.heap.size w2.heap.size) W0 w4):=wJ (dF.out.trans' cP (λp hp hm=>by
      rcases hm with h|h
      ·exact h
      ·simp at h;omega))
     clear cP tB;cases q with
     |none =>
      obtain⟨rfl,rfl,hQ⟩:=bk rfl;have jO:=wJ hQ;have HG4:Hid (goL j (mS l j) l=goL j (zaS j m x) (l.drop (i+1))):=wJ (fw.out.trans (zpr HX.out HQ.out));have lq:Hid (zaS j m x=(l.take (i+1)).foldl (zaS j) (mS l j)):=wJ (by rw[uL,HX.out,vP,<-fK.out];rfl);clear bk bG hQ;go_wp2_with fail
      go_roundg (n-(i+1))
      case measure=>omega
      case rel=>exact⟨i+1,zaS j m x,rfl,by go_num,by omega,o9,jO,HG4,lq⟩
     |some y =>
      obtain⟨rfl,rfl⟩:=bG y rfl;have bf:=zow HQ.out;have d:(((y.2:Nat):Int) != 0)=true:=neqT _ _ (by omega);have HRY:Hid (y=R):=wJ ((zmS ah (fw.out.trans (zib HX.out HQ.out))).symm.trans hRj.out);clear bk bG bf;go_wp2_with fail
      go_ret2
      exact⟨by rw[HRY.out];rfl,bT.out.trans (o9.out.toBelow bT.out.size (λp hp=>by unfold metB;omega))⟩
    ·obtain rfl:i=n:=by omega
     have dA:Hid (resJ l (j+1)=R):=wJ ((zmT ah (fw.out.trans (by rw[List.drop_of_length_le (by rw[HN.out];exact tV _)];rfl))).symm.trans hRj.out);have ja:Hid (MetsAt w.heap.size w2.heap.size (mS l (j+1)) wr):=wJ (by
      have:=fK.out;rw[ur (by rw[HN.out];exact tV _),zmU]at this
      exact this▸qF.out)
     clear cg ek hf HLK;go_wp2_with fail
     go_roundg (3-(j+1))
     case measure=>omega
     case rel=>exact⟨j+1,rfl,by go_num,by omega,jJ,ja,dA⟩
  ·obtain rfl:j=3:=by omega
   have ef:Hid ((([],0):Nm × Nat)=R):=wJ hRj.out;go_wp2_with fail
   go_ret2
   exact⟨by rw[<-ef.out];rfl,bT.out.trans (hC.out.toBelow bT.out.size (λp hp=>by unfold metB;omega))⟩
end Go.Proofs.YtknkclefoiohpaaGreatDoor
namespace Go.Proofs.YtknkclefoiohpaaGreatDoor
open Go.RowKit Lx Tx Sx Go.Maps Go.WideMaps Go.Shelf
set_option maxRecDepth 100000
theorem zox:∀(x:De),De.Ok x->∀y∈nmsD x,y.length<=24
 |.data n ps cs,h,y,hy=>by
  simp only[nmsD,uT,uz]at hy;rcases hy with rfl|hy|hy
  ·exact zaQ h.1 (by decide)
  ·exact zaQ (h.2.1 y hy) (by decide)
  ·obtain⟨c,hc,rfl⟩:=wI.1 hy
   exact zaQ (h.2.2 c hc).1 (by decide)
 |.sig x t,h,y,hy=>by
  simp only[nmsD,vL]at hy;exact hy▸zaQ h.1 (by decide)
 |.bind x e,h,y,hy=>by
  simp only[nmsD,uT]at hy;rcases hy with rfl|hy
  ·exact zaQ h.1 (by decide)
  ·exact zcw e h.2 y hy
theorem zkY {l:List De} :(chk l).1=[]\/∃y∈l,(chk l).1∈nmsD y:=by
 unfold chk;split
 ·rename_i y hy
  exact .inr (zpx hy)
 ·split
  ·rename_i y hy
   obtain⟨d,hd,hx⟩:=vT.1 (wg hy);exact .inr ⟨d,hd,by cases d <;> simp_all [sigOf,nmsD]⟩
  ·split
   ·rename_i y hy
    obtain⟨a,ha,h2⟩:=zcZ hy;obtain⟨z,hz⟩:=zoK ha;exact .inr ⟨_,hz,by simp only[nmsD,uT];exact .inr (ze6 h2).1⟩
   ·exact .inl rfl
theorem zps {l:List De}(h:∀x∈l,De.Ok x):(chk l).1.length<=24:=by
 rcases zkY (l:=l) with h1|⟨y,hy,h1⟩
 ·rw[h1];decide
 ·exact zox y (h y hy) _ h1
theorem zoy(l:List De):(chk l).2<=92:=by
 unfold chk;split
 ·exact(by decide:(90:Nat)<=92)
 ·split
  ·exact(by decide:(92:Nat)<=92)
  ·split
   ·rename_i y hy
    obtain⟨a,ha,h2⟩:=zcZ hy;rcases(ze6 h2).2 with h3|h3 <;> omega
   ·exact(by decide:(0:Nat)<=92)
def chkO(s:List UInt8):List UInt8:=match zbe s with
 |.ok p=>(chk p).1++[32]++dec (chk p).2
 |.error _=>[110,111,110,101]
theorem zoz {s:List UInt8} {p:List De}(h:zbe s=.ok p):chkO s=(chk p).1++[32]++dec (chk p).2:=by unfold chkO;rw[h]
theorem zmX {s:List UInt8} {n:Nat}(h:zbe s=.error n):chkO s=[110,111,110,101]:=by unfold chkO;rw[h]
theorem zkZ {a b:ByteArray}(h:a.data.toList=b.data.toList):a=b:=by
 cases a;cases b
 simp only[ByteArray.mk.injEq]at *;exact Array.toList_inj.1 h
theorem zk0:∀n,n<=92->(dec n).length<=24:=by decide +kernel
theorem zbg(s O:ByteArray)(w:World)(hs:s.size<=maxLen)(h:chkO s.data.toList=O.data.toList):Calls Tryz.prog 61 #[.string s] w λe w'=>e=.returned (.string O)/\Below w.heap.size w w':=by
 have HP:=wJ (zhT s w hs);have HO:=wJ h;clear h;go_enter Tryz.func61,Tryz.ntmps61
 go_wp2_with fail
 refine HP.out.mono ?_;rintro e w1 ⟨b1,au⟩;have B1:=wJ b1;have bj:=b1.size;clear b1 HP;rcases au with⟨n,hn,hp,rfl⟩|⟨p,L,m,d,ay,du,hp,rfl,hm,hl⟩
 ·have lp:Hid ((⟨#[110,111,110,101]⟩:ByteArray)=O):=wJ (zkZ (by rw[<-HO.out,zmX hp]))
  have dn:((n:Int) != 0)=true:=neqT _ _ (by omega);clear hp hn;go_wp2_with fail
  go_ret
  exact⟨by rw[lp.out];rfl,B1.out⟩
 ·have HC:=wJ (zhi p _ L m d w1 hl hm (λg hg=>hg.2) du ay)
  have lW:=zps ay;have h92:=zoy p;have oC:=HO.out.symm.trans (zoz hp);obtain⟨x,hx⟩:∃x,(chk p).1=x:=⟨_,rfl⟩;obtain⟨k,hk⟩:∃k,(chk p).2=k:=⟨_,rfl⟩;rw[hx,hk]at HC oC
  rw[hx]at lW
  rw[hk]at h92
  obtain⟨X,hX⟩:∃X:ByteArray,⟨x.toArray⟩=X:=⟨_,rfl⟩;rw[hX]at HC
  have qz:X.size<=24:=by rw[<-hX];show x.toArray.size<=24;simpa using lW
  obtain⟨D,hD⟩:∃D:ByteArray,⟨(dec k).toArray⟩=D:=⟨_,rfl⟩;have hDs:D.size<=24:=by rw[<-hD];show(dec k).toArray.size<=24;simpa using zk0 k h92
  have lp:Hid (X++⟨#[32]⟩++D=O):=wJ (zkZ (by rw[oC,zeD,zeD,<-hX,<-hD]));have HD:=wJ (λw=>zl5 k w (by omega));rw[hD]at HD
  have j8:max (0:Int) (k:Int)=k:=by omega
  have aN:¬9223372036854775807<X.size+1:=by omega
  have aA:¬9223372036854775807<X.size+1+D.size:=by omega
  clear hp hm hl ay du oC hx hk hX hD lW h92 qz hDs;go_wp2_with fail
  refine HC.out.mono ?_;rintro e w2 ⟨rfl,b2⟩;have B2:=wJ (B1.out.trans (b2.mono bj));clear b2 HC;go_wp2_with fail
  refine(HD.out _).mono ?_;rintro e w3 ⟨rfl,b3⟩;have B3:=wJ (B2.out.trans (b3.mono B2.out.size));clear b3 HD;go_wp2_with fail
  go_ret
  exact⟨by rw[<-lp.out];rfl,B3.out⟩
end Go.Proofs.YtknkclefoiohpaaGreatDoor
namespace Go.Proofs.YtknkclefoiohpaaGreatDoor
open Go.RowKit Lx Tx Sx Go.Maps Go.WideMaps Go.Shelf
set_option maxRecDepth 100000
def awS:List UInt8:=[92,120,32,45,62,32,99,97,115,101,32,121,32,111,102,32,123,83,32,122,32,45,62,32,120,32,122,32,119,59,32,90,32,45,62,32,122,125]
def awB:Bool:=match zci awS with
 |.ok x=>decide (zaF x=[[121],[119],[122]])&&decide (zaG x=[[83],[90]])&&decide (zas x=[[120],[122]])
 |.error _=>false
theorem zhj:awB=true:=by decide +kernel
theorem zpV(n:Nat)(h:zci awS=.error n):False:=by
 have:=zhj;unfold awB at this;rw[h]at this
 cases this
theorem zpt {x:Ex}(h:zci awS=.ok x):zaF x=[[121],[119],[122]]/\zaG x=[[83],[90]]/\zas x=[[120],[122]]:=by
 have:=zhj;unfold awB at this;rw[h]at this
 simp only[vV,decide_eq_true_eq]at this;exact⟨this.1.1,this.1.2,this.2⟩
theorem aw_d:chkO [100,97,116,97,32,78,32,123,90,32,58,32,78,125,59,32,102,32,61,32,90,59,32,102,32,61,32,90]=[102,32,57,48]:=by decide +kernel
theorem aw_f:chkO [102,32,58,32,78]=[102,32,57,50]:=by decide +kernel
theorem aw_g:chkO [102,32,61,32,92,102,32,45,62,32,102]=[102,32,57,48]:=by decide +kernel
theorem aw_h:chkO [102,32,61,32,103]=[103,32,57,49]:=by decide +kernel
theorem aw_i:chkO [102,32,61,32,75]=[75,32,57,49]:=by decide +kernel
theorem aw_j:chkO [100,97,116,97,32,80,32,97,32,97,32,123,125]=[97,32,57,48]:=by decide +kernel
theorem aw_k:chkO [100,97,116,97,32,65,110,121,32,123,125]=[65,110,121,32,57,48]:=by decide +kernel
theorem aw_l:chkO [100,97,116,97,32,78,32,123,125,59,32,102,32,61,32,99,97,115,101,32,102,32,111,102,32,123,75,32,120,32,120,32,45,62,32,102,125]=[120,32,57,48]:=by decide +kernel
theorem aw_m:chkO [100,97,116,97,32,78,32,123,90,32,58,32,78,125,59,32,102,32,61,32,90]=[32,48]:=by decide +kernel
def NmsP(U:World)(L:List Nm)(e:Ending)(w':World):Prop:=∃A n c,e=.returned (.slice A n c)/\n=L.length/\NmsIn (λg=>U.heap.size<=g/\g<w'.heap.size) w' L A/\Below U.heap.size U w'
theorem LPostN.nmsP {w w':World} {L:List Nm} {e:Ending}(h:LPostN w L e w'):NmsP w L e w':=by
 obtain⟨A,n,c,rfl,hn,hr,hb⟩:=h;exact⟨A,n,c,rfl,hn,zbX hn hr,hb⟩
theorem zoA(W:World)(xs:List Nm)(cs:Array Value)(t:TypeId)(h:cs.toList=xs.map Sx.strV):NmsIn (λg=>g=W.heap.size) (W.alloc (.cells cs t)) xs (some ⟨W.heap.size,0,none⟩):=λ_ =>
 ⟨_,rfl,rfl,by
  have:=zct (tW W (.cells cs t));rw[h]at this
  exact this⟩
theorem zk1 {L:List Nm} {w3:World} {A:Option Addr} {n c:Nat} {S:Nat->Prop}(R:List Nm)(r:Nat)(hr:r=R.length)(cs:Array Value)(h:cs.toList=R.map Sx.strV)(hn:n=L.length)(hl:L.length<=1000000)(hA:NmsIn S w3 L A)(hS:∀g,S g->g<w3.heap.size):Calls Tryz.prog 57 #[.slice A n c,.slice (some ⟨w3.heap.size,0,none⟩) r r] (w3.alloc (.cells cs 9)) λe w'=>e=.returned (.bool (decide (L=R)))/\Below w3.heap.size w3 w':=by
 subst hn hr;refine(zm9 L R S _ A _ c R.length _ (hA.keep (λ_ h=>h) (λg hg=>uc _ _ _ (hS g hg))) (zoA w3 R cs _ h) hl).mono ?_;rintro e w' ⟨rfl,hb⟩;exact⟨rfl,((ua _ w3).alloc (tV _) _).trans (hb.mono (by simp))⟩
theorem zdL {w3:World} {A:Option Addr} {n c:Nat} {S:Nat->Prop}(R:List Nm)(r:Nat)(hr:r=R.length)(cs:Array Value)(h:cs.toList=R.map Sx.strV)(hn:n=R.length)(hl:R.length<=1000000)(hA:NmsIn S w3 R A)(hS:∀g,S g->g<w3.heap.size):Calls Tryz.prog 57 #[.slice A n c,.slice (some ⟨w3.heap.size,0,none⟩) r r] (w3.alloc (.cells cs 9)) λe w'=>e=.returned (.bool true)/\Below w3.heap.size w3 w':=by
 have h:=zk1 (c:=c) R r hr cs h hn hl hA hS;rw[show decide (R=R)=true from uB rfl]at h
 exact h
theorem zmY(e:Ex)(S:Nat->Prop)(v:Value)(w:World)(hv:RdX S w e v)(hS:∀g,S g->g<w.heap.size)(ay:e.Ok)(du:e.wt<=9000):Calls Tryz.prog 58 #[v] w (NmsP w (zaF e)) :=
 (ziS e S v w hv hS ay (by have:=size_wt e;omega) (by have:=za5 e;omega)).mono λ_ _ h=>h.nmsP
theorem zmZ(e:Ex)(S:Nat->Prop)(v:Value)(w:World)(hv:RdX S w e v)(hS:∀g,S g->g<w.heap.size)(ay:e.Ok)(du:e.wt<=9000):Calls Tryz.prog 59 #[v] w (NmsP w (zaG e)) :=
 (ziR e S v w hv hS ay (by have:=size_wt e;omega) (by have:=za5 e;omega)).mono λ_ _ h=>h.nmsP
theorem zk2(e:Ex)(S:Nat->Prop)(v:Value)(w:World)(hv:RdX S w e v)(hS:∀g,S g->g<w.heap.size)(ay:e.Ok)(du:e.wt<=9000):Calls Tryz.prog 60 #[v] w (NmsP w (zas e)) :=
 (zhp e S v w hv hS ay (by have:=size_wt e;omega) (by have:=za5 e;omega)).mono λ_ _ h=>h.nmsP
theorem zm0(w:World):Calls Tryz.prog 23 #[] w λe w'=>e=.returned (.bool true)/\Below w.heap.size w w':=by
 have H0:=wJ (zhR ⟨#[92,120,32,45,62,32,99,97,115,101,32,121,32,111,102,32,123,83,32,122,32,45,62,32,120,32,122,32,119,59,32,90,32,45,62,32,122,125]⟩ w (by decide));have Hd:=wJ (λw=>zbg ⟨#[100,97,116,97,32,78,32,123,90,32,58,32,78,125,59,32,102,32,61,32,90,59,32,102,32,61,32,90]⟩ ⟨#[102,32,57,48]⟩ w (by decide) aw_d);have Hf:=wJ (λw=>zbg ⟨#[102,32,58,32,78]⟩ ⟨#[102,32,57,50]⟩ w (by decide) aw_f);have Hg:=wJ (λw=>zbg ⟨#[102,32,61,32,92,102,32,45,62,32,102]⟩ ⟨#[102,32,57,48]⟩ w (by decide) aw_g);have Hh:=wJ (λw=>zbg ⟨#[102,32,61,32,103]⟩ ⟨#[103,32,57,49]⟩ w (by decide) aw_h);have Hi:=wJ (λw=>zbg ⟨#[102,32,61,32,75]⟩ ⟨#[75,32,57,49]⟩ w (by decide) aw_i);have Hj:=wJ (λw=>zbg ⟨#[100,97,116,97,32,80,32,97,32,97,32,123,125]⟩ ⟨#[97,32,57,48]⟩ w (by decide) aw_j);have Hk:=wJ (λw=>zbg ⟨#[100,97,116,97,32,65,110,121,32,123,125]⟩ ⟨#[65,110,121,32,57,48]⟩ w (by decide) aw_k);have Hl:=wJ (λw=>zbg ⟨#[100,97,116,97,32,78,32,123,125,59,32,102,32,61,32,99,97,115,101,32,102,32,111,102,32,123,75,32,120,32,120,32,45,62,32,102,125]⟩ ⟨#[120,32,57,48]⟩ w (by decide) aw_l);have Hm:=wJ (λw=>zbg ⟨#[100,97,116,97,32,78,32,123,90,32,58,32,78,125,59,32,102,32,61,32,90]⟩ ⟨#[32,48]⟩ w (by decide) aw_m);go_enter Tryz.func23,Tryz.ntmps23
 go_wp2_with fail
 refine H0.out.mono ?_;rintro e w1 ⟨b1,au⟩;rcases au with⟨n,hn,hp,rfl⟩|⟨ex,cs,bA,ay,du,hp,rfl,hx⟩
 ·exact absurd hp (λh=>zpV n h)
 ·obtain⟨k,x,t,K,X,Z,B,m,q,KA,kn,kc,LA,ln,lc,rfl⟩:=bA
  have B1:=wJ b1;have bj:=b1.size;obtain⟨h1,h2,h3⟩:=zpt hp;have hvx:=zdC.2 hx;obtain⟨W1,aL⟩:∃y,w1.alloc (.cells #[.int .i64 k,.string x,.bool t,.int .i64 K,.string X,.int .i64 Z,.slice B m q,.slice KA kn kc,.slice LA ln lc] 39)=y:=⟨_,rfl⟩;have eR:Below w1.heap.size w1 W1:=aL▸(ua _ w1).alloc (tV _) _;have hsW:W1.heap.size=w1.heap.size+1:=by rw[<-aL];simp
  have bc:=wJ (aL▸tW w1 _:Blk W1 w1.heap.size 39 #[.int .i64 k,.string x,.bool t,.int .i64 K,.string X,.int .i64 Z,.slice B m q,.slice KA kn kc,.slice LA ln lc]);have HV:Hid (∀U,Below W1.heap.size W1 U->RdX (λg=>w.heap.size<=g/\g<w1.heap.size) U ex (.agg #[.int .i64 k,.string x,.bool t,.int .i64 K,.string X,.int .i64 Z,.slice B m q,.slice KA kn kc,.slice LA ln lc])):=wJ λU hU=>hvx.keep (λ_ h=>h) (λg hg=>(eR.trans (hU.mono (by omega))).block g hg.2);have qR:=wJ (λU (hU:Below W1.heap.size W1 U)=>zmY ex _ _ U (HV.out U hU) (λg hg=>by have:=hU.size;omega) ay (by omega));have nU:=wJ (λU (hU:Below W1.heap.size W1 U)=>zmZ ex _ _ U (HV.out U hU) (λg hg=>by have:=hU.size;omega) ay (by omega));have qV:=wJ (λU (hU:Below W1.heap.size W1 U)=>zk2 ex _ _ U (HV.out U hU) (λg hg=>by have:=hU.size;omega) ay (by omega));rw[h1]at qR
  rw[h2]at nU
  rw[h3]at qV
  have BW:Hid (Below W1.heap.size W1 W1):=wJ (ua _ _);have BX:=wJ (b1.trans (eR.mono bj));obtain⟨⟨g0,g1,g2,g3,g4,g5,g6,g7,g8⟩,-,-⟩:=zab bc.out;clear b1 hp hx hvx h1 h2 h3 ay du eR H0 HV;go_upto_region 2 with fail
  try rw[aL]
  clear aL;go_wp2_with fail
  refine(qR.out _ BW.out).mono ?_;rintro e w2 ⟨A,n,c,rfl,hn,hm,hb⟩;have gh:=wJ (zdL (c:=c) [[121],[119],[122]] 3 rfl #[.string ⟨#[121]⟩,.string ⟨#[119]⟩,.string ⟨#[122]⟩] rfl hn (by decide) hm (λg hg=>hg.2));replace BW:=wJ (BW.out.trans (hb.mono BW.out.size));clear hn hm hb qR;go_wp2_with fail
  refine gh.out.mono ?_;rintro e w3 ⟨rfl,hb⟩;replace BW:=wJ (BW.out.trans (hb.mono BW.out.size));clear hb gh g0 g1 g2 g3 g4 g5 g6 g7 g8;obtain⟨⟨g0,g1,g2,g3,g4,g5,g6,g7,g8⟩,-,-⟩:=zab (bc.out.below BW.out (by omega));go_wp2_with fail
  refine(nU.out _ BW.out).mono ?_;rintro e w4 ⟨A,n,c,rfl,hn,hm,hb⟩;have gh:=wJ (zdL (c:=c) [[83],[90]] 2 rfl #[.string ⟨#[83]⟩,.string ⟨#[90]⟩] rfl hn (by decide) hm (λg hg=>hg.2));replace BW:=wJ (BW.out.trans (hb.mono BW.out.size));clear hn hm hb nU;go_wp2_with fail
  refine gh.out.mono ?_;rintro e w5 ⟨rfl,hb⟩;replace BW:=wJ (BW.out.trans (hb.mono BW.out.size));clear hb gh g0 g1 g2 g3 g4 g5 g6 g7 g8;obtain⟨⟨g0,g1,g2,g3,g4,g5,g6,g7,g8⟩,-,-⟩:=zab (bc.out.below BW.out (by omega));go_wp2_with fail
  refine(qV.out _ BW.out).mono ?_;rintro e w6 ⟨A,n,c,rfl,hn,hm,hb⟩;have gh:=wJ (zdL (c:=c) [[120],[122]] 2 rfl #[.string ⟨#[120]⟩,.string ⟨#[122]⟩] rfl hn (by decide) hm (λg hg=>hg.2));replace BW:=wJ (BW.out.trans (hb.mono BW.out.size));clear hn hm hb qV;go_wp2_with fail
  refine gh.out.mono ?_;rintro e w7 ⟨rfl,hb⟩;replace BW:=wJ (BW.out.trans (hb.mono BW.out.size));clear hb gh g0 g1 g2 g3 g4 g5 g6 g7 g8;obtain⟨⟨g0,g1,g2,g3,g4,g5,g6,g7,g8⟩,-,-⟩:=zab (bc.out.below BW.out (by omega));clear g0 g1 g2 g3 g4 g5 g6 g7 g8;replace BX:=wJ (BX.out.trans (BW.out.mono BX.out.size));clear BW bc;go_wp2_with fail
  refine(Hd.out _).mono ?_;rintro e w8 ⟨rfl,hb⟩;replace BX:=wJ (BX.out.trans (hb.mono BX.out.size));clear hb Hd;go_wp2_with fail
  refine(Hf.out _).mono ?_;rintro e w9 ⟨rfl,hb⟩;replace BX:=wJ (BX.out.trans (hb.mono BX.out.size));clear hb Hf;go_wp2_with fail
  refine(Hg.out _).mono ?_;rintro e w10 ⟨rfl,hb⟩;replace BX:=wJ (BX.out.trans (hb.mono BX.out.size));clear hb Hg;go_wp2_with fail
  refine(Hh.out _).mono ?_;rintro e w11 ⟨rfl,hb⟩;replace BX:=wJ (BX.out.trans (hb.mono BX.out.size));clear hb Hh;go_wp2_with fail
  refine(Hi.out _).mono ?_;rintro e w12 ⟨rfl,hb⟩;replace BX:=wJ (BX.out.trans (hb.mono BX.out.size));clear hb Hi;go_wp2_with fail
  refine(Hj.out _).mono ?_;rintro e w13 ⟨rfl,hb⟩;replace BX:=wJ (BX.out.trans (hb.mono BX.out.size));clear hb Hj;go_wp2_with fail
  refine(Hk.out _).mono ?_;rintro e w14 ⟨rfl,hb⟩;replace BX:=wJ (BX.out.trans (hb.mono BX.out.size));clear hb Hk;go_wp2_with fail
  refine(Hl.out _).mono ?_;rintro e w15 ⟨rfl,hb⟩;replace BX:=wJ (BX.out.trans (hb.mono BX.out.size));clear hb Hl;go_wp2_with fail
  refine(Hm.out _).mono ?_;rintro e w16 ⟨rfl,hb⟩;replace BX:=wJ (BX.out.trans (hb.mono BX.out.size));clear hb Hm;go_wp2_with fail
  go_ret
  exact⟨rfl,BX.out⟩
end Go.Proofs.YtknkclefoiohpaaGreatDoor
namespace Go.Proofs.YtknkclefoiohpaaGreatDoor
open Go.RowKit Lx Tx Sx Go.Maps Go.WideMaps Go.Shelf
set_option maxRecDepth 100000
theorem zk3 {S:Nat->Prop} {w:World} {x:De} {cs:List Value}(h:pcD.Cs S w x cs):cs[0]?=some (.int .i64 (kdD x:Nat))/\cs[1]?=some (.string ⟨(nmD x).toArray⟩):=by
 cases x with
 |data n ps l=>obtain⟨V,v,A,a,rfl,-⟩:=h;exact⟨rfl,rfl⟩
 |sig n t=>obtain⟨A,a,rfl,-⟩:=h;exact⟨rfl,rfl⟩
 |bind n e=>obtain⟨P,rfl,-⟩:=h;exact⟨rfl,rfl⟩
theorem zk4 {S:Nat->Prop} {w:World} {n:Nm} {e:Ex} {cs:List Value}(h:pcD.Cs S w (.bind n e) cs):∃es:List Value,pcE.Cs S w e es/\∀j u,es[j]?=some u->cs[8+j]?=some u:=by
 obtain⟨P,rfl,h1,h2⟩:=h;exact⟨_,⟨P,rfl,h1,h2⟩,λj u hu=>by rw[uI (by simp[tyZl])];simpa[tyZl] using hu⟩
theorem zfK {S:Nat->Prop} {w:World} {L:List Nm} {A:Option Addr}(h:NmsIn S w L A) {j:Nat} {y:Nm}(hy:L[j]?=some y):∃g,A=some ⟨g,0,none⟩/\S g/\w.cell? ⟨g,j,none⟩=some (.string ⟨y.toArray⟩):=by
 have hj:=(uj.1 hy).1;obtain⟨g,hA,hg,hl⟩:=h (by intro e;rw[e]at hj;simp at hj);refine⟨g,hA,hg,?_⟩;have:=hl j (Sx.strV y) (by rw[vA,hy];rfl);rw[uJ]at this
 exact this
end Go.Proofs.YtknkclefoiohpaaGreatDoor
