/-
  Contracts of the code's functions, part 47.
-/
import Derived.Test.YtmbmjneibkihkaaGreatDoorDaAS
import Derived.Test.YtmbmjneibkihkaaGreatDoorDaL
import Derived.Deep.WholeRow
namespace Go.Proofs.YtmbmjneibkihkaaGreatDoor
open Go.RowKit Lx Tx Sx Go.Maps Go.WideMaps Go.Shelf
set_option maxRecDepth 100000
def mS(l:List De)(j:Nat):Mets:=if j=0 then met0 else metF l
def resJ(l:List De)(j:Nat):Nm × Nat :=
 if j=0 then chk l
 else if j=1 then(match goL 1 (metF l) l with
  | some y=>y
  | none=>match goL 2 (metF l) l with
   | some y=>y
   | none=>([],0))
 else if j=2 then(match goL 2 (metF l) l with
  | some y=>y
  | none=>([],0))
 else([],0)
theorem res_some {l:List De} {j:Nat}(hj:j<3) {y:Nm × Nat}(h:goL j (mS l j) l=some y):resJ l j=y:=by
 match j,hj with
 | 0,_=>show chk l=y;rw[chk_looks,show goL 0 met0 l=some y from h]
 | 1,_=>show(match goL 1 (metF l) l with|some y=>y|none=>_)=y;rw[show goL 1 (metF l) l=some y from h]
 | 2,_=>show(match goL 2 (metF l) l with|some y=>y|none=>_)=y;rw[show goL 2 (metF l) l=some y from h]
theorem res_none {l:List De} {j:Nat}(hj:j<3)(h:goL j (mS l j) l=none):resJ l j=resJ l (j+1):=by
 match j,hj with
 | 0,_=>show chk l=resJ l 1;rw[chk_looks,show goL 0 met0 l=none from h];rfl
 | 1,_=>show(match goL 1 (metF l) l with|some y=>y|none=>_)=resJ l 2;rw[show goL 1 (metF l) l=none from h];rfl
 | 2,_=>show(match goL 2 (metF l) l with|some y=>y|none=>_)=resJ l 3;rw[show goL 2 (metF l) l=none from h];rfl
theorem next_size(m:Mets)(x:De)(j:Nat):(nextA j m x).size<=m.size+x.wt:=by
 unfold nextA Mets.size
 split
 ·cases x with
  | data n ps l =>
   have hl:l.length<=consW l:=by
    induction l with
    | nil=>exact Nat.le_refl _
    | cons c r ih=>simp only[List.length_cons,consW,conW];omega
   simp only[Mets.next,De.wt,List.length_append,List.length_cons,List.length_nil,conNames,List.length_map]
   omega
  | sig n t=>simp only[Mets.next,De.wt,List.length_append,List.length_cons,List.length_nil];omega
  | bind n e=>simp only[Mets.next,De.wt,List.length_append,List.length_cons,List.length_nil];omega
 ·omega
theorem desW_append(a b:List De):desW (a++b)=desW a+desW b:=by
 induction a with
 | nil=>simp[desW]
 | cons x a ih=>simp only[List.cons_append,desW,ih];omega
theorem fold_size(j:Nat):∀(l:List De)(m:Mets),(l.foldl (nextA j) m).size<=m.size+desW l
 | [],m=>by simp[desW]
 | x::r,m=>by
  have h1:=fold_size j r (nextA j m x)
  have h2:=next_size m x j
  rw[List.foldl_cons]
  simp only[desW]
  omega
theorem fold_end(l:List De)(j:Nat):l.foldl (nextA j) (mS l j)=mS l (j+1):=by
 by_cases h:j=0
 ·subst h
  have:(nextA 0:Mets->De->Mets)=Mets.next:=by funext m x;rfl
  rw[this]
  rfl
 ·have:(nextA j:Mets->De->Mets)=λm _=>m:=by funext m x;unfold nextA;rw[if_neg h]
  rw[this,show mS l j=metF l from if_neg h,show mS l (j+1)=metF l from if_neg (by omega)]
  generalize metF l=m
  induction l with
  | nil=>rfl
  | cons x r ih=>exact ih
theorem mS_size(l:List De)(j:Nat):(mS l j).size<=1+desW l:=by
 unfold mS
 split
 ·have:met0.size=1:=rfl
  omega
 ·have h:=fold_size 0 l met0
  have:(nextA 0:Mets->De->Mets)=Mets.next:=by funext m x;rfl
  rw[this]at h
  have:met0.size=1:=rfl
  unfold metF
  omega
theorem mid_size(l:List De)(j i:Nat):((l.take i).foldl (nextA j) (mS l j)).size<=1+desW l:=by
 have h3:=congrArg desW (List.take_append_drop i l)
 rw[desW_append]at h3
 by_cases h:j=0
 ·subst h
  have:=fold_size 0 (l.take i) (mS l 0)
  have:(mS l 0).size=1:=rfl
  omega
 ·have:(nextA j:Mets->De->Mets)=λm _=>m:=by funext m x;unfold nextA;rw[if_neg h]
  rw[this]
  have h2:=mS_size l j
  have h4:∀(r:List De) (m:Mets),r.foldl (λm _=>m) m=m:=λr=>by
   induction r with
   | nil=>exact λ_=>rfl
   | cons x r ih=>exact λm=>ih m
  rw[h4]
  exact h2
theorem goL_at {j:Nat} {l:List De} {i:Nat} {x:De} {m:Mets}(hx:l[i]? = some x)(h:lookA j m x=none):goL j m (l.drop i)=goL j (nextA j m x) (l.drop (i+1)):=by
 have hi:=(List.getElem?_eq_some_iff.1 hx).1
 have:l.drop i=x::l.drop (i+1):=by
  rw[List.drop_eq_getElem_cons hi]
  congr 1
  exact(List.getElem?_eq_some_iff.1 hx).2
 rw[this,goL,h]
theorem goL_at_some {j:Nat} {l:List De} {i:Nat} {x:De} {m:Mets} {y:Nm × Nat}(hx:l[i]? = some x)(h:lookA j m x=some y):goL j m (l.drop i)=some y:=by
 have hi:=(List.getElem?_eq_some_iff.1 hx).1
 have:l.drop i=x::l.drop (i+1):=by
  rw[List.drop_eq_getElem_cons hi]
  congr 1
  exact(List.getElem?_eq_some_iff.1 hx).2
 rw[this,goL,h]
theorem look_ne {j:Nat} {m:Mets} {x:De} {y:Nm × Nat}(h:lookA j m x=some y):y.2≠0:=by
 unfold lookA at h
 split at h
 ·obtain⟨z,-,rfl⟩:=Option.map_eq_some_iff.1 h
  exact(by decide:(90:Nat)≠0)
 ·split at h
  ·cases x with
   | data n ps l=>cases h
   | bind n e=>cases h
   | sig n t =>
    simp only at h
    split at h
    ·cases h
    ·injection h with h;subst h;exact(by decide:(92:Nat)≠0)
  ·cases x with
   | data n ps l=>cases h
   | sig n e=>cases h
   | bind n e=>rcases(mis_some h).2 with h|h <;> omega
theorem deCs_one {S:Nat->Prop} {w:World} {x:De} {cs:List Value}(h:pcD.Cs S w x cs):cs.length=17/\cs.toArray.all (·.oneCell')=true:=by
 refine⟨pcD.len h,?_⟩
 cases x with
 | data n ps l =>
  obtain⟨V,v,A,a,rfl,-⟩:=h
  simp[tyZl,exZl,Value.oneCell',Sx.strV]
 | sig n t =>
  obtain⟨A,a,rfl,-⟩:=h
  obtain⟨K,X,Z,B,mm,q,hs⟩:=tyC_shape (some t) A a
  rw[show tyV t A a=tyC (some t) A a from rfl,hs]
  simp[exZl,Value.oneCell',Sx.strV]
 | bind n e =>
  obtain⟨P,rfl,-⟩:=h
  obtain⟨k1,x1,t1,K1,X1,Z1,B1,m1,q1,KA1,kn1,kc1,LA1,ln1,lc1,hs⟩:=exC_shape e P
  rw[hs]
  simp[tyZl,Value.oneCell',Sx.strV]
set_option maxHeartbeats 12800000 in
theorem sc_Check(l:List De)(S:Nat->Prop)(A:Option Addr)(n d:Nat)(w:World)(hl:LstG pcD S w l A)(hn:n=l.length)(hS:∀g,S g->g<w.heap.size)(hw:desW l<=4000)(hok:∀x∈l,De.Ok x) :
  Calls Tryz.prog 32 #[.slice A n d] w λe w'=>e=.returned (.tuple #[.string ⟨(chk l).1.toArray⟩,.int .i64 ((chk l).2:Nat)])/\Below w.heap.size w w':=by
 have hmm:∀w,(Instr.makeMap 128 none).run Tryz.prog w=.ok (.map (some w.heap.size)) (w.alloc (.map #[] 0)):=λ_=>rfl
 have HM:Hid (MapE mkMet (w.alloc (.map #[] 0)) w.heap.size []):=hidE (MapE.made mkMet w)
 obtain⟨R,hR⟩:∃R,chk l=R:=⟨_,rfl⟩
 rw[hR]
 have HR0:Hid (resJ l 0=R):=hidE hR
 have HL:=hidE hl
 have HN:=hidE hn.symm
 have HS:=hidE hS
 have HW:=hidE hw
 have HOK:=hidE hok
 have hn9:n<=4000:=by
  have:∀l:List De,l.length<=desW l:=λl=>by
   induction l with
   | nil=>exact Nat.le_refl _
   | cons x r ih =>
    simp only[List.length_cons,desW]
    have:1<=x.wt:=by cases x <;> simp[De.wt]
    omega
  have:=this l
  omega
 clear hl hn hS hw hok hR
 go_enter Tryz.func32,Tryz.ntmps32
 go_wp2_with (refine wpList_ins mkMet _ rfl _ _ _ rfl w.heap.size [] rfl HM.out (by decide) ⟨#[65,110,121]⟩ (by decide) rfl () trivial rfl ?_;intro w2 hm2 hg2;have HM2:=hidE hm2;have HG2:=hidE hg2;clear hm2 hg2)
 obtain⟨W0,hW0⟩:∃x,((((w2.alloc (.map #[] 0)).alloc (.map #[] 0)).alloc (.map #[] 0)).alloc (.cells #[.map (some w.heap.size),.map (some w2.heap.size),.map (some (w2.heap.size+1)),.map (some (w2.heap.size+1+1))] 130)).alloc (.cells #[.func (.func 73) #[.agg #[.map (some w.heap.size),.map (some w2.heap.size),.map (some (w2.heap.size+1)),.map (some (w2.heap.size+1+1))]] #[],.func (.func 74) #[.agg #[.map (some w.heap.size),.map (some w2.heap.size),.map (some (w2.heap.size+1)),.map (some (w2.heap.size+1+1))]] #[],.func (.func 75) #[.agg #[.map (some w.heap.size),.map (some w2.heap.size),.map (some (w2.heap.size+1)),.map (some (w2.heap.size+1+1))]] #[]] 131)=x:=⟨_,rfl⟩
 have hz2:=HG2.out.size
 simp at hz2
 have hd:w.heap.size<w2.heap.size:=by omega
 have hz0:W0.heap.size=w2.heap.size+5:=by rw[<-hW0];simp
 have hb2:Below w2.heap.size w2 W0:=hW0▸(((((Below.refl _ w2).alloc (Nat.le_refl _) _).alloc (by simp) _).alloc (by simp;omega) _).alloc (by simp;omega) _).alloc (by simp;omega) _
 have hb0:Below w.heap.size w W0:=(((Below.refl _ w).alloc (Nat.le_refl _) (.map #[] 0)).grown HG2.out (by simp) (λk hk=>by injection hk with hk;omega)).trans (hb2.mono (by omega))
 have HMA:Hid (MetsAt w.heap.size w2.heap.size (mS l 0) W0):=hidE (by
  refine⟨HM2.out.keep (hb2.block _ (by omega)),?_,?_,?_⟩
  ·exact hW0▸((((MapE.made mkMet w2).keep (Below.heap_alloc _ _ _ (by simp))).keep (Below.heap_alloc _ _ _ (by simp;omega))).keep (Below.heap_alloc _ _ _ (by simp;omega))).keep (Below.heap_alloc _ _ _ (by simp;omega))
  ·have:=MapE.made mkMet (w2.alloc (.map #[] 0))
   rw[show(w2.alloc (.map #[] 0)).heap.size=w2.heap.size+1 by simp]at this
   exact hW0▸((this.keep (Below.heap_alloc _ _ _ (by simp))).keep (Below.heap_alloc _ _ _ (by simp))).keep (Below.heap_alloc _ _ _ (by simp))
  ·have:=MapE.made mkMet ((w2.alloc (.map #[] 0)).alloc (.map #[] 0))
   rw[show((w2.alloc (.map #[] 0)).alloc (.map #[] 0)).heap.size=w2.heap.size+2 by simp]at this
   exact hW0▸(this.keep (Below.heap_alloc _ _ _ (by simp))).keep (Below.heap_alloc _ _ _ (by simp)))
 have hfs:Blk W0 (w2.heap.size+1+1+1+1) 131 #[.func (.func 73) #[.agg #[.map (some w.heap.size),.map (some w2.heap.size),.map (some (w2.heap.size+1)),.map (some (w2.heap.size+1+1))]] #[],.func (.func 74) #[.agg #[.map (some w.heap.size),.map (some w2.heap.size),.map (some (w2.heap.size+1)),.map (some (w2.heap.size+1+1))]] #[],.func (.func 75) #[.agg #[.map (some w.heap.size),.map (some w2.heap.size),.map (some (w2.heap.size+1)),.map (some (w2.heap.size+1+1))]] #[]]:=by
  have:=heap_alloc_new ((((w2.alloc (.map #[] 0)).alloc (.map #[] 0)).alloc (.map #[] 0)).alloc (.cells #[.map (some w.heap.size),.map (some w2.heap.size),.map (some (w2.heap.size+1)),.map (some (w2.heap.size+1+1))] 130)) (.cells #[.func (.func 73) #[.agg #[.map (some w.heap.size),.map (some w2.heap.size),.map (some (w2.heap.size+1)),.map (some (w2.heap.size+1+1))]] #[],.func (.func 74) #[.agg #[.map (some w.heap.size),.map (some w2.heap.size),.map (some (w2.heap.size+1)),.map (some (w2.heap.size+1+1))]] #[],.func (.func 75) #[.agg #[.map (some w.heap.size),.map (some w2.heap.size),.map (some (w2.heap.size+1)),.map (some (w2.heap.size+1+1))]] #[]] 131)
  rw[hW0]at this
  unfold Blk
  simpa using this
 have HFS:Hid (∀wr,Chg (metB w.heap.size w2.heap.size) W0 wr->∀j,j<3->wr.cell? ⟨w2.heap.size+1+1+1+1,j,none⟩=some (.func (.func (lkF j)) #[.agg #[.map (some w.heap.size),.map (some w2.heap.size),.map (some (w2.heap.size+1)),.map (some (w2.heap.size+1+1))]] #[])):=hidE λwr hc j hj=>by
  have hb:Blk wr _ _ _:=hfs.same (hc.block _ hfs.lt (by unfold metB;omega))
  match j,hj with
  | 0,_=>exact hb.cell 0
  | 1,_=>exact hb.cell 1
  | 2,_=>exact hb.cell 2
 have HB0:=hidE hb0
 have HINF:Hid ((Tryz.prog.info? 59).map (·.size)=some 17):=hidE (by kernel_rfl)
 rw[hW0]
 clear hW0 hb2 hb0 hfs HG2 HM2 HM
 go_loopg [26] 3 (λgg vi wr=>∃j:Nat,gg=3-j/\vi=.int .i64 (j:Nat)/\j<=3/\Hid (Chg (metB w.heap.size w2.heap.size) W0 wr)/\Hid (MetsAt w.heap.size w2.heap.size (mS l j) wr)/\Hid (resJ l j=R))
 case atStart=>exact⟨0,rfl,rfl,by omega,hidE (Chg.refl _ _),HMA,HR0⟩
 case round =>
  obtain⟨j,rfl,rfl,hj,hC,hMj,hRj⟩:=hrel
  have hsC:=hC.out.size
  by_cases hlt:j<3
  ·have hf:=HFS.out wr hC.out j hlt
   obtain⟨F,hF⟩:∃F,lkF j=F:=⟨_,rfl⟩
   have ek:=lkF_ek j
   have HLK:=hidE (λm x cs W hM hv hS hsz hok=>sc_look hd j hlt m x S cs W hM hv hS hsz hok)
   rw[hF]at hf ek HLK
   have i0:(0:Int)<=(j:Int):=by omega
   have i1:(j:Int)<3:=by omega
   clear hF HMA
   go_wp2_with fail
   go_loopg [32] n (λgg vi wr=>∃(i:Nat) (m:Mets),gg=n-i/\vi=.int .i64 (i:Nat)/\i<=n/\Hid (Chg (metB w.heap.size w2.heap.size) W0 wr)/\Hid (MetsAt w.heap.size w2.heap.size m wr)/\Hid (goL j (mS l j) l=goL j m (l.drop i))/\Hid (m=(l.take i).foldl (nextA j) (mS l j)))
   case atStart=>exact⟨0,mS l j,rfl,rfl,by omega,hC,hMj,hidE rfl,hidE rfl⟩
   case round =>
    obtain⟨i,m,rfl,rfl,hi,hC2,hM2,hG2,hm2⟩:=hrel
    have hs2:=hC2.out.size
    by_cases hlt2:i<n
    ·obtain⟨x,hx⟩:∃x,l[i]? = some x:=⟨_,List.getElem?_eq_getElem (by rw[HN.out];exact hlt2)⟩
     obtain⟨g,cs,rfl,hSg,hcs,hrow⟩:=HL.out.row i x hx
     have hnB:∀k,k<w.heap.size->¬metB w.heap.size w2.heap.size k:=λk hk=>by unfold metB;omega
     have hkS:∀k,S k->wr.heap[k]? = w.heap[k]?:=λk hk=>(hC2.out.block k (by have:=HS.out k hk;omega) (hnB k (HS.out k hk))).trans (HB0.out.block k (HS.out k hk))
     obtain⟨hlen,hone⟩:=deCs_one hcs
     have HROW:Hid (wr.rangeAt g (i*17) cs):=hidE (Lie.keep hrow (hkS g hSg))
     have HLEN:Hid ((Tryz.prog.info? 59).map (·.size)=some cs.length):=hidE (by rw[hlen];exact HINF.out)
     have HLEN2:Hid ((Tryz.prog.info? 59).map (·.size)=some cs.toArray.size):=hidE (by rw[List.size_toArray,hlen];exact HINF.out)
     have HZ:Hid ((#[.int .i64 0,.string ⟨#[]⟩,.slice none 0 0,.slice none 0 0,.int .i64 0,.string ⟨#[]⟩,.int .i64 0,.slice none 0 0,.int .i64 0,.string ⟨#[]⟩,.bool false,.int .i64 0,.string ⟨#[]⟩,.int .i64 0,.slice none 0 0,.slice none 0 0,.slice none 0 0]:Array Value).size=cs.toArray.size):=hidE (by rw[show cs.toArray.size=17 by rw[List.size_toArray,hlen]];rfl)
     have HONE:=hidE hone
     have hgl:g<wr.heap.size:=by have:=HS.out g hSg;omega
     have hmsz:m.size+x.wt<=9000:=by
      have h1:=mid_size l j i
      rw[<-hm2.out]at h1
      have h4:=desW_mem l x (List.mem_of_getElem? hx)
      have:=HW.out
      omega
     have HCALL:=hidE (HLK.out m x cs (wr.alloc (.cells cs.toArray 59)) (hM2.out.below ((Below.refl _ wr).alloc (Nat.le_refl _) _)) (pcD.keep (λ_ h=>h) (λk hk=>(Below.heap_alloc _ _ _ (by have:=HS.out k hk;omega)).trans (hkS k hk)) hcs) (λk hk=>⟨by have:=HS.out k hk;simp;omega,hnB k (HS.out k hk)⟩) hmsz (HOK.out x (List.mem_of_getElem? hx)))
     have HX:=hidE hx
     obtain⟨q,hq⟩:∃q,lookA j m x=q:=⟨_,rfl⟩
     rw[hq]at HCALL
     have HQ:=hidE hq
     clear hx hSg hcs hrow hkS hlen hone hmsz hq hnB
     go_wp2_with (first|((with_reducible refine wpList_load_mid ?_ 59 (.tmp 34) ?_ g (i*17) ?_ cs _ HROW.out Tryz.underlying59 ?_ HLEN.out ?_);(exact rfl);(exact rfl);(exact rfl);(exact rfl))|((with_reducible refine wpList_store_row ?_ 59 (.tmp 8) (.tmp 35) ?_ wr.heap.size cs.toArray ?_ ?_ 59 #[.int .i64 0,.string ⟨#[]⟩,.slice none 0 0,.slice none 0 0,.int .i64 0,.string ⟨#[]⟩,.int .i64 0,.slice none 0 0,.int .i64 0,.string ⟨#[]⟩,.bool false,.int .i64 0,.string ⟨#[]⟩,.int .i64 0,.slice none 0 0,.slice none 0 0,.slice none 0 0] (heap_alloc_new wr _) HLEN2.out HZ.out HONE.out ?_);(exact rfl);(exact rfl);(exact rfl);(exact rfl);rw[World.setRow_alloc_new])|((with_reducible refine wpList_load_row ?_ 59 (.tmp 8) ?_ wr.heap.size ?_ 59 cs.toArray (0,0) _ (heap_alloc_new wr _) Tryz.underlying59 ?_ HLEN2.out ?_);(exact rfl);(exact rfl);(exact rfl);(exact rfl)))
     refine HCALL.out.mono ?_
     rintro e w3 ⟨A3,n3,c3,rfl,hb3,hcall⟩
     have hs3:=hb3.size
     simp at hs3
     have HC3:=hidE ((hC2.out.alloc (.cells cs.toArray 59)).below hb3)
     have HF3:=hidE hcall
     clear hb3 hcall HCALL
     go_wp2_with fail
     refine HF3.out.mono ?_
     rintro e w4 ⟨hch,X,k,rfl,hno,hyes⟩
     have HC4:Hid (Chg (metB w.heap.size w2.heap.size) W0 w4):=hidE (HC3.out.trans' hch (λp hp hm=>by
      rcases hm with h|h
      ·exact h
      ·simp at h;omega))
     clear hch HF3
     cases q with
     | none =>
      obtain⟨rfl,rfl,hQ⟩:=hno rfl
      have HQ4:=hidE hQ
      have HG4:Hid (goL j (mS l j) l=goL j (nextA j m x) (l.drop (i+1))):=hidE (hG2.out.trans (goL_at HX.out HQ.out))
      have HM4:Hid (nextA j m x=(l.take (i+1)).foldl (nextA j) (mS l j)):=hidE (by rw[List.take_add_one,HX.out,List.foldl_append,<-hm2.out];rfl)
      clear hno hyes hQ
      go_wp2_with fail
      go_roundg (n-(i+1))
      case measure=>omega
      case rel=>exact⟨i+1,nextA j m x,rfl,by go_num,by omega,HC4,HQ4,HG4,HM4⟩
     | some y =>
      obtain⟨rfl,rfl⟩:=hyes y rfl
      have hne:=look_ne HQ.out
      have d:(((y.2:Nat):Int) != 0)=true:=neqT _ _ (by omega)
      have HRY:Hid (y=R):=hidE ((res_some hlt (hG2.out.trans (goL_at_some HX.out HQ.out))).symm.trans hRj.out)
      clear hno hyes hne
      go_wp2_with fail
      go_ret2
      exact⟨by rw[HRY.out];rfl,HB0.out.trans (HC4.out.toBelow HB0.out.size (λp hp=>by unfold metB;omega))⟩
    ·obtain rfl:i=n:=by omega
     have HR1:Hid (resJ l (j+1)=R):=hidE ((res_none hlt (hG2.out.trans (by rw[List.drop_of_length_le (by rw[HN.out];exact Nat.le_refl _)];rfl))).symm.trans hRj.out)
     have HM1:Hid (MetsAt w.heap.size w2.heap.size (mS l (j+1)) wr):=hidE (by
      have:=hm2.out
      rw[List.take_of_length_le (by rw[HN.out];exact Nat.le_refl _),fold_end]at this
      exact this▸hM2.out)
     clear hlt2 ek hf HLK
     go_wp2_with fail
     go_roundg (3-(j+1))
     case measure=>omega
     case rel=>exact⟨j+1,rfl,by go_num,by omega,hC2,HM1,HR1⟩
  ·obtain rfl:j=3:=by omega
   have HRR:Hid ((([],0):Nm × Nat)=R):=hidE hRj.out
   go_wp2_with fail
   go_ret2
   exact⟨by rw[<-HRR.out];rfl,HB0.out.trans (hC.out.toBelow HB0.out.size (λp hp=>by unfold metB;omega))⟩
end Go.Proofs.YtmbmjneibkihkaaGreatDoor

namespace Go.Proofs.YtmbmjneibkihkaaGreatDoor
open Go.RowKit Lx Tx Sx Go.Maps Go.WideMaps Go.Shelf
set_option maxRecDepth 100000
theorem nmsD_24:∀(x:De),De.Ok x->∀y∈nmsD x,y.length<=24
 | .data n ps cs,h,y,hy=>by
  simp only[nmsD,List.mem_cons,List.mem_append]at hy
  rcases hy with rfl|hy|hy
  ·exact gd_len h.1 (by decide)
  ·exact gd_len (h.2.1 y hy) (by decide)
  ·obtain⟨c,hc,rfl⟩:=List.mem_map.1 hy
   exact gd_len (h.2.2 c hc).1 (by decide)
 | .sig x t,h,y,hy=>by
  simp only[nmsD,List.mem_singleton]at hy
  exact hy▸gd_len h.1 (by decide)
 | .bind x e,h,y,hy=>by
  simp only[nmsD,List.mem_cons]at hy
  rcases hy with rfl|hy
  ·exact gd_len h.1 (by decide)
  ·exact ok_24 e h.2 y hy
theorem chk_names {l:List De} :(chk l).1=[]\/∃y∈l,(chk l).1∈nmsD y:=by
 unfold chk
 split
 ·rename_i y hy
  exact .inr (tw_mem hy)
 ·split
  ·rename_i y hy
   obtain⟨d,hd,hx⟩:=List.mem_flatMap.1 (List.mem_of_find?_eq_some hy)
   exact .inr ⟨d,hd,by cases d <;> simp_all [sigOf,nmsD]⟩
  ·split
   ·rename_i y hy
    obtain⟨a,ha,h2⟩:=findSome_mem hy
    obtain⟨z,hz⟩:=exs_mem ha
    exact .inr ⟨_,hz,by simp only[nmsD,List.mem_cons];exact .inr (mis_some h2).1⟩
   ·exact .inl rfl
theorem chk_24 {l:List De}(h:∀x∈l,De.Ok x):(chk l).1.length<=24:=by
 rcases chk_names (l:=l) with h1|⟨y,hy,h1⟩
 ·rw[h1];decide
 ·exact nmsD_24 y (h y hy) _ h1
theorem chk_num(l:List De):(chk l).2<=92:=by
 unfold chk
 split
 ·exact(by decide:(90:Nat)<=92)
 ·split
  ·exact(by decide:(92:Nat)<=92)
  ·split
   ·rename_i y hy
    obtain⟨a,ha,h2⟩:=findSome_mem hy
    rcases(mis_some h2).2 with h3|h3 <;> omega
   ·exact(by decide:(0:Nat)<=92)
def chkO(s:List UInt8):List UInt8:=match parseP s with
 | .ok p=>(chk p).1++[32]++dec (chk p).2
 | .error _=>[110,111,110,101]
theorem chkO_ok {s:List UInt8} {p:List De}(h:parseP s=.ok p):chkO s=(chk p).1++[32]++dec (chk p).2:=by unfold chkO;rw[h]
theorem chkO_err {s:List UInt8} {n:Nat}(h:parseP s=.error n):chkO s=[110,111,110,101]:=by unfold chkO;rw[h]
theorem ba_ext {a b:ByteArray}(h:a.data.toList=b.data.toList):a=b:=by
 cases a;cases b
 simp only[ByteArray.mk.injEq]at *
 exact Array.toList_inj.1 h
theorem dec_small:∀n,n<=92->(dec n).length<=24:=by decide +kernel
set_option maxHeartbeats 3200000 in
theorem s9_checked(s O:ByteArray)(w:World)(hs:s.size<=maxLen)(h:chkO s.data.toList=O.data.toList) :
  Calls Tryz.prog 65 #[.string s] w λe w'=>e=.returned (.string O)/\Below w.heap.size w w':=by
 have HP:=hidE (sx_parse s w hs)
 have HO:=hidE h
 clear h
 go_enter Tryz.func65,Tryz.ntmps65
 go_wp2_with fail
 refine HP.out.mono ?_
 rintro e w1 ⟨b1,hcs⟩
 have B1:=hidE b1
 have hs1:=b1.size
 clear b1 HP
 rcases hcs with⟨n,hn,hp,rfl⟩|⟨p,L,m,d,hok,hwt,hp,rfl,hm,hl⟩
 ·have HOO:Hid ((⟨#[110,111,110,101]⟩:ByteArray)=O):=hidE (ba_ext (by rw[<-HO.out,chkO_err hp]))
  have dn:((n:Int) != 0)=true:=neqT _ _ (by omega)
  clear hp hn
  go_wp2_with fail
  go_ret
  exact⟨by rw[HOO.out];rfl,B1.out⟩
 ·have HC:=hidE (sc_Check p _ L m d w1 hl hm (λg hg=>hg.2) hwt hok)
  have h24:=chk_24 hok
  have h92:=chk_num p
  have hco:=HO.out.symm.trans (chkO_ok hp)
  obtain⟨x,hx⟩:∃x,(chk p).1=x:=⟨_,rfl⟩
  obtain⟨k,hk⟩:∃k,(chk p).2=k:=⟨_,rfl⟩
  rw[hx,hk]at HC hco
  rw[hx]at h24
  rw[hk]at h92
  obtain⟨X,hX⟩:∃X:ByteArray,⟨x.toArray⟩=X:=⟨_,rfl⟩
  rw[hX]at HC
  have hXs:X.size<=24:=by rw[<-hX];show x.toArray.size<=24;simpa using h24
  obtain⟨D,hD⟩:∃D:ByteArray,⟨(dec k).toArray⟩=D:=⟨_,rfl⟩
  have hDs:D.size<=24:=by rw[<-hD];show(dec k).toArray.size<=24;simpa using dec_small k h92
  have HOO:Hid (X++⟨#[32]⟩++D=O):=hidE (ba_ext (by rw[hco,append_data,append_data,<-hX,<-hD]))
  have HD:=hidE (λw=>ref2_dec k w (by omega))
  rw[hD]at HD
  have hmx:max (0:Int) (k:Int)=k:=by omega
  have hb1:¬9223372036854775807<X.size+1:=by omega
  have hb2:¬9223372036854775807<X.size+1+D.size:=by omega
  clear hp hm hl hok hwt hco hx hk hX hD h24 h92 hXs hDs
  go_wp2_with fail
  refine HC.out.mono ?_
  rintro e w2 ⟨rfl,b2⟩
  have B2:=hidE (B1.out.trans (b2.mono hs1))
  clear b2 HC
  go_wp2_with fail
  refine(HD.out _).mono ?_
  rintro e w3 ⟨rfl,b3⟩
  have B3:=hidE (B2.out.trans (b3.mono B2.out.size))
  clear b3 HD
  go_wp2_with fail
  go_ret
  exact⟨by rw[<-HOO.out];rfl,B3.out⟩
end Go.Proofs.YtmbmjneibkihkaaGreatDoor

namespace Go.Proofs.YtmbmjneibkihkaaGreatDoor
open Go.RowKit Lx Tx Sx Go.Maps Go.WideMaps Go.Shelf
set_option maxRecDepth 100000
def awS:List UInt8:=[92,120,32,45,62,32,99,97,115,101,32,121,32,111,102,32,123,83,32,122,32,45,62,32,120,32,122,32,119,59,32,90,32,45,62,32,122,125]
def awB:Bool:=match parseE awS with
 | .ok x=>decide (freeE x=[[121],[119],[122]])&&decide (consE x=[[83],[90]])&&decide (boundE x=[[120],[122]])
 | .error _=>false
theorem awB_true:awB=true:=by decide +kernel
theorem aw_no(n:Nat)(h:parseE awS=.error n):False:=by
 have:=awB_true
 unfold awB at this
 rw[h]at this
 cases this
theorem aw_yes {x:Ex}(h:parseE awS=.ok x):freeE x=[[121],[119],[122]]/\consE x=[[83],[90]]/\boundE x=[[120],[122]]:=by
 have:=awB_true
 unfold awB at this
 rw[h]at this
 simp only[Bool.and_eq_true,decide_eq_true_eq]at this
 exact⟨this.1.1,this.1.2,this.2⟩
theorem aw_d:chkO [100,97,116,97,32,78,32,123,90,32,58,32,78,125,59,32,102,32,61,32,90,59,32,102,32,61,32,90]=[102,32,57,48]:=by decide +kernel
theorem aw_f:chkO [102,32,58,32,78]=[102,32,57,50]:=by decide +kernel
theorem aw_g:chkO [102,32,61,32,92,102,32,45,62,32,102]=[102,32,57,48]:=by decide +kernel
theorem aw_h:chkO [102,32,61,32,103]=[103,32,57,49]:=by decide +kernel
theorem aw_i:chkO [102,32,61,32,75]=[75,32,57,49]:=by decide +kernel
theorem aw_j:chkO [100,97,116,97,32,80,32,97,32,97,32,123,125]=[97,32,57,48]:=by decide +kernel
theorem aw_k:chkO [100,97,116,97,32,65,110,121,32,123,125]=[65,110,121,32,57,48]:=by decide +kernel
theorem aw_l:chkO [100,97,116,97,32,78,32,123,125,59,32,102,32,61,32,99,97,115,101,32,102,32,111,102,32,123,75,32,120,32,120,32,45,62,32,102,125]=[120,32,57,48]:=by decide +kernel
theorem aw_m:chkO [100,97,116,97,32,78,32,123,90,32,58,32,78,125,59,32,102,32,61,32,90]=[32,48]:=by decide +kernel
end Go.Proofs.YtmbmjneibkihkaaGreatDoor

namespace Go.Proofs.YtmbmjneibkihkaaGreatDoor
open Go.RowKit Lx Tx Sx Go.Maps Go.WideMaps Go.Shelf
set_option maxRecDepth 100000
def NmsP(U:World)(L:List Nm)(e:Ending)(w':World):Prop:=∃A n c,e=.returned (.slice A n c)/\n=L.length/\NmsIn (λg=>U.heap.size<=g/\g<w'.heap.size) w' L A/\Below U.heap.size U w'
theorem LPostN.nmsP {w w':World} {L:List Nm} {e:Ending}(h:LPostN w L e w'):NmsP w L e w':=by
 obtain⟨A,n,c,rfl,hn,hr,hb⟩:=h
 exact⟨A,n,c,rfl,hn,own_nms hn hr,hb⟩
theorem nms_lit(W:World)(xs:List Nm)(cs:Array Value)(t:TypeId)(h:cs.toList=xs.map Sx.strV):NmsIn (λg=>g=W.heap.size) (W.alloc (.cells cs t)) xs (some ⟨W.heap.size,0,none⟩):=λ_ =>
 ⟨_,rfl,rfl,by
  have:=lie_blk (heap_alloc_new W (.cells cs t))
  rw[h]at this
  exact this⟩
theorem names_lit {L:List Nm} {w3:World} {A:Option Addr} {n c:Nat} {S:Nat->Prop}(R:List Nm)(r:Nat)(hr:r=R.length)(cs:Array Value)(h:cs.toList=R.map Sx.strV)(hn:n=L.length)(hl:L.length<=1000000)(hA:NmsIn S w3 L A)(hS:∀g,S g->g<w3.heap.size) :
  Calls Tryz.prog 25 #[.slice A n c,.slice (some ⟨w3.heap.size,0,none⟩) r r] (w3.alloc (.cells cs 9)) λe w'=>e=.returned (.bool (decide (L=R)))/\Below w3.heap.size w3 w':=by
 subst hn hr
 refine(sc_names L R S _ A _ c R.length _ (hA.keep (λ_ h=>h) (λg hg=>Below.heap_alloc _ _ _ (hS g hg))) (nms_lit w3 R cs _ h) hl).mono ?_
 rintro e w' ⟨rfl,hb⟩
 exact⟨rfl,((Below.refl _ w3).alloc (Nat.le_refl _) _).trans (hb.mono (by simp))⟩
theorem names_lit1 {w3:World} {A:Option Addr} {n c:Nat} {S:Nat->Prop}(R:List Nm)(r:Nat)(hr:r=R.length)(cs:Array Value)(h:cs.toList=R.map Sx.strV)(hn:n=R.length)(hl:R.length<=1000000)(hA:NmsIn S w3 R A)(hS:∀g,S g->g<w3.heap.size) :
  Calls Tryz.prog 25 #[.slice A n c,.slice (some ⟨w3.heap.size,0,none⟩) r r] (w3.alloc (.cells cs 9)) λe w'=>e=.returned (.bool true)/\Below w3.heap.size w3 w':=by
 have h:=names_lit (c:=c) R r hr cs h hn hl hA hS
 rw[show decide (R=R)=true from decide_eq_true rfl]at h
 exact h
theorem sc_FreeP(e:Ex)(S:Nat->Prop)(v:Value)(w:World)(hv:RdX S w e v)(hS:∀g,S g->g<w.heap.size)(hok:e.Ok)(hwt:e.wt<=9000):Calls Tryz.prog 26 #[v] w (NmsP w (freeE e)) :=
 (sc_Free e S v w hv hS hok (by have:=size_wt e;omega) (by have:=cost_wt e;omega)).mono λ_ _ h=>h.nmsP
theorem sc_ConsP(e:Ex)(S:Nat->Prop)(v:Value)(w:World)(hv:RdX S w e v)(hS:∀g,S g->g<w.heap.size)(hok:e.Ok)(hwt:e.wt<=9000):Calls Tryz.prog 28 #[v] w (NmsP w (consE e)) :=
 (sc_Cons e S v w hv hS hok (by have:=size_wt e;omega) (by have:=cost_wt e;omega)).mono λ_ _ h=>h.nmsP
theorem sc_BoundP(e:Ex)(S:Nat->Prop)(v:Value)(w:World)(hv:RdX S w e v)(hS:∀g,S g->g<w.heap.size)(hok:e.Ok)(hwt:e.wt<=9000):Calls Tryz.prog 30 #[v] w (NmsP w (boundE e)) :=
 (sc_Bound e S v w hv hS hok (by have:=size_wt e;omega) (by have:=cost_wt e;omega)).mono λ_ _ h=>h.nmsP
set_option maxHeartbeats 12800000 in
theorem s9_awake(w:World):Calls Tryz.prog 24 #[] w λe w'=>e=.returned (.bool true)/\Below w.heap.size w w':=by
 have H0:=hidE (sx_parseExpr ⟨#[92,120,32,45,62,32,99,97,115,101,32,121,32,111,102,32,123,83,32,122,32,45,62,32,120,32,122,32,119,59,32,90,32,45,62,32,122,125]⟩ w (by decide))
 have Hd:=hidE (λw=>s9_checked ⟨#[100,97,116,97,32,78,32,123,90,32,58,32,78,125,59,32,102,32,61,32,90,59,32,102,32,61,32,90]⟩ ⟨#[102,32,57,48]⟩ w (by decide) aw_d)
 have Hf:=hidE (λw=>s9_checked ⟨#[102,32,58,32,78]⟩ ⟨#[102,32,57,50]⟩ w (by decide) aw_f)
 have Hg:=hidE (λw=>s9_checked ⟨#[102,32,61,32,92,102,32,45,62,32,102]⟩ ⟨#[102,32,57,48]⟩ w (by decide) aw_g)
 have Hh:=hidE (λw=>s9_checked ⟨#[102,32,61,32,103]⟩ ⟨#[103,32,57,49]⟩ w (by decide) aw_h)
 have Hi:=hidE (λw=>s9_checked ⟨#[102,32,61,32,75]⟩ ⟨#[75,32,57,49]⟩ w (by decide) aw_i)
 have Hj:=hidE (λw=>s9_checked ⟨#[100,97,116,97,32,80,32,97,32,97,32,123,125]⟩ ⟨#[97,32,57,48]⟩ w (by decide) aw_j)
 have Hk:=hidE (λw=>s9_checked ⟨#[100,97,116,97,32,65,110,121,32,123,125]⟩ ⟨#[65,110,121,32,57,48]⟩ w (by decide) aw_k)
 have Hl:=hidE (λw=>s9_checked ⟨#[100,97,116,97,32,78,32,123,125,59,32,102,32,61,32,99,97,115,101,32,102,32,111,102,32,123,75,32,120,32,120,32,45,62,32,102,125]⟩ ⟨#[120,32,57,48]⟩ w (by decide) aw_l)
 have Hm:=hidE (λw=>s9_checked ⟨#[100,97,116,97,32,78,32,123,90,32,58,32,78,125,59,32,102,32,61,32,90]⟩ ⟨#[32,48]⟩ w (by decide) aw_m)
 go_enter Tryz.func24,Tryz.ntmps24
 go_wp2_with fail
 refine H0.out.mono ?_
 rintro e w1 ⟨b1,hcs⟩
 rcases hcs with⟨n,hn,hp,rfl⟩|⟨ex,cs,hsh,hok,hwt,hp,rfl,hx⟩
 ·exact absurd hp (λh=>aw_no n h)
 ·obtain⟨k,x,t,K,X,Z,B,m,q,KA,kn,kc,LA,ln,lc,rfl⟩:=hsh
  have B1:=hidE b1
  have hs1:=b1.size
  obtain⟨h1,h2,h3⟩:=aw_yes hp
  have hvx:=rdX_cs.2 hx
  obtain⟨W1,hW1⟩:∃y,w1.alloc (.cells #[.int .i64 k,.string x,.bool t,.int .i64 K,.string X,.int .i64 Z,.slice B m q,.slice KA kn kc,.slice LA ln lc] 39)=y:=⟨_,rfl⟩
  have hbW:Below w1.heap.size w1 W1:=hW1▸(Below.refl _ w1).alloc (Nat.le_refl _) _
  have hsW:W1.heap.size=w1.heap.size+1:=by rw[<-hW1];simp
  have HBX:=hidE (hW1▸heap_alloc_new w1 _:Blk W1 w1.heap.size 39 #[.int .i64 k,.string x,.bool t,.int .i64 K,.string X,.int .i64 Z,.slice B m q,.slice KA kn kc,.slice LA ln lc])
  have HV:Hid (∀U,Below W1.heap.size W1 U->RdX (λg=>w.heap.size<=g/\g<w1.heap.size) U ex (.agg #[.int .i64 k,.string x,.bool t,.int .i64 K,.string X,.int .i64 Z,.slice B m q,.slice KA kn kc,.slice LA ln lc])):=hidE λU hU=>hvx.keep (λ_ h=>h) (λg hg=>(hbW.trans (hU.mono (by omega))).block g hg.2)
  have HFR:=hidE (λU (hU:Below W1.heap.size W1 U)=>sc_FreeP ex _ _ U (HV.out U hU) (λg hg=>by have:=hU.size;omega) hok (by omega))
  have HCO:=hidE (λU (hU:Below W1.heap.size W1 U)=>sc_ConsP ex _ _ U (HV.out U hU) (λg hg=>by have:=hU.size;omega) hok (by omega))
  have HBO:=hidE (λU (hU:Below W1.heap.size W1 U)=>sc_BoundP ex _ _ U (HV.out U hU) (λg hg=>by have:=hU.size;omega) hok (by omega))
  rw[h1]at HFR
  rw[h2]at HCO
  rw[h3]at HBO
  have BW:Hid (Below W1.heap.size W1 W1):=hidE (Below.refl _ _)
  have BX:=hidE (b1.trans (hbW.mono hs1))
  obtain⟨⟨g0,g1,g2,g3,g4,g5,g6,g7,g8⟩,-,-⟩:=blk_facts9 HBX.out
  clear b1 hp hx hvx h1 h2 h3 hok hwt hbW H0 HV
  go_upto_region 2 with fail
  try rw[hW1]
  clear hW1
  go_wp2_with fail
  refine(HFR.out _ BW.out).mono ?_
  rintro e w2 ⟨A,n,c,rfl,hn,hm,hb⟩
  have HNL:=hidE (names_lit1 (c:=c) [[121],[119],[122]] 3 rfl #[.string ⟨#[121]⟩,.string ⟨#[119]⟩,.string ⟨#[122]⟩] rfl hn (by decide) hm (λg hg=>hg.2))
  replace BW:=hidE (BW.out.trans (hb.mono BW.out.size))
  clear hn hm hb HFR
  go_wp2_with fail
  refine HNL.out.mono ?_
  rintro e w3 ⟨rfl,hb⟩
  replace BW:=hidE (BW.out.trans (hb.mono BW.out.size))
  clear hb HNL g0 g1 g2 g3 g4 g5 g6 g7 g8
  obtain⟨⟨g0,g1,g2,g3,g4,g5,g6,g7,g8⟩,-,-⟩:=blk_facts9 (HBX.out.below BW.out (by omega))
  go_wp2_with fail
  refine(HCO.out _ BW.out).mono ?_
  rintro e w4 ⟨A,n,c,rfl,hn,hm,hb⟩
  have HNL:=hidE (names_lit1 (c:=c) [[83],[90]] 2 rfl #[.string ⟨#[83]⟩,.string ⟨#[90]⟩] rfl hn (by decide) hm (λg hg=>hg.2))
  replace BW:=hidE (BW.out.trans (hb.mono BW.out.size))
  clear hn hm hb HCO
  go_wp2_with fail
  refine HNL.out.mono ?_
  rintro e w5 ⟨rfl,hb⟩
  replace BW:=hidE (BW.out.trans (hb.mono BW.out.size))
  clear hb HNL g0 g1 g2 g3 g4 g5 g6 g7 g8
  obtain⟨⟨g0,g1,g2,g3,g4,g5,g6,g7,g8⟩,-,-⟩:=blk_facts9 (HBX.out.below BW.out (by omega))
  go_wp2_with fail
  refine(HBO.out _ BW.out).mono ?_
  rintro e w6 ⟨A,n,c,rfl,hn,hm,hb⟩
  have HNL:=hidE (names_lit1 (c:=c) [[120],[122]] 2 rfl #[.string ⟨#[120]⟩,.string ⟨#[122]⟩] rfl hn (by decide) hm (λg hg=>hg.2))
  replace BW:=hidE (BW.out.trans (hb.mono BW.out.size))
  clear hn hm hb HBO
  go_wp2_with fail
  refine HNL.out.mono ?_
  rintro e w7 ⟨rfl,hb⟩
  replace BW:=hidE (BW.out.trans (hb.mono BW.out.size))
  clear hb HNL g0 g1 g2 g3 g4 g5 g6 g7 g8
  obtain⟨⟨g0,g1,g2,g3,g4,g5,g6,g7,g8⟩,-,-⟩:=blk_facts9 (HBX.out.below BW.out (by omega))
  clear g0 g1 g2 g3 g4 g5 g6 g7 g8
  replace BX:=hidE (BX.out.trans (BW.out.mono BX.out.size))
  clear BW HBX
  go_wp2_with fail
  refine(Hd.out _).mono ?_
  rintro e w8 ⟨rfl,hb⟩
  replace BX:=hidE (BX.out.trans (hb.mono BX.out.size))
  clear hb Hd
  go_wp2_with fail
  refine(Hf.out _).mono ?_
  rintro e w9 ⟨rfl,hb⟩
  replace BX:=hidE (BX.out.trans (hb.mono BX.out.size))
  clear hb Hf
  go_wp2_with fail
  refine(Hg.out _).mono ?_
  rintro e w10 ⟨rfl,hb⟩
  replace BX:=hidE (BX.out.trans (hb.mono BX.out.size))
  clear hb Hg
  go_wp2_with fail
  refine(Hh.out _).mono ?_
  rintro e w11 ⟨rfl,hb⟩
  replace BX:=hidE (BX.out.trans (hb.mono BX.out.size))
  clear hb Hh
  go_wp2_with fail
  refine(Hi.out _).mono ?_
  rintro e w12 ⟨rfl,hb⟩
  replace BX:=hidE (BX.out.trans (hb.mono BX.out.size))
  clear hb Hi
  go_wp2_with fail
  refine(Hj.out _).mono ?_
  rintro e w13 ⟨rfl,hb⟩
  replace BX:=hidE (BX.out.trans (hb.mono BX.out.size))
  clear hb Hj
  go_wp2_with fail
  refine(Hk.out _).mono ?_
  rintro e w14 ⟨rfl,hb⟩
  replace BX:=hidE (BX.out.trans (hb.mono BX.out.size))
  clear hb Hk
  go_wp2_with fail
  refine(Hl.out _).mono ?_
  rintro e w15 ⟨rfl,hb⟩
  replace BX:=hidE (BX.out.trans (hb.mono BX.out.size))
  clear hb Hl
  go_wp2_with fail
  refine(Hm.out _).mono ?_
  rintro e w16 ⟨rfl,hb⟩
  replace BX:=hidE (BX.out.trans (hb.mono BX.out.size))
  clear hb Hm
  go_wp2_with fail
  go_ret
  exact⟨rfl,BX.out⟩
end Go.Proofs.YtmbmjneibkihkaaGreatDoor
