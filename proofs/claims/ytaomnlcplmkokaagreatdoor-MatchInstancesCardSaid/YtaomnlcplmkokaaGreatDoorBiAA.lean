import Derived.Test.YtaomnlcplmkokaaGreatDoorBiV
import Derived.Lib.SlMapMerge
import Derived.Maps.RangeWalk
import Derived.Laws.IdiomRangeMap
import Derived.Shelf.SlMaps.Clone
set_option maxHeartbeats 12800000
namespace Go.Proofs.YtaomnlcplmkokaaGreatDoor
open Go.RowKit Lx Tx Go.Maps Go.WideMaps Go.Shelf
set_option maxRecDepth 100000
theorem zgA {V:Type}(enc:V->DataW Unit):∀r:List (Name × V),(∀p∈r,p.1.length<=maxLen)->CanonK (KeysOf Tryz.prog 9) (envD enc r)
 |[],_=>⟨[],rfl,List.Pairwise.nil,λp h=>by cases h⟩
 |p::r,h=>canonK_put strKeyed.one ⟨.string ⟨p.1.toArray⟩,strKey ⟨p.1.toArray⟩ (by have:=h p List.mem_cons_self;simpa[ByteArray.size] using this)⟩ _ (zgA enc r (λq hq=>h q (List.mem_cons_of_mem _ hq)))
theorem zlb(L:List Name)(h:∀x∈L,x.length<=24):Canon (envD mkSet.enc (units L)) :=
 (zgA mkSet.enc (units L) (λp hp=>by
  unfold units at hp;rw[List.mem_map]at hp
  obtain⟨x,hx,rfl⟩:=hp;have:=h x (List.mem_reverse.1 hx);unfold maxLen;show x.length<=_;omega)).canon strKeyed.one
theorem zcF {V:Type}(enc:V->DataW Unit)(k:Lit)(hk:∀x,k≠.string x):∀r:List (Name × V),has (envD enc r) k=false
 |[]=>rfl
 |p::r=>by rw[envD,has_put_other (hk p.1),zcF enc k hk r]
theorem zcG(L:List Name)(x:Name):has (envD mkSet.enc (units L)) (.string x)=decide (x∈L):=by
 rw[zde,zct]
 by_cases h:x∈L
 ·rw[if_pos h,decide_eq_true h];rfl
 ·rw[if_neg h,decide_eq_false h];rfl
theorem zgX(L:List Name)(x:Name)(z:DataW Unit):(envD mkSet.enc (units L)).atKey (.string x) z=if x∈L then .nil else z:=by
 rw[zdf,zct]
 by_cases h:x∈L
 ·rw[if_pos h,if_pos h];rfl
 ·rw[if_neg h,if_neg h];rfl
theorem zjO(A B:List Name)(Dout:DataW Unit)(left:Lit->Bool)(hM:Merged Dout (envD mkSet.enc (units A)) (envD mkSet.enc (units B)) left)(hl:∀k,left k=false)(hc:Canon Dout)(hA:∀x∈A,x.length<=24)(hB:∀x∈B,x.length<=24):Dout=envD mkSet.enc (units (A++B)):=by
 refine Maps.ext hc (zlb (A++B) (λx hx=>(List.mem_append.1 hx).elim (hA x) (hB x))) (λk=>?_) (λk z hk=>?_)
 ·rw[hM.1 k,hl k]
  by_cases h:∃x,k=.string x
  ·obtain⟨x,rfl⟩:=h
   rw[zcG,zcG,zcG]
   simp
  ·have h':∀x,k≠.string x:=λx e=>h ⟨x,e⟩
   rw[zcF _ k h',zcF _ k h',zcF _ k h']
   rfl
 ·rw[hM.1 k,hl k]at hk
  by_cases h:∃x,k=.string x
  ·obtain⟨x,rfl⟩:=h
   rw[zcG,zcG]at hk
   rw[hM.2,hl,zcG,zgX,zgX,zgX]
   by_cases hb:x∈B
   ·simp[hb]
   ·have ha:x∈A:=by simpa[hb] using hk
    simp[ha,hb]
  ·have h':∀x,k≠.string x:=λx e=>h ⟨x,e⟩
   rw[zcF _ k h',zcF _ k h']at hk
   simp at hk
theorem zfQ {x:Value} {y:DataW Unit × List MemPlace}(h:unitElem x=some y):x=.agg #[]/\y=(.nil,[]):=by
 cases x with
 |agg cs =>
  by_cases h0:cs.size=0
  ·rw[unitElem,if_pos h0]at h
   injection h with h;rw[Array.eq_empty_of_size_eq_zero h0]
   exact⟨rfl,h.symm⟩
  ·rw[unitElem,if_neg h0]at h
   cases h
 |_=>cases h
theorem zlc(A B:List Name)(bd bs:Nat)(w:World)(hd:MapE mkSet w bd (units A))(hs:MapE mkSet w bs (units B))(hne:bd≠bs)(hA:∀x∈A,x.length<=24)(hB:∀x∈B,x.length<=24)(hlen:A.length+B.length<=100000000):Calls Tryz.prog 110 #[.map (some bd),.map (some bs)] w λe w'=>e=.returned (.tuple #[])/\MapE mkSet w' bd (units (A++B))/\Chg (only bd) w w':=by
 obtain⟨nd,hnd,hd⟩:=hd;obtain⟨ns,hns,hs⟩:=hs;have hbd:=hd.lt;have hbs:=hs.lt;have hsz:=zgb mkSet.enc (units B);have hul:(units A).length=A.length/\(units B).length=B.length:=by unfold units;simp
 obtain⟨Dd,hDd⟩:∃D,envD mkSet.enc (units A)=D:=⟨_,rfl⟩;obtain⟨Ds,hDs⟩:∃D,envD mkSet.enc (units B)=D:=⟨_,rfl⟩;rw[hDd]at hd
 rw[hDs]at hs hsz
 have hroom:nd+Maps.size Ds<=maxLen:=by unfold maxLen;omega
 go_enter Tryz.func110,Tryz.ntmps110
 go_wp2_with (first
  |(at_range;refine wpList_range_own _ rfl _ 77 rfl 9 116 strKeyed mkSet.hT mkSet.R bs ns _ rfl hs ?_;intro w0 hrg0 hg0 hs0)
  |go_in)
 go_frame
 go_loopw [8] (λ_ wr=>∃(left:Lit->Bool) (cnt:Nat) (Dout:DataW Unit),wr.ranges Tryz.prog 9 mkSet.R bs w.heap.size ns Ds left cnt/\cnt<=Maps.size Ds /\
   wr.ownsMap Tryz.prog 9 mkSet.R bd (nd+(Maps.size Ds-cnt)) Dout/\Merged Dout Dd Ds left/\w.grownBy wr (some bd))
  (λ_ wr=>wr.rangeLeft bs w.heap.size)
 case atStart =>
  exact⟨_,_,Dd,hrg0,Nat.le_refl _,(hd.kept hg0 (by simp)).mono (by omega),merged_start Dd Ds,hg0.but _⟩
 case round =>
  obtain⟨left,cnt,Dout,hrg,hcs,hout,hM,hgw⟩:=hrel;go_wp2_with (first
   |(at_next;refine wpList_next_ranges _ rfl _ rfl 9 strKeyed mkSet.R id (λ_:Unit=>(.agg #[]:Value)) (λkey _ _=>⟨key,rfl⟩) (λv y hv=>⟨(),(zfQ hv).1⟩) bs w.heap.size ns _ _ _ rfl hrg ?_ ?_)
   |go_in)
  ·intro hc0 hl0
   go_wp2
   first|go_end0|refine bodyPost_ret (results_none rfl _ _ _) rfl ?_
   have e:Dout=envD mkSet.enc (units (A++B)):=zjO A B Dout left (by rw[hDd,hDs];exact hM) hl0 (hout.canon strKeyed) hA hB;subst e;exact⟨rfl,MapE.of hout,(Chg.refl (only bd) w).grown hgw (λk hk=>.inr (by injection hk with hk;exact hk.symm))⟩
  ·intro x kl yd yp w1 cnt1 hkey hlx hv hat hrg1 hlt hg1 hs1 hen
   obtain⟨rfl,rfl⟩:yd=.nil/\yp=[]:=by have h:=(zfQ (x:=.agg #[]) (y:=(yd,yp)) hv).2;injection h with h1 h2;exact⟨h1,h2⟩
   have hout1:=(hout.kept hg1 (λe=>by have:=Option.some.inj e;omega)).alloc (.cells #[] 116);have hrg1a:=hrg1.alloc (.cells #[] 116);have hga:=World.grownBy_alloc w1 (.cells #[] 116) none;go_wp2_with (first
    |(at_mapUpdate;refine wpList_mapUpdate_own _ rfl _ _ _ 77 rfl 9 116 strKeyed mkSet.hT mkSet.R bd _ _ rfl hout1 (by omega) _ _ _ rfl rfl hkey .nil [] hv ?_;intro w2 hout2 hg2;go_frame)
    |go_in)
   have hrg2:=hrg1a.kept hg2 (λe=>hne (Option.some.inj e).symm) (λe=>by have:=Option.some.inj e;omega);go_roundw
   case rel =>
    exact⟨_,cnt1,_,hrg2,by omega,hout2.mono (by omega),merged_step hM hout.isMap (strKeyed.key hkey) hat,((hgw.andThen hg1 (λj hj=>.inl (by cases hj;exact Nat.le_refl _))).andThen hga (λj hj=>by cases hj)).andThen hg2 (λj hj=>.inr hj)⟩
   case measure=>rw[hrg2.left_eq,hrg.left_eq];exact hlt
set_option maxRecDepth 100000
theorem zjP(L:List Name)(b:Nat)(w:World)(h:MapE mkSet w b (units L)):Calls Tryz.prog 88 #[.map (some b)] w λe w'=>e=.returned (.map (some w.heap.size))/\MapE mkSet w' w.heap.size (units L)/\Below w.heap.size w w':=by
 obtain⟨n,hn,es,clock,hb,F,hs,hD⟩:=h;have hq:=λw=>run_eql_map_nil_sl (P:=Tryz.prog) w 77 _ _ (some b) mkSet.hT;have HR:Hid (n<=(units L).length/\(w.alloc (.map es clock)).ownsMap Tryz.prog 9 mkSet.R w.heap.size n (envD mkSet.enc (units L))):=hidE ⟨hn,es,clock,heap_alloc_new _ _,F,hs,hD⟩;clear F hs hD hn;go_enter Tryz.func88,Tryz.ntmps88
 go_wp2
 rw[run_callFunc_extern Tryz.func112 (by kernel_rfl) (by kernel_rfl) (by kernel_rfl) (e:=Extern.MapsClone.clone) (by kernel_rfl),run_maps_clone_sl w 77 hb]
 simp only[Result.andThen];rw[Oper.upon_value]
 go_wp2
 rw[run_typeAssert_map_sl _ 77 20 _ _ _ mkSet.hT]
 simp only[Result.andThen];rw[Oper.upon_value]
 go_wp2
 go_ret
 exact⟨rfl,⟨n,HR.out.1,HR.out.2⟩,(Below.refl _ w).alloc (Nat.le_refl _) _⟩
end Go.Proofs.YtaomnlcplmkokaaGreatDoor
