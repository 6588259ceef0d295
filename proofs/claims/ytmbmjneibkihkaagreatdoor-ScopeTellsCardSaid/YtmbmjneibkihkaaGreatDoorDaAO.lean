/-
  Contracts of the code's functions, part 41.
-/
import Derived.Test.YtmbmjneibkihkaaGreatDoorDaAN
import Derived.Test.YtmbmjneibkihkaaGreatDoorDaAI
import Derived.Deep.RegionHeld3
namespace Go.Proofs.YtmbmjneibkihkaaGreatDoor
open Go.RowKit Lx Tx Sx Go.Shelf
set_option maxRecDepth 100000
set_option maxHeartbeats 6400000 in
theorem sc_walk_lt {σ:Type}(n k:Nat)(caps:Array Value)(B:Nat)(I:Nat->σ->(Nat->Prop)->World->Prop)(st:Ev->σ->σ)(hI:InvB I)(ek:∀args w,(callFunc k args).run Tryz.prog w=.ok (.enter k args) w)(HV:VisE k caps B I st)(HW:WalkOK n k caps B I st)
  (x:Nm)(t:Option Ty)(a b:Ex)(c:Nat)(s:σ)(M S:Nat->Prop)(v:Value)(w:World)(hi:I c s M w)(hv:RdX S w (Ex.lt x t a b:Ex) v)(hS:∀g,S g->g<w.heap.size/\¬M g)(hok:(Ex.lt x t a b:Ex).Ok)(hsz:(Ex.lt x t a b:Ex).size<=n+1)(hB:c+cost (evs (Ex.lt x t a b))<=B) :
  Calls Tryz.prog 117 #[v,.func (.func k) #[] caps] w λe' w'=>e'=.returned (.tuple #[])/\Sta I M w (c+cost (evs (Ex.lt x t a b))) (runS st (evs (Ex.lt x t a b)) s) w':=by
 have ew:∀args w,(callFunc 157 args).run Tryz.prog w=.ok (.enter 157 args) w:=enters_of Tryz.func157 (by kernel_rfl) rfl
 have mk:∀(W:World) (p:Addr),(Instr.makeFunc (.func 157) #[] #[.pointer (some p)]).run Tryz.prog W=.ok (.func (.func 157) #[] #[.pointer (some p)]) W:=λ_ _=>rfl
 obtain⟨K,X,Z,A0,m,q,KA,kc,LA,lc,rfl,hin⟩:=hv.shapeC
 simp only[kdE,nmE,kidsE,altsE,List.length_cons,List.length_nil,Nat.zero_add]at hin ⊢
 have hlt:=hI.lt _ _ _ _ hi
 obtain⟨T,hT⟩:∃T,toE (Ex.lt x t a b)=T:=⟨_,rfl⟩
 rw[hT]
 obtain⟨Y,hY⟩:∃Y:ByteArray,⟨x.toArray⟩=Y:=⟨_,rfl⟩
 rw[hY]
 have hx24:x.length<=24:=gd_len (show Gd 1 x from hok.1) (by decide)
 have hev:evs (Ex.lt x t a b)=.bi [x]::(wEv [] [a]++wEv [x] [b]):=by simp[evs,wEv]
 rw[hev]at hB ⊢
 rw[cost_cons,cost_append]at hB ⊢
 rw[runS_cons,runS_append]
 simp only[evL,List.length_cons,List.length_nil,Nat.zero_add]at hB ⊢
 obtain⟨g,rfl,hgS,hgab⟩:=((kids_at (Ex.lt x t a b) KA LA).1 hin).1 (by simp[kidsE])
 simp only[kidsE,ExsAt]at hgab
 have hpa:PartsAt S w [a] (some ⟨g,0,none⟩):=λ_=>⟨g,0,rfl,hgS,by rw[ExsAt,ExsAt];exact⟨hgab.1,trivial⟩⟩
 have hpb:PartsAt S w [b] (some ⟨g,9,none⟩):=λ_=>⟨g,9,rfl,hgS,by rw[ExsAt,ExsAt];exact⟨hgab.2.1,trivial⟩⟩
 obtain⟨KC,hKC⟩:∃KC,2+kc=KC:=⟨_,rfl⟩
 rw[hKC]
 have hK0:(0:Int)<=(KC:Int):=by omega
 have hK1:(1:Int)<=(KC:Int):=by omega
 have hK2:(2:Int)<=(KC:Int):=by omega
 have hKA:(if KC=1 then some (⟨g,0,none⟩:Addr) else some ⟨g,9,none⟩)=some ⟨g,9,none⟩:=if_neg (by omega)
 clear hgab hKC
 obtain⟨W0,hW0⟩:∃W,(w.alloc (.cells #[.int .i64 5,.string Y,.bool T,.int .i64 K,.string X,.int .i64 Z,.slice A0 m q,.slice (some ⟨g,0,none⟩) 2 KC,.slice LA 0 lc] 39)).alloc (.cells #[.func (.func k) #[] caps] 186)=W:=⟨_,rfl⟩
 have hbx:Box k caps M S w W0 #[.int .i64 5,.string Y,.bool T,.int .i64 K,.string X,.int .i64 Z,.slice A0 m q,.slice (some ⟨g,0,none⟩) 2 KC,.slice LA 0 lc]:=by
  refine⟨hW0▸Blk.below (heap_alloc_new w _) ((Below.refl _ _).alloc (Nat.le_refl _) _) (by simp),hW0▸two_top _ _ _ _ rfl,by rw[<-hW0];simp,hW0▸((Below.refl _ w).alloc (Nat.le_refl _) _).alloc (by simp) _,hS,hlt⟩
 have hst:=Sta.init (hI.keep _ _ _ _ W0 hi hbx.lw)
 have HBX:=hidE hbx
 have S0:=hidE hst
 have HLW:=hidE hbx.lw
 obtain⟨b0,b1,hsw,-⟩:=hbx.at_ hst
 obtain⟨⟨g0,g1,g2,g3,g4,g5,g6,g7,g8⟩,-,-⟩:=blk_facts9 b0
 have d0:=b1.cell 0
 replace d0:W0.cell? ⟨w.heap.size+1,0,none⟩=some (.func (.func k) #[] caps):=d0
 have HEV:=hidE (ev1 hI HV hst (.bi [x]) x Y 2 rfl rfl hY hx24 (by omega))
 simp only[evW]at HEV
 have HWA:=hidE (λ(d:Nat) (w1:World) (s1:Sta I M W0 (c+2) (st (.bi [x]) s) w1)=>wiS hI ek HV HW s1 (Below.refl _ w1) S (λg hg=>hbx.old g hg) [a] [] (some ⟨g,0,none⟩) d none 0 (w.heap.size+1)
  (hpa.keep (λ_ h=>h) (λg hg=>(hbx.at_ s1).2.2.2 g hg)) (λh=>absurd rfl h) ((hbx.at_ s1).2.1.cell 0) (by have:=hbx.sz;omega) (λe=>by have:=hlt _ e;omega) (by simp;exact⟨hok.2.2.1,by simp only[Ex.size]at hsz;omega⟩) (by simp) (by simp) (by omega))
 simp only[List.length_cons,List.length_nil,Nat.zero_add]at HWA
 have HWB:=hidE (λ(d:Nat) (w1 Wc:World) (s1:Sta I M W0 (c+2+cost (wEv [] [a])) (runS st (wEv [] [a]) (st (.bi [x]) s)) w1) (hb:Below w1.heap.size w1 Wc) (hn:Blk Wc w1.heap.size 9 #[.string Y])=>wiS hI ek HV HW s1 hb (λg=>S g\/g=w1.heap.size) (λg hg=>by
   rcases hg with h|h
   ·exact hbx.old g h
   ·exact .inr ⟨by omega,by rw[h];exact hn.lt⟩) [b] [x] (some ⟨g,9,none⟩) d (some ⟨w1.heap.size,0,none⟩) 1 (w.heap.size+1)
  (hpb.keep (λg hg=>.inl hg) (λg hg=>(hb.block g (by have:=(hS g hg).1;have:=(hbx.at_ s1).2.2.1;omega)).trans ((hbx.at_ s1).2.2.2 g hg)))
  (λ_=>⟨_,rfl,.inr rfl,lie_blk hn |> λh=>by simpa[Sx.strV,hY] using h⟩) ((Blk.below (hbx.at_ s1).2.1 hb (by have:=(hbx.at_ s1).2.2.1;omega)).cell 0) (by have:=hbx.sz;omega) (λe=>by have:=hlt _ e;omega) (by simp;exact⟨hok.2.2.2,by simp only[Ex.size]at hsz;omega⟩) (by simpa using hx24) (by simp) (by omega))
 simp only[List.length_cons,List.length_nil,Nat.zero_add]at HWB
 clear hbx hst b0 b1 hi hv hS hok hsz hB hin hlt HV HW hpa hpb hgS
 go_enter Tryz.func117,Tryz.ntmps117
 go_upto_region 2 with fail
 try rw[hW0]
 clear hW0
 go_wp2_with fail
 refine HEV.out.mono ?_
 rintro e1 w1 ⟨rfl,s1⟩
 have S1:=hidE s1
 have HWA2:=hidE (λd=>HWA.out d w1 s1)
 clear s1 HEV HWA g0 g1 g2 g3 g4 g5 g6 g7 g8 d0
 obtain⟨b0,b1,hsw,hkS⟩:=HBX.out.at_ S1.out
 obtain⟨⟨g0,g1,g2,g3,g4,g5,g6,g7,g8⟩,-,-⟩:=blk_facts9 b0
 have d0:=b1.cell 0
 replace d0:w1.cell? ⟨w.heap.size+1,0,none⟩=some (.func (.func k) #[] caps):=d0
 clear b0 b1
 go_wp2_with fail
 refine(HWA2.out _).mono ?_
 rintro e2 w2 ⟨rfl,s2⟩
 have S2:=hidE s2
 have HWB2:=hidE (λd Wc=>HWB.out d w2 Wc s2)
 clear s2 HWA2 HWB hsw g0 g1 g2 g3 g4 g5 g6 g7 g8 d0 hkS
 obtain⟨b0,b1,hsw,hkS⟩:=HBX.out.at_ S2.out
 obtain⟨⟨g0,g1,g2,g3,g4,g5,g6,g7,g8⟩,-,-⟩:=blk_facts9 b0
 have d0:=b1.cell 0
 replace d0:w2.cell? ⟨w.heap.size+1,0,none⟩=some (.func (.func k) #[] caps):=d0
 clear b0 b1
 have SOF:Hid (∀W:World,Below w2.heap.size w2 W->W.cell? ⟨w.heap.size,7,none⟩=some (.slice (some ⟨g,0,none⟩) 2 KC)/\W.cell? ⟨w.heap.size,1,none⟩=some (.string Y)):=hidE (λW hW=>⟨(hW.cell (by show w.heap.size<_;omega)).trans g7,(hW.cell (by show w.heap.size<_;omega)).trans g1⟩)
 rw[show min (1:Int) 2=1 from rfl]
 go_wp2_with fail
 go_region_held3 (λW:World=>W.cell? ⟨w.heap.size,7,none⟩=some (.slice (some ⟨g,0,none⟩) 2 KC)/\W.cell? ⟨w.heap.size,1,none⟩=some (.string Y)) (first|(exact⟨g7,g1⟩)|(refine SOF.out _ ?_;repeat first|exact Below.refl _ _|(refine Below.alloc ?_ (by first|omega|(simp;done)|(simp;omega)) _)|(refine Below.drew ?_)))
  (first
   |((with_reducible refine(HWB2.out _ _ ?hb ?hn).mono ?hm);(case hb=>exact((Below.refl _ _).alloc (Nat.le_refl _) _).drew);(case hn=>exact heap_alloc_new _ _);rintro e3 w3 ⟨rfl,s3⟩;have S3:=hidE s3;clear s3 HWB2 hsw g0 g1 g2 g3 g4 g5 g6 g7 g8 d0 hkS;obtain⟨b0,b1,hsw,hkS⟩:=HBX.out.at_ S3.out;obtain⟨⟨g0,g1,g2,g3,g4,g5,g6,g7,g8⟩,-,-⟩:=blk_facts9 b0;clear b0 b1 hkS))
 go_wp2_with fail
 go_loopg [72] 0 (λgg vi wr=>gg=0/\vi=.int .i64 0/\Hid (wr=w3))
 case atStart=>exact⟨rfl,rfl,hidE rfl⟩
 case round =>
  obtain⟨rfl,rfl,hw⟩:=hrel
  have hw:=hw.out
  subst hw
  go_wp2_with fail
  first|go_end0|refine bodyPost_ret (results_none rfl _ _ _) rfl ?_
  refine⟨rfl,?_⟩
  have:=S3.out.pre HLW.out
  rw[<-Nat.add_assoc,<-Nat.add_assoc]
  exact this
end Go.Proofs.YtmbmjneibkihkaaGreatDoor

namespace Go.Proofs.YtmbmjneibkihkaaGreatDoor
open Go.RowKit Lx Tx Sx Go.Shelf
set_option maxRecDepth 100000
theorem evsA_append(a b:List Al):evsA (a++b)=evsA a++evsA b:=by
 induction a with
 | nil=>simp[evsA]
 | cons x r ih=>simp[evsA,ih]
theorem evsA_snoc(l:List Al)(i:Nat)(x:Al)(h:l[i]? = some x):evsA (l.take (i+1))=evsA (l.take i)++evs1 x:=by
 rw[List.take_add_one,h,evsA_append]
 simp[evsA]
theorem costA_le(l:List Al)(i:Nat):cost (evsA (l.take i))<=cost (evsA l):=by
 have:=congrArg (λl=>cost (evsA l)) (List.take_append_drop i l)
 simp only[evsA_append,cost_append]at this
 omega
theorem okA_at:∀(l:List Al)(i:Nat)(x:Al),okA l->l[i]? = some x->x.Ok
 | [],_,_,_,h=>by simp at h
 | a::r,0,x,h,hx=>by
  rw[okA]at h
  simp at hx
  exact hx▸h.1
 | a::r,i+1,x,h,hx=>by
  rw[okA]at h
  exact okA_at r i x h.2 (by simpa using hx)
theorem sizeA_at:∀(l:List Al)(i:Nat)(x:Al),l[i]? = some x->x.size<=sizeA l
 | [],_,_,h=>by simp at h
 | a::r,0,x,hx=>by
  simp at hx
  rw[sizeA,hx]
  omega
 | a::r,i+1,x,hx=>by
  have:=sizeA_at r i x (by simpa using hx)
  rw[sizeA]
  omega
theorem ex_size1(e:Ex):1<=e.size:=by cases e <;> simp only[Ex.size] <;> omega
theorem lenA_le:∀l:List Al,l.length<=sizeA l
 | []=>by simp
 | .mk _ _ b::r=>by
  have:=lenA_le r
  have:=ex_size1 b
  rw[sizeA,Al.size,List.length_cons]
  omega
theorem AlIn.full {S:Nat->Prop} {w:World} {c:Nm} {vs:List Nm} {b:Ex} {g o:Nat}(h:AlIn S w (.mk c vs b) g o):∃V v,w.cell? ⟨g,o,none⟩=some (Sx.strV c)/\w.cell? ⟨g,o+1,none⟩=some (.slice V vs.length v)/\NmsIn S w vs V/\ExAt S w b g (o+2):=by
 rw[AlIn]at h
 obtain⟨h1,⟨V,v,h2,h4⟩,h3⟩:=h
 exact⟨V,v,h1,h2,h4,h3⟩
theorem RdX.lay {S S':Nat->Prop} {w w':World} {e:Ex} {cs:Array Value} {g:Nat} {t:TypeId}(h:RdX S w e (.agg cs))(hS:∀k,S k->S' k)(hk:∀k,S k->w'.heap[k]? = w.heap[k]?)(hl:Blk w' g t cs):ExAt S' w' e g 0:=by
 obtain⟨P,hv,h2,h3⟩:=h
 injection hv with hv
 subst hv
 exact kid_new (y:=e) (cs:=exC e P) ⟨P,rfl,h2,h3⟩ hS hk hl
theorem Sta.join {σ:Type} {I:Nat->σ->(Nat->Prop)->World->Prop} {M0 M1:Nat->Prop} {w0 wa W:World} {c:Nat} {s:σ}(hm:∀g,M1 g->M0 g\/w0.heap.size<=g)(hc:Chg M0 w0 wa)(h:Sta I M1 wa c s W):Sta I M0 w0 c s W:=by
 obtain⟨M',k1,k2,k3⟩:=h
 refine⟨M',k1,λg hg=>?_,hc.trans' k3 (λi hi hm'=>?_)⟩
 ·rcases k2 g hg with h|h
  ·exact hm g h
  ·exact .inr (Nat.le_trans hc.size h)
 ·rcases hm i hm' with h|h
  ·exact h
  ·omega
structure Rb (k:Nat) (caps:Array Value) (M1 S:Nat->Prop) (w wa:World) (bx ba:Nat) (cs:Array Value):Prop where
 b1:Blk wa bx 186 #[.func (.func k) #[] caps]
 b2:Blk wa ba 174 cs
 n1:¬M1 bx
 na:¬M1 ba
 s:∀g,S g->g<wa.heap.size/\¬M1 g
 k:∀g,S g->wa.heap[g]? = w.heap[g]?
theorem Rb.at_ {σ:Type} {I:Nat->σ->(Nat->Prop)->World->Prop} {k:Nat} {caps cs:Array Value} {M1 S:Nat->Prop} {w wa W:World} {bx ba c:Nat} {s:σ}(h:Rb k caps M1 S w wa bx ba cs)(hs:Sta I M1 wa c s W) :
  Blk W bx 186 #[.func (.func k) #[] caps]/\Blk W ba 174 cs/\wa.heap.size<=W.heap.size/\∀g,S g->W.heap[g]? = w.heap[g]? :=
 ⟨h.b1.same (hs.block _ h.b1.lt h.n1),h.b2.same (hs.block _ h.b2.lt h.na),hs.size,λg hg=>(hs.block g (h.s g hg).1 (h.s g hg).2).trans (h.k g hg)⟩
set_option maxHeartbeats 6400000 in
theorem sc_walk_cs {σ:Type}(n k:Nat)(caps:Array Value)(B:Nat)(I:Nat->σ->(Nat->Prop)->World->Prop)(st:Ev->σ->σ)(hI:InvB I)(ek:∀args w,(callFunc k args).run Tryz.prog w=.ok (.enter k args) w)(HV:VisE k caps B I st)(HW:WalkOK n k caps B I st)
  (e:Ex)(l:List Al)(c:Nat)(s:σ)(M S:Nat->Prop)(v:Value)(w:World)(hi:I c s M w)(hv:RdX S w (Ex.cs e l:Ex) v)(hS:∀g,S g->g<w.heap.size/\¬M g)(hok:(Ex.cs e l:Ex).Ok)(hsz:(Ex.cs e l:Ex).size<=n+1)(hn:n<=90000)(hB:c+cost (evs (Ex.cs e l))<=B) :
  Calls Tryz.prog 117 #[v,.func (.func k) #[] caps] w λe' w'=>e'=.returned (.tuple #[])/\Sta I M w (c+cost (evs (Ex.cs e l))) (runS st (evs (Ex.cs e l)) s) w':=by
 have ew:∀args w,(callFunc 157 args).run Tryz.prog w=.ok (.enter 157 args) w:=enters_of Tryz.func157 (by kernel_rfl) rfl
 have mk:∀(W:World) (p:Addr),(Instr.makeFunc (.func 157) #[] #[.pointer (some p)]).run Tryz.prog W=.ok (.func (.func 157) #[] #[.pointer (some p)]) W:=λ_ _=>rfl
 obtain⟨K,X,Z,A0,m,q,KA,kc,LA,lc,rfl,hin⟩:=hv.shape
 simp only[kdE,nmE,toE,kidsE,altsE,List.length_cons,List.length_nil,Nat.zero_add]at hin ⊢
 have hlt:=hI.lt _ _ _ _ hi
 rw[show(⟨([]:Nm).toArray⟩:ByteArray)=⟨#[]⟩ from rfl]
 obtain⟨N,hN⟩:∃N,l.length=N:=⟨_,rfl⟩
 rw[hN]
 have hev:evs (Ex.cs e l)=wEv [] [e]++evsA l:=by simp[evs,wEv]
 rw[hev]at hB ⊢
 obtain⟨E0,hE0⟩:∃E0,wEv [] [e]=E0:=⟨_,rfl⟩
 rw[hE0]at hB ⊢
 obtain⟨W0,hW0⟩:∃W,(w.alloc (.cells #[.int .i64 6,.string ⟨#[]⟩,.bool false,.int .i64 K,.string X,.int .i64 Z,.slice A0 m q,.slice KA 1 kc,.slice LA N lc] 39)).alloc (.cells #[.func (.func k) #[] caps] 186)=W:=⟨_,rfl⟩
 have hbx:Box k caps M S w W0 #[.int .i64 6,.string ⟨#[]⟩,.bool false,.int .i64 K,.string X,.int .i64 Z,.slice A0 m q,.slice KA 1 kc,.slice LA N lc]:=by
  refine⟨hW0▸Blk.below (heap_alloc_new w _) ((Below.refl _ _).alloc (Nat.le_refl _) _) (by simp),hW0▸two_top _ _ _ _ rfl,by rw[<-hW0];simp,hW0▸((Below.refl _ w).alloc (Nat.le_refl _) _).alloc (by simp) _,hS,hlt⟩
 have hst:=Sta.init (hI.keep _ _ _ _ W0 hi hbx.lw)
 have HBX:=hidE hbx
 have S0:=hidE hst
 have HLW:=hidE hbx.lw
 obtain⟨b0,b1,hsw,-⟩:=hbx.at_ hst
 obtain⟨⟨g0,g1,g2,g3,g4,g5,g6,g7,g8⟩,-,-⟩:=blk_facts9 b0
 have d0:=b1.cell 0
 replace d0:W0.cell? ⟨w.heap.size+1,0,none⟩=some (.func (.func k) #[] caps):=d0
 have hpar:PartsAt S w [e] KA:=λ_=>by
  obtain⟨g,h1,h2,h3⟩:=((kids_at (Ex.cs e l) KA LA).1 hin).1 (by simp[kidsE])
  exact⟨g,0,h1,h2,h3⟩
 have hN9:N<=90000:=by have:=lenA_le l;have:=ex_size1 e;simp only[Ex.size]at hsz;omega
 have HALT:=hidE (λi x (hx:l[i]? = some x)=>ExIn.alt (e:=Ex.cs e l) hin i x hx)
 have hBB:∀i x,l[i]? = some x->c+cost (E0++evsA (l.take i))+cost (evs1 x)<=B:=λi x hx=>by
  have h1:=costA_le l (i+1)
  rw[evsA_snoc l i x hx,cost_append]at h1
  rw[cost_append]at hB ⊢
  omega
 have HBB:=hidE hBB
 have HOK:=hidE (λi x (hx:l[i]? = some x)=>okA_at l i x hok.2 hx)
 have HSZ:=hidE (λi (x:Al) (hx:l[i]? = some x)=>show x.size<=n by have:=sizeA_at l i x hx;simp only[Ex.size]at hsz;omega)
 have HWW:=hidE (wiS hI ek HV HW hst (Below.refl _ W0) S (λg hg=>hbx.old g hg) [e] [] KA kc none 0 (w.heap.size+1)
  (hpar.keep (λ_ h=>h) (λg hg=>(hbx.at_ hst).2.2.2 g hg)) (λh=>absurd rfl h) (hbx.b1.cell 0) (by have:=hbx.sz;omega) (λe=>by have:=hlt _ e;omega) (by simp;exact⟨hok.1,by simp only[Ex.size]at hsz;omega⟩) (by simp) (by simp) (by rw[hE0];rw[cost_append]at hB;omega))
 simp only[List.length_cons,List.length_nil,Nat.zero_add,hE0]at HWW
 have HI:=hidE hI
 have HVV:=hidE HV
 have HW2:=hidE HW
 have HS:=hidE hS
 have HM:=hidE hlt
 have HN:=hidE hN
 have HBX2:=hidE hbx.sz
 clear hbx hst b0 b1 hi hv hS hok hsz hB hin hlt HV HW hpar hBB hN
 go_enter Tryz.func117,Tryz.ntmps117
 go_upto_region 2 with fail
 try rw[hW0]
 clear hW0
 go_wp2_with fail
 refine HWW.out.mono ?_
 rintro e1 w1 ⟨rfl,s1⟩
 have S1:=hidE s1
 clear s1 HWW g0 g1 g2 g3 g4 g5 g6 g7 g8 d0
 obtain⟨b0,b1,hsw,hkS⟩:=HBX.out.at_ S1.out
 obtain⟨⟨g0,g1,g2,g3,g4,g5,g6,g7,g8⟩,-,-⟩:=blk_facts9 b0
 have d0:=b1.cell 0
 replace d0:w1.cell? ⟨w.heap.size+1,0,none⟩=some (.func (.func k) #[] caps):=d0
 clear b0 b1
 clear hkS
 go_wp2_with fail
 clear g0 g1 g2 g3 g4 g5 g6 g7 g8 d0
 go_loopg [72] N (λgg vi wr=>∃j:Nat,gg=N-j/\vi=.int .i64 (j:Nat)/\j<=N/\Hid (Sta I M W0 (c+cost (E0++evsA (l.take j))) (runS st (E0++evsA (l.take j)) s) wr))
 case atStart =>
  refine⟨0,rfl,rfl,by omega,hidE ?_⟩
  have:=S1.out
  simpa[evsA] using this
 case round =>
  obtain⟨j,rfl,rfl,hj,hst⟩:=hrel
  clear S1
  by_cases hlt2:j<N
  ·obtain⟨x,hx⟩:∃x,l[j]? = some x:=⟨_,List.getElem?_eq_getElem (by rw[HN.out];exact hlt2)⟩
   obtain⟨M1,i1,hm1,hch⟩:=hst.out
   have hm1lt:=HI.out.lt _ _ _ _ i1
   obtain⟨hb0,hb1,hszz,hkr⟩:=HBX.out.at_ hst.out
   obtain⟨g,rfl,hSg,hat⟩:=HALT.out j x hx
   obtain⟨cn,vs,b⟩:=x
   obtain⟨V,vc,f0,f1,hnm,hbody⟩:=AlIn.full (AlIn.keep (λ_ h=>h) hkr _ g _ (hkr g hSg) hat)
   obtain⟨k1,x1,t1,K1,X1,Z1,B1,m1,q1,KA1,kn1,kc1,LA1,ln1,lc1,f2,f3,f4,f5,f6,f7,f8,f9,f10,hrd⟩:=hbody.cells
   have hgl:=lt_cell f0
   have hokx:=HOK.out j _ hx
   have hszx:=HSZ.out j _ hx
   have hbb:=HBB.out j _ hx
   have HSN:=hidE (evsA_snoc l j _ hx)
   obtain⟨Y,hY⟩:∃Y:ByteArray,⟨cn.toArray⟩=Y:=⟨_,rfl⟩
   simp only[Sx.strV,hY]at f0
   obtain⟨vn,hvn⟩:∃vn,vs.length=vn:=⟨_,rfl⟩
   rw[hvn]at f1
   have hev1:evs1 (.mk cn vs b)=.cn cn::.bi vs::wEv vs [b]:=by simp[evs1,wEv]
   rw[hev1,cost_cons,cost_cons]at hbb
   simp only[evL,hvn]at hbb
   obtain⟨Cj,hCj⟩:∃Cj,c+cost (E0++evsA (l.take j))=Cj:=⟨_,rfl⟩
   obtain⟨Sj,hSj⟩:∃Sj,runS st (E0++evsA (l.take j)) s=Sj:=⟨_,rfl⟩
   rw[hCj]at hbb
   rw[hCj,hSj]at i1
   have HCS:=hidE (And.intro hCj hSj)
   obtain⟨wa,hwa⟩:∃wa,wr.alloc (.cells #[.string Y,.slice V vn vc,.int .i64 k1,.string x1,.bool t1,.int .i64 K1,.string X1,.int .i64 Z1,.slice B1 m1 q1,.slice KA1 kn1 kc1,.slice LA1 ln1 lc1] 174)=wa:=⟨_,rfl⟩
   have hwb:Below wr.heap.size wr wa:=hwa▸(Below.refl _ wr).alloc (Nat.le_refl _) _
   have hwz:wa.heap.size=wr.heap.size+1:=by rw[<-hwa];simp
   have hrb:Rb k caps M1 S w wa (w.heap.size+1) wr.heap.size #[.string Y,.slice V vn vc,.int .i64 k1,.string x1,.bool t1,.int .i64 K1,.string X1,.int .i64 Z1,.slice B1 m1 q1,.slice KA1 kn1 kc1,.slice LA1 ln1 lc1]:=by
    refine⟨hb1.below hwb (by omega),hwa▸heap_alloc_new wr _,λe=>?_,λe=>by have:=hm1lt _ e;omega,λg hg=>⟨by have:=(HS.out g hg).1;omega,λe=>?_⟩,λg hg=>(hwb.block g (by have:=(HS.out g hg).1;omega)).trans (hkr g hg)⟩
    ·rcases hm1 _ e with h|h
     ·have:=HM.out _ h;omega
     ·have:=HBX2.out;omega
    ·rcases hm1 _ e with h|h
     ·exact(HS.out g hg).2 h
     ·have:=(HS.out g hg).1;have:=HBX2.out;omega
   have HRB:=hidE hrb
   have HJ:=hidE (λc' s' W (h:Sta I M1 wa c' s' W)=>Sta.join hm1 (hch.below hwb) h)
   have hsa:Sta I M1 wa Cj Sj wa:=Sta.init (HI.out.keep _ _ _ _ wa i1 hwb)
   have HSA:=hidE hsa
   have HEV:=hidE (ev1 HI.out HVV.out hsa (.cn cn) cn Y 1 rfl rfl hY (gd_len hokx.1 (by decide)) (by omega))
   simp only[evW]at HEV
   rw[hwz]at HEV
   have HEV2:=hidE (λw1 (s1:Sta I M1 wa (Cj+1) (st (.cn cn) Sj) w1)=>evS HI.out HVV.out s1 (Below.refl _ w1) S (λg hg=>.inl (hrb.s g hg)) (.bi vs) V vc (hnm.keep (λ_ h=>h) (λg hg=>((hrb.at_ s1).2.2.2 g hg).trans (hkr g hg).symm)) (λx hx=>gd_len (hokx.2.1 x hx) (by decide)) (by simp only[evL,hvn];omega))
   simp only[evW,evN,evL,hvn]at HEV2
   have HW3:=hidE (λ(d:Nat) w2 (s2:Sta I M1 wa (Cj+1+(vn+1)) (st (.bi vs) (st (.cn cn) Sj)) w2)=>wiS HI.out ek HVV.out HW2.out s2 ((Below.refl _ w2).alloc (Nat.le_refl _) (.cells #[.int .i64 k1,.string x1,.bool t1,.int .i64 K1,.string X1,.int .i64 Z1,.slice B1 m1 q1,.slice KA1 kn1 kc1,.slice LA1 ln1 lc1] 39)) (λg=>S g\/g=w2.heap.size) (λg hg=>by
     rcases hg with h|h
     ·exact .inl (hrb.s g h)
     ·exact .inr ⟨by omega,by simp;omega⟩) [b] vs (some ⟨w2.heap.size,0,none⟩) d V vc (w.heap.size+1)
    (λ_=>⟨_,0,rfl,.inr rfl,by
     rw[ExsAt,ExsAt]
     exact⟨RdX.lay hrd (λ_ h=>.inl h) (λg hg=>(Below.heap_alloc _ _ _ (by have:=(hrb.s g hg).1;have:=s2.size;omega)).trans (((hrb.at_ s2).2.2.2 g hg).trans (hkr g hg).symm)) (heap_alloc_new w2 _),trivial⟩⟩)
    (hnm.keep (λ_ h=>.inl h) (λg hg=>(Below.heap_alloc _ _ _ (by have:=(hrb.s g hg).1;have:=s2.size;omega)).trans (((hrb.at_ s2).2.2.2 g hg).trans (hkr g hg).symm)))
    (((hrb.at_ s2).1.alloc _).cell 0) hrb.b1.lt hrb.n1 (by simp;exact⟨hokx.2.2,hszx⟩) (λx hx=>gd_len (hokx.2.1 x hx) (by decide)) (by simp) (by omega))
   simp only[List.length_cons,List.length_nil,Nat.zero_add,hvn]at HW3
   have HVN:=hidE hvn
   have HE1:=hidE hev1
   clear hx hat hSg hnm hbody hrd hokx hszx hbb hkr hm1 hm1lt hch i1 hb0 hrb hsa hCj hSj hev1 hvn hwb
   have hd1:=hb1.cell 0
   replace hd1:wr.cell? ⟨w.heap.size+1,0,none⟩=some (.func (.func k) #[] caps):=hd1
   clear hb1
   obtain⟨e1,ea,-,-⟩:=HRB.out.at_ HSA.out
   obtain⟨⟨a0,a1,a2,a3,a4,a5,a6,a7,a8,a9,a10⟩,-,-⟩:=blk_facts11 ea
   have d0:=e1.cell 0
   replace d0:wa.cell? ⟨w.heap.size+1,0,none⟩=some (.func (.func k) #[] caps):=d0
   clear e1 ea
   go_wp2_with fail
   try rw[hwa]
   go_wp2_with fail
   refine HEV.out.mono ?_
   rintro e2 w2 ⟨rfl,s2⟩
   have S2:=hidE s2
   have HE2:=hidE (HEV2.out w2 s2)
   clear s2 HEV HEV2 a0 a1 a2 a3 a4 a5 a6 a7 a8 a9 a10 d0
   obtain⟨e1,ea,hzw,hkw⟩:=HRB.out.at_ S2.out
   obtain⟨⟨a0,a1,a2,a3,a4,a5,a6,a7,a8,a9,a10⟩,-,-⟩:=blk_facts11 ea
   have d0:=e1.cell 0
   replace d0:w2.cell? ⟨w.heap.size+1,0,none⟩=some (.func (.func k) #[] caps):=d0
   clear e1 ea hkw
   go_wp2_with fail
   refine HE2.out.mono ?_
   rintro e3 w3 ⟨rfl,s3⟩
   have S3:=hidE s3
   have HW4:=hidE (λd=>HW3.out d w3 s3)
   clear s3 HE2 HW3 hzw a0 a1 a2 a3 a4 a5 a6 a7 a8 a9 a10 d0
   obtain⟨e1,ea,hzw,hkw⟩:=HRB.out.at_ S3.out
   obtain⟨⟨a0,a1,a2,a3,a4,a5,a6,a7,a8,a9,a10⟩,-,-⟩:=blk_facts11 ea
   have d0:=e1.cell 0
   replace d0:w3.cell? ⟨w.heap.size+1,0,none⟩=some (.func (.func k) #[] caps):=d0
   clear e1 ea hkw
   have hlw:wr.heap.size<w3.heap.size:=by omega
   have hnw:wr.heap.size≠w3.heap.size:=by omega
   go_wp2_with fail
   refine(HW4.out _).mono ?_
   rintro e4 w4 ⟨rfl,s4⟩
   have S4:=hidE s4
   clear s4 HW4 hzw a0 a1 a2 a3 a4 a5 a6 a7 a8 a9 a10 d0
   go_wp2_with fail
   go_roundg (N-(j+1))
   case measure=>omega
   case rel =>
    refine⟨j+1,rfl,by go_num,by omega,hidE ?_⟩
    have:=HJ.out _ _ _ S4.out
    rw[HSN.out,HE1.out,<-List.append_assoc,cost_append,cost_cons,cost_cons,runS_append,runS_cons,runS_cons,HCS.out.2,<-Nat.add_assoc,HCS.out.1]
    simp only[evL,HVN.out]
    rw[show Cj+(1+(vn+1+cost (wEv vs [b])))=Cj+1+(vn+1)+cost (wEv vs [b]) by omega]
    exact this
  ·obtain rfl:j=N:=by omega
   go_wp2_with fail
   first|go_end0|refine bodyPost_ret (results_none rfl _ _ _) rfl ?_
   refine⟨rfl,?_⟩
   have:=hst.out.pre HLW.out
   rw[show l.take j=l from List.take_of_length_le (by rw[HN.out];exact Nat.le_refl _)]at this
   exact this
end Go.Proofs.YtmbmjneibkihkaaGreatDoor

namespace Go.Proofs.YtmbmjneibkihkaaGreatDoor
open Go.RowKit Lx Tx Sx Go.Shelf
theorem sc_walkOK {σ:Type}(k:Nat)(caps:Array Value)(B:Nat)(I:Nat->σ->(Nat->Prop)->World->Prop)(st:Ev->σ->σ)(hI:InvB I)(ek:∀args w,(callFunc k args).run Tryz.prog w=.ok (.enter k args) w)(HV:VisE k caps B I st) :
  ∀n,n<=90001->WalkOK n k caps B I st:=by
 intro n
 induction n with
 | zero=>intro _ c s M e S v w hz;have:=ex_size1 e;omega
 | succ n ih =>
  intro hn c s M e S v w hz hi hv hS hok hB
  have HW:=ih (by omega)
  cases e with
  | var x=>exact sc_walk_var k caps B I st hI ek HV x c s M S v w hi hv hS hok hB
  | con x=>exact sc_walk_con k caps B I st hI ek HV x c s M S v w hi hv hS hok hB
  | lam x e=>exact sc_walk_lam n k caps B I st hI ek HV HW x e c s M S v w hi hv hS hok hz hB
  | app a b=>exact sc_walk_app n k caps B I st hI ek HV HW a b c s M S v w hi hv hS hok hz hB
  | lt x t a b=>exact sc_walk_lt n k caps B I st hI ek HV HW x t a b c s M S v w hi hv hS hok hz hB
  | cs e l=>exact sc_walk_cs n k caps B I st hI ek HV HW e l c s M S v w hi hv hS hok hz (by omega) hB
  | ann a t=>exact sc_walk_ann n k caps B I st hI ek HV HW a t c s M S v w hi hv hS hok hz hB
end Go.Proofs.YtmbmjneibkihkaaGreatDoor

namespace Go.Proofs.YtmbmjneibkihkaaGreatDoor
open Go.RowKit Lx Tx Sx Go.Maps Go.WideMaps Go.Shelf
set_option maxRecDepth 100000
def mkMet:MK Unit where
 t:=128
 e:=126
 R:=unitElem
 enc _:=.nil
 val _:=.agg #[]
 ok _:=True
 z:=.agg #[]
 zd:=.nil
 hT:=Tryz.underlying128
 hz _:=by kernel_rfl
 hR _ _:=rfl
 hzd:=rfl
 inv _ _ _ h:=unitElem_inv h
 invz _ _ h:=unitElem_inv h
theorem met_look {w:World} {b:Nat} {L:List Name}(h:MapE mkMet w b (units L))(X:ByteArray)(hX:X.size<=24) :
  (Instr.lookup 128 (.map (some b)) (.string X) true).run Tryz.prog w=.ok (.tuple #[.agg #[],.bool (decide (X.data.toList∈L))]) w:=by
 have:=h.getOk X (by unfold maxLen;omega)
 rw[look_units]at this
 by_cases hm:X.data.toList∈L
 ·rw[if_pos hm]at this
  rw[decide_eq_true hm]
  exact this
 ·rw[if_neg hm]at this
  rw[decide_eq_false hm]
  exact this
set_option maxHeartbeats 1600000 in
theorem sc_has(b:Nat)(L:List Name)(X:ByteArray)(w:World)(h:MapE mkMet w b (units L))(hX:X.size<=24) :
  Calls Tryz.prog 123 #[.map (some b),.string X] w λe w'=>e=.returned (.bool (decide (X.data.toList∈L)))/\Below w.heap.size w w':=by
 have hl:=met_look h X hX
 obtain⟨q,hq⟩:∃q,decide (X.data.toList∈L)=q:=⟨_,rfl⟩
 rw[hq]at hl ⊢
 clear h
 go_enter Tryz.func123,Tryz.ntmps123
 go_wp2_with fail
 go_ret
 exact⟨rfl,(Below.refl _ w).alloc (Nat.le_refl _) _⟩
set_option maxHeartbeats 1600000 in
theorem sc_lacks(b:Nat)(L:List Name)(X:ByteArray)(w:World)(h:MapE mkMet w b (units L))(hX:X.size<=24) :
  Calls Tryz.prog 122 #[.map (some b),.string X] w λe w'=>e=.returned (.bool (!decide (X.data.toList∈L)))/\Below w.heap.size w w':=by
 have HC:=hidE (sc_has b L X w h hX)
 obtain⟨q,hq⟩:∃q,decide (X.data.toList∈L)=q:=⟨_,rfl⟩
 rw[hq]at HC ⊢
 clear h
 go_enter Tryz.func122,Tryz.ntmps122
 go_wp2_with fail
 refine HC.out.mono ?_
 rintro e w' ⟨rfl,hb⟩
 have HB:=hidE hb
 clear hb
 go_wp2_with fail
 go_ret
 exact⟨rfl,HB.out⟩
set_option maxHeartbeats 1600000 in
theorem sc_again(b:Nat)(L:List Name)(X:ByteArray)(w:World)(h:MapE mkMet w b (units L))(hX:X.size<=24)(hL:L.length<=1000000) :
  Calls Tryz.prog 119 #[.map (some b),.string X] w λe w'=>e=.returned (.bool (decide (X.data.toList∈L)))/\MapE mkMet w' b (units (L++[X.data.toList]))/\Chg (only b) w w':=by
 have HC:=hidE (sc_has b L X w h hX)
 have HLT:=hidE h.lt
 have HM:=hidE h
 have HX:=hidE hX
 have HUL:Hid ((units L).length<100000000000000):=hidE (by simp[units];omega)
 obtain⟨q,hq⟩:∃q,decide (X.data.toList∈L)=q:=⟨_,rfl⟩
 rw[hq]at HC ⊢
 clear h hX
 go_enter Tryz.func119,Tryz.ntmps119
 go_wp2_with fail
 refine HC.out.mono ?_
 rintro e w1 ⟨rfl,hb⟩
 have HB:=hidE hb
 have HM1:=hidE (HM.out.keep (hb.block b HLT.out))
 clear hb HC
 go_wp2_with (at_mapUpdate;refine wpList_put mkMet _ rfl _ _ _ rfl b (units L) rfl HM1.out HUL.out X (by have:=HX.out;unfold maxLen;omega) rfl () trivial rfl ?_;intro w2 hm2 hg2;have HM2:=hidE hm2;have HG2:=hidE hg2;clear hm2 hg2)
 go_ret
 refine⟨rfl,by rw[units_snoc];exact HM2.out,(Chg.of_below HB.out).grown HG2.out (λe hh=>?_)⟩
 injection hh with hh
 exact .inr hh.symm
end Go.Proofs.YtmbmjneibkihkaaGreatDoor

namespace Go.Proofs.YtmbmjneibkihkaaGreatDoor
open Go.RowKit Lx Tx Sx Go.Maps Go.WideMaps Go.Shelf
set_option maxRecDepth 100000
def VisN {τ:Type}(k:Nat)(caps:Array Value)(B:Nat)(J:Nat->τ->(Nat->Prop)->World->Prop)(yes:Int->Nm->τ->Bool)(tr:Int->Nm->τ->τ):Prop :=
 ∀(c:Nat) (s:τ) (M:Nat->Prop) (what:Int) (X:ByteArray) (w:World),J c s M w->X.size<=24->c+1<=B ->
  Calls Tryz.prog k (#[.int .i64 what,.string X]++caps) w λe w'=>e=.returned (.bool (yes what X.data.toList s))/\Sta J M w (c+1) (tr what X.data.toList s) w'
def JNone(_:Nat)(_:Unit)(M:Nat->Prop)(_:World):Prop:=∀g,¬M g
theorem JNone.inv:InvS JNone:=⟨λ_ _ _ _ h g hg=>absurd hg (h g),λ_ _ _ _ _ h _ _=>h,λ_ _ _ _ h=>h⟩
set_option maxHeartbeats 1600000 in
theorem sc_Cons1(B:Nat):VisN 69 #[] B JNone (λwhat _ _=>what==1) (λ_ _ _=>()):=by
 intro c s M what X w hj hX hB
 show Calls Tryz.prog 69 #[.int .i64 what,.string X] w _
 have HS:=hidE (show Sta JNone M w (c+1) () w from Sta.init hj)
 clear hj hX hB
 go_enter Tryz.func69,Tryz.ntmps69
 go_wp2_with fail
 go_ret
 exact⟨rfl,HS.out⟩
set_option maxHeartbeats 1600000 in
theorem sc_Bound1(B:Nat):VisN 71 #[] B JNone (λwhat _ _=>what==2) (λ_ _ _=>()):=by
 intro c s M what X w hj hX hB
 show Calls Tryz.prog 71 #[.int .i64 what,.string X] w _
 have HS:=hidE (show Sta JNone M w (c+1) () w from Sta.init hj)
 clear hj hX hB
 go_enter Tryz.func71,Tryz.ntmps71
 go_wp2_with fail
 go_ret
 exact⟨rfl,HS.out⟩
def mkCnt:MK Int where
 t:=117
 e:=3
 R:=intElem
 enc v:=.lit (.int .i64 v)
 val v:=.int .i64 v
 ok _:=True
 z:=.int .i64 0
 zd:=.lit (.int .i64 0)
 hT:=Tryz.underlying117
 hz _:=by kernel_rfl
 hR _ _:=rfl
 hzd:=rfl
 inv _ _ _ h:=intElem_inv h
 invz _ _ h:=intElem_inv h
def cnt(x:Nm)(r:List (Nm × Int)):Int:=(look x r).getD 0
theorem cnt_look {w:World} {b:Nat} {r:List (Nm × Int)}(h:MapE mkCnt w b r)(X:ByteArray)(hX:X.size<=24) :
  (Instr.lookup 117 (.map (some b)) (.string X) false).run Tryz.prog w=.ok (.int .i64 (cnt X.data.toList r)) w:=by
 have:=h.get X (by unfold maxLen;omega)
 unfold cnt
 cases hl:look X.data.toList r with
 | none=>rw[hl]at this;exact this
 | some v=>rw[hl]at this;exact this
structure JFree (pb cb:Nat) (c:Nat) (r:List (Nm × Int)) (M:Nat->Prop) (w:World):Prop where
 ptr:Blk w pb 117 #[.map (some cb)]
 map:MapE mkCnt w cb r
 len:r.length<=c
 num:∀x,-(c:Int)<=cnt x r/\cnt x r<=c
 low:M pb/\M cb
 ne:pb≠cb
 all:∀g,M g->g<w.heap.size
theorem JFree.up {pb cb c:Nat} {r:List (Nm × Int)} {M:Nat->Prop} {w:World}(h:JFree pb cb c r M w):JFree pb cb (c+1) r M w :=
 {h with len:=by have:=h.len;omega,num:=λx=>by have:=h.num x;omega }
theorem JFree.inv(pb cb:Nat):InvS (JFree pb cb) where
 lt _ _ _ _ h:=h.all
 keep _ _ _ _ _ h hs hk:={ h with ptr:=h.ptr.same (hk _ h.low.1),map:=h.map.keep (hk _ h.low.2),all:=λg hg=>Nat.lt_of_lt_of_le (h.all g hg) hs }
 up _ _ _ _ h:=h.up
theorem JFree.put {pb cb c:Nat} {r:List (Nm × Int)} {M:Nat->Prop} {w w':World}(h:JFree pb cb c r M w)(x:Nm)(v:Int)(hv:v=cnt x r+1\/v=cnt x r-1)(hm:MapE mkCnt w' cb ((x,v)::r))(hg:w.grownBy w' (some cb)):Sta (JFree pb cb) M w (c+1) ((x,v)::r) w':=by
 refine⟨M,{ h with ptr:=h.ptr.grown hg (λe=>by injection e with e;exact h.ne e),map:=hm,len:=by have:=h.len;simp;omega,num:=λy=>?_,all:=λg hg2=>Nat.lt_of_lt_of_le (h.all g hg2) hg.size },λ_ h=>.inl h,(Chg.refl M w).grown hg (λe hh=>by injection hh with hh;exact .inr (hh▸h.low.2))⟩
 have h1:=h.num x
 have h2:=h.num y
 by_cases hy:x=y
 ·have e:cnt y ((x,v)::r)=v:=by unfold cnt;rw[look,if_pos hy];rfl
  rw[e]
  rcases hv with rfl|rfl <;> omega
 ·have e:cnt y ((x,v)::r)=cnt y r:=by unfold cnt;rw[look,if_neg hy]
  rw[e]
  omega
def yesF(what:Int)(x:Nm)(r:List (Nm × Int)):Bool:=what==0&&cnt x r==0
def trF(what:Int)(x:Nm)(r:List (Nm × Int)):List (Nm × Int):=if what=3 then(x,cnt x r+1)::r else if what=4 then(x,cnt x r-1)::r else r
set_option maxHeartbeats 3200000 in
theorem sc_Free1(pb cb B:Nat)(hB9:B<=100000000):VisN 67 #[.pointer (some ⟨pb,0,none⟩)] B (JFree pb cb) yesF trF:=by
 intro c s M what X w hj hX hB
 show Calls Tryz.prog 67 #[.int .i64 what,.string X,.pointer (some ⟨pb,0,none⟩)] w _
 have hlk:=cnt_look hj.map X hX
 obtain⟨z0,z1,z2⟩:=blk_facts1 hj.ptr
 have hn:=hj.num X.data.toList
 have HJ:=hidE hj
 have HM:=hidE hj.map
 have HX:=hidE (show X.size<=maxLen by unfold maxLen;omega)
 have HLEN:Hid (s.length<100000000000000):=hidE (by have:=hj.len;omega)
 obtain⟨q,hq⟩:∃q,cnt X.data.toList s=q:=⟨_,rfl⟩
 rw[hq]at hlk hn
 have hn1 : -100000000<=q:=by omega
 have hn2:q<=100000000:=by omega
 have HQ:=hidE hq
 clear hj hX hn hq hB hB9
 by_cases h3:what=3
 ·subst h3
  go_enter Tryz.func67,Tryz.ntmps67
  go_wp2_with (at_mapUpdate;refine wpList_put mkCnt _ rfl _ _ _ rfl cb s rfl HM.out HLEN.out X HX.out rfl (q+1) trivial rfl ?_;intro w2 hm2 hg2;have HM2:=hidE hm2;have HG2:=hidE hg2;clear hm2 hg2)
  go_ret
  refine⟨rfl,?_⟩
  have:=HJ.out.put X.data.toList (q+1) (.inl (by rw[HQ.out])) HM2.out HG2.out
  unfold trF
  rw[if_pos rfl,HQ.out]
  exact this
 ·by_cases h4:what=4
  ·subst h4
   go_enter Tryz.func67,Tryz.ntmps67
   go_wp2_with (at_mapUpdate;refine wpList_put mkCnt _ rfl _ _ _ rfl cb s rfl HM.out HLEN.out X HX.out rfl (q-1) trivial rfl ?_;intro w2 hm2 hg2;have HM2:=hidE hm2;have HG2:=hidE hg2;clear hm2 hg2)
   go_ret
   refine⟨rfl,?_⟩
   have:=HJ.out.put X.data.toList (q-1) (.inr (by rw[HQ.out])) HM2.out HG2.out
   unfold trF
   rw[if_neg (by decide),if_pos rfl,HQ.out]
   exact this
  ·have HT:Hid (Sta (JFree pb cb) M w (c+1) (trF what X.data.toList s) w):=hidE (by unfold trF;rw[if_neg h3,if_neg h4];exact Sta.init HJ.out.up)
   have d3:(what==3)=false:=by simpa using h3
   have d4:(what==4)=false:=by simpa using h4
   clear h3 h4
   by_cases h0:what=0
   ·subst h0
    go_enter Tryz.func67,Tryz.ntmps67
    go_wp2_with fail
    go_ret
    exact⟨by unfold yesF;rw[HQ.out];rfl,HT.out⟩
   ·have d0:(what==0)=false:=by simpa using h0
    go_enter Tryz.func67,Tryz.ntmps67
    go_wp2_with fail
    go_ret
    exact⟨by unfold yesF;rw[d0];rfl,HT.out⟩
end Go.Proofs.YtmbmjneibkihkaaGreatDoor

namespace Go.Proofs.YtmbmjneibkihkaaGreatDoor
open Go.RowKit Lx Tx Sx Go.Maps Go.WideMaps Go.Shelf
set_option maxRecDepth 100000
theorem addA_in {L:List Nm} {x:Nm}(h:x∈L):addA [] (L++[x])=addA [] L:=by
 rw[addA_append,addA_cons,addA_nil]
 exact if_pos (mem_addA.2 (.inr h))
theorem addA_out {L:List Nm} {x:Nm}(h:x∉L):addA [] (L++[x])=addA [] L++[x]:=by
 rw[addA_append,addA_cons,addA_nil]
 exact if_neg (λe=>by rcases mem_addA.1 e with e|e;cases e;exact h e)
structure NOf {τ:Type} (b:Nat) (fv:Value) (J:Nat->τ->(Nat->Prop)->World->Prop) (c:Nat) (s:τ) (L:List Nm) (M MJ:Nat->Prop) (w:World):Prop where
 fn:Blk w b 123 #[fv]
 met:Blk w (b+3) 128 #[.map (some (b+2))]
 set:MapE mkMet w (b+2) (units L)
 len:L.length<=c
 j:J c s MJ w
 jm:∀g,MJ g->M g/\(g<b\/b+4<=g)
 low:M b/\M (b+1)/\M (b+2)/\M (b+3)
 all:∀g,M g->g<w.heap.size
 row:∃A cp,Blk w (b+1) 56 #[.slice A (addA [] L).length cp]/\w.ownsRow (b+4) 9 1 (.slice A (addA [] L).length cp) (addA [] L).length ((addA [] L).map Sx.strV)/\∀a,A=some a->M a.block/\¬MJ a.block
def INo {τ:Type}(b:Nat)(fv:Value)(J:Nat->τ->(Nat->Prop)->World->Prop)(c:Nat)(st:τ × List Nm)(M:Nat->Prop)(w:World):Prop:=∃MJ,NOf b fv J c st.1 st.2 M MJ w
section
variable {τ:Type} {b:Nat} {fv:Value} {J:Nat->τ->(Nat->Prop)->World->Prop} {c:Nat} {s:τ} {L:List Nm} {M MJ:Nat->Prop} {w:World}
theorem NOf.keep(hJ:InvS J)(h:NOf b fv J c s L M MJ w) {w':World}(hs:w.heap.size<=w'.heap.size)(hk:∀g,M g->w'.heap[g]? = w.heap[g]?):NOf b fv J c s L M MJ w' where
 fn:=h.fn.same (hk _ h.low.1)
 met:=h.met.same (hk _ h.low.2.2.2)
 set:=h.set.keep (hk _ h.low.2.2.1)
 len:=h.len
 j:=hJ.keep _ _ _ _ _ h.j hs (λg hg=>hk g (h.jm g hg).1)
 jm:=h.jm
 low:=h.low
 all:=λg hg=>Nat.lt_of_lt_of_le (h.all g hg) hs
 row:=by
  obtain⟨A,cp,h1,h2,h3⟩:=h.row
  exact⟨A,cp,h1.same (hk _ h.low.2.1),own_keepb h2 (λa ha=>hk _ (h3 a ha).1),h3⟩
theorem INo.inv(hJ:InvS J):InvS (INo b fv J) where
 lt:=λ_ _ _ _ ⟨_,h⟩=>h.all
 keep:=λ_ _ _ _ _ ⟨MJ,h⟩ hs hk=>⟨MJ,h.keep hJ hs hk⟩
 up:=λ_ _ _ _ ⟨MJ,h⟩=>⟨MJ,{ h with len:=Nat.le_succ_of_le h.len,j:=hJ.up _ _ _ _ h.j }⟩
theorem NOf.ask(hJ:InvS J)(h:NOf b fv J c s L M MJ w) {c':Nat} {s':τ} {w1:World}(hs:Sta J MJ w c' s' w1)(hc:c<=c') :
  ∃M' MJ',NOf b fv J c' s' L M' MJ' w1/\(∀g,M' g->M g\/w.heap.size<=g)/\Chg M w w1:=by
 obtain⟨MJ',j1,hm,hch⟩:=hs
 have h3:=h.all _ h.low.2.2.2
 have hb:∀k,M k->¬MJ k->w1.heap[k]? = w.heap[k]?:=λk hk hn=>hch.block k (h.all k hk) hn
 have hn:∀k,b<=k->k<b+4->¬MJ k:=λk h1 h2 e=>by have:=(h.jm k e).2;omega
 refine⟨λg=>M g\/MJ' g,MJ',⟨h.fn.same (hb _ h.low.1 (hn _ (by omega) (by omega))),h.met.same (hb _ h.low.2.2.2 (hn _ (by omega) (by omega))),h.set.keep (hb _ h.low.2.2.1 (hn _ (by omega) (by omega))),Nat.le_trans h.len hc,j1,λg hg=>⟨.inr hg,?_⟩,⟨.inl h.low.1,.inl h.low.2.1,.inl h.low.2.2.1,.inl h.low.2.2.2⟩,λg hg=>?_,?_⟩,λg hg=>?_,hch.mono (λk _ hk=>(h.jm k hk).1)⟩
 ·rcases hm g hg with e|e
  ·exact(h.jm g e).2
  ·omega
 ·rcases hg with e|e
  ·exact Nat.lt_of_lt_of_le (h.all g e) hch.size
  ·exact hJ.lt _ _ _ _ j1 g e
 ·obtain⟨A,cp,k1,k2,k3⟩:=h.row
  refine⟨A,cp,k1.same (hb _ h.low.2.1 (hn _ (by omega) (by omega))),own_keepb k2 (λa ha=>hb _ (k3 a ha).1 (k3 a ha).2),λa ha=>⟨.inl (k3 a ha).1,λe=>?_⟩⟩
  rcases hm _ e with e|e
  ·exact(k3 a ha).2 e
  ·have:=h.all _ (k3 a ha).1;omega
 ·rcases hg with e|e
  ·exact .inl e
  ·rcases hm g e with e|e
   ·exact .inl (h.jm g e).1
   ·exact .inr e
theorem NOf.old(hJ:InvS J)(h:NOf b fv J c s L M MJ w) {x:Nm}(hx:x∈L) {w1:World}(hm:MapE mkMet w1 (b+2) (units (L++[x])))(hc:Chg (only (b+2)) w w1)(hl:L.length+1<=c):NOf b fv J c s (L++[x]) M MJ w1:=by
 have hk:∀k,M k->k≠b+2->w1.heap[k]? = w.heap[k]?:=λk hk hn=>hc.block k (h.all k hk) hn
 refine⟨h.fn.same (hk _ h.low.1 (by omega)),h.met.same (hk _ h.low.2.2.2 (by omega)),hm,by simpa using hl,hJ.keep _ _ _ _ _ h.j hc.size (λg hg=>hk g (h.jm g hg).1 (by have:=(h.jm g hg).2;omega)),h.jm,h.low,λg hg=>Nat.lt_of_lt_of_le (h.all g hg) hc.size,?_⟩
 rw[addA_in hx]
 obtain⟨A,cp,k1,k2,k3⟩:=h.row
 exact⟨A,cp,k1.same (hk _ h.low.2.1 (by omega)),own_keepb k2 (λa ha=>hk _ (k3 a ha).1 (by have:=(k2.lt a.block (by rw[ha];rfl)).1;omega)),k3⟩
theorem NOf.fresh(hJ:InvS J)(h:NOf b fv J c s L M MJ w) {X:ByteArray}(hx:X.data.toList∉L) {w1 W w5:World} {A:Option Addr} {cp g3 c3:Nat}(hm:MapE mkMet w1 (b+2) (units (L++[X.data.toList])))(hc:Chg (only (b+2)) w w1)(hl:L.length+1<=c)
  (hA:∀a,A=some a->M a.block/\¬MJ a.block)(hown:w.ownsRow (b+4) 9 1 (.slice A (addA [] L).length cp) (addA [] L).length ((addA [] L).map Sx.strV))
  (hW:∀k,k<w1.heap.size->W.heap[k]? = w1.heap[k]?)(hWs:W.heap.size=w1.heap.size+1)(hCW:Chg M w W)(ho3:w5.ownsRow (b+4) 9 1 (.slice (some ⟨g3,0,none⟩) ((addA [] L).length+1) c3) ((addA [] L).length+1) ((addA [] L).map Sx.strV++[.string X]))
  (hg3:W.grownBy w5 (Value.slice A (addA [] L).length cp).ownBlock)(hat:(Value.slice A (addA [] L).length cp).ownBlock=some g3\/g3=W.heap.size)(hb5:Blk w5 (b+1) 56 #[.slice A (addA [] L).length cp])(hlt:g3<w5.heap.size) :
  ∃M',NOf b fv J c s (L++[X.data.toList]) M' MJ (w5.setCell ⟨b+1,0,none⟩ (.slice (some ⟨g3,0,none⟩) ((addA [] L).length+1) c3))/\(∀g,M' g->M g\/w.heap.size<=g)/\Chg M w (w5.setCell ⟨b+1,0,none⟩ (.slice (some ⟨g3,0,none⟩) ((addA [] L).length+1) c3)):=by
 have hrow:∀k,some k=(Value.slice A (addA [] L).length cp).ownBlock->b+4<=k/\M k/\¬MJ k:=λk hk=>by
  refine⟨(hown.lt k hk.symm).1,?_⟩
  cases A with
  | none=>cases hk
  | some a=>injection hk with hk;rw[hk];exact hA a rfl
 have hg3b:b+4<=g3:=(ho3.lt g3 rfl).1
 have h3:=h.all _ h.low.2.2.2
 have hs1:=hc.size
 have hs5:=hg3.size
 obtain⟨V,hV⟩:∃V,(w5.setCell ⟨b+1,0,none⟩ (.slice (some ⟨g3,0,none⟩) ((addA [] L).length+1) c3))=V:=⟨_,rfl⟩
 have hVs:V.heap.size=w5.heap.size:=by rw[<-hV];simp
 have hf:∀k,M k->k≠b+1->(b+4<=k->MJ k)->V.heap[k]? = w1.heap[k]?:=λk hk hne hj=>by
  have hkl:=h.all k hk
  rw[<-hV]
  exact(Below.heap_setCell w5 ⟨b+1,0,none⟩ _ k hne).trans ((hg3.block k (by omega) (λe=>by have:=hrow k e;exact this.2.2 (hj this.1))).trans (hW k (by omega)))
 have hf1:∀k,M k->k≠b+1->k≠b+2->(b+4<=k->MJ k)->V.heap[k]? = w.heap[k]?:=λk hk hne hn2 hj=>(hf k hk hne hj).trans (hc.block k (h.all k hk) hn2)
 have hg3J:¬MJ g3:=λe=>by
  rcases hat with a|a
  ·exact(hrow g3 a.symm).2.2 e
  ·have:=h.all _ (h.jm _ e).1;omega
 rw[hV]
 refine⟨λg=>M g\/g=g3,⟨h.fn.same (hf1 _ h.low.1 (by omega) (by omega) (by omega)),h.met.same (hf1 _ h.low.2.2.2 (by omega) (by omega) (by omega)),hm.keep (hf _ h.low.2.2.1 (by omega) (by omega)),by simpa using hl,
  hJ.keep _ _ _ _ _ h.j (by omega) (λg hg=>hf1 g (h.jm g hg).1 (by have:=(h.jm g hg).2;omega) (by have:=(h.jm g hg).2;omega) (λ_=>hg)),λg hg=>⟨.inl (h.jm g hg).1,(h.jm g hg).2⟩,⟨.inl h.low.1,.inl h.low.2.1,.inl h.low.2.2.1,.inl h.low.2.2.2⟩,λg hg=>?_,some ⟨g3,0,none⟩,c3,?_,?_,λa ha=>by injection ha with ha;rw[<-ha];exact⟨.inr rfl,hg3J⟩⟩,λg hg=>?_,?_⟩
 ·rcases hg with hg|rfl
  ·have:=h.all g hg;omega
  ·omega
 ·rw[addA_out hx,List.length_append,List.length_singleton,<-hV]
  exact one_setCell (u:=.slice (some ⟨g3,0,none⟩) ((addA [] L).length+1) c3) hb5
 ·rw[addA_out hx,List.length_append,List.length_singleton,List.map_append,show[X.data.toList].map Sx.strV=[.string X] from rfl]
  exact own_keepb ho3 (λa ha=>by injection ha with ha;rw[<-ha,<-hV];exact Below.heap_setCell w5 ⟨b+1,0,none⟩ _ g3 (by show g3≠b+1;omega))
 ·rcases hg with hg|rfl
  ·exact .inl hg
  ·rcases hat with h|h
   ·exact .inl (hrow _ h.symm).2.1
   ·exact .inr (by omega)
 ·rw[<-hV]
  exact(hCW.grown hg3 (λk hk=>.inr (hrow k hk.symm).2.1)).setCell (p:=⟨b+1,0,none⟩) (.inr h.low.2.1) _
end
end Go.Proofs.YtmbmjneibkihkaaGreatDoor

namespace Go.Proofs.YtmbmjneibkihkaaGreatDoor
open Go.RowKit Lx Tx Sx Go.Maps Go.WideMaps Go.Shelf
set_option maxRecDepth 100000
def nstep {τ:Type}(yes:Int->Nm->τ->Bool)(tr:Int->Nm->τ->τ)(what:Int)(st:τ × List Nm)(x:Nm):τ × List Nm:=(tr what x st.1,if yes what x st.1=true then st.2++[x] else st.2)
def stN {τ:Type}(yes:Int->Nm->τ->Bool)(tr:Int->Nm->τ->τ)(ev:Ev)(st:τ × List Nm):τ × List Nm:=(evN ev).foldl (nstep yes tr (evW ev)) st
set_option maxHeartbeats 6400000 in
theorem sc_namesOf1 {τ:Type}(b kk:Nat)(kcaps:Array Value)(B:Nat)(J:Nat->τ->(Nat->Prop)->World->Prop)(yes:Int->Nm->τ->Bool)(tr:Int->Nm->τ->τ)(hJ:InvS J)(ek:∀args w,(callFunc kk args).run Tryz.prog w=.ok (.enter kk args) w)(HV:VisN kk kcaps B J yes tr)(hB9:B<=1000000) :
  VisE 118 #[.pointer (some ⟨b,0,none⟩),.pointer (some ⟨b+3,0,none⟩),.pointer (some ⟨b+1,0,none⟩)] B (INo b (.func (.func kk) #[] kcaps) J) (stN yes tr):=by
 intro c st M ev S V v w hi hx hS hxs hB
 unfold stN
 obtain⟨what,hwh⟩:∃y,evW ev=y:=⟨_,rfl⟩
 obtain⟨xs,hxe⟩:∃y,evN ev=y:=⟨_,rfl⟩
 rw[hwh]
 have hel:=evL_or ev
 obtain⟨el,hev⟩:∃y,evL ev=y:=⟨_,rfl⟩
 rw[hev]at hB hel ⊢
 rw[hxe]at hx hxs hel ⊢
 obtain⟨N,hN⟩:∃n,xs.length=n:=⟨_,rfl⟩
 rw[hN]at hel ⊢
 show Calls Tryz.prog 118 #[.int .i64 what,.slice V N v,.pointer (some ⟨b,0,none⟩),.pointer (some ⟨b+3,0,none⟩),.pointer (some ⟨b+1,0,none⟩)] w _
 have H0:=hidE (Sta.init hi)
 have HN:=hidE hN
 have HX:=hidE hx
 have HS:=hidE hS
 have HXS:=hidE hxs
 have HVV:=hidE HV
 have HJ:=hidE hJ
 have hN9:N<=1000000:=by omega
 obtain⟨i0,hi0,hz0,hz1,hz2⟩:=info_parts str_info
 have HIV:=hidE (INo.inv (b:=b) (fv:=.func (.func kk) #[] kcaps) hJ)
 clear hi hx hS hxs HV hN hxe hwh hJ hev
 go_enter Tryz.func118,Tryz.ntmps118
 go_wp2_with fail
 go_loopg [11] N (λgg vi wr=>∃i:Nat,gg=N-i/\vi=.int .i64 (i:Nat)/\i<=N/\Hid (Sta (INo b (.func (.func kk) #[] kcaps) J) M w (c+i) ((xs.take i).foldl (nstep yes tr what) st) wr))
 case atStart=>exact⟨0,rfl,rfl,by omega,H0⟩
 case round =>
  obtain⟨i,rfl,rfl,hi,hst⟩:=hrel
  clear H0
  by_cases hlt:i<N
  ·obtain⟨x,hx⟩:∃x,xs[i]? = some x:=⟨_,List.getElem?_eq_getElem (by rw[HN.out];exact hlt)⟩
   have hxm:=HXS.out x (List.mem_iff_getElem?.2 ⟨i,hx⟩)
   obtain⟨g,rfl,hSg,hlie⟩:=HX.out (λe=>by rw[e]at hx;simp at hx)
   obtain⟨X,hX⟩:∃X:ByteArray,⟨x.toArray⟩=X:=⟨_,rfl⟩
   have hXx:X.data.toList=x:=by rw[<-hX]
   have f0:wr.cell? ⟨g,i,none⟩=some (.string X):=by
    have h1:=hlie i (Sx.strV x) (by rw[List.getElem?_map,hx];rfl)
    rw[Nat.zero_add]at h1
    rw[<-hX]
    exact cell_keep h1 (hst.out.block g (HS.out g hSg).1 (HS.out g hSg).2)
   obtain⟨M1,⟨MJ,hn⟩,hm1,hch⟩:=hst.out
   obtain⟨⟨s,L⟩,hsl⟩:∃p,(xs.take i).foldl (nstep yes tr what) st=p:=⟨_,rfl⟩
   rw[hsl]at hn
   replace hn:NOf b (.func (.func kk) #[] kcaps) J (c+i) s L M1 MJ wr:=hn
   have hX24:X.size<=24:=by rw[<-hX];show x.toArray.size<=24;simpa using hxm
   have HEND:=hidE (λs' L' M3 MJ3 w3 (h:NOf b (.func (.func kk) #[] kcaps) J (c+(i+1)) s' L' M3 MJ3 w3) (h2:∀g,M3 g->M1 g\/wr.heap.size<=g) (h3:Chg M1 wr w3) (h4:(s',L')=nstep yes tr what (s,L) x)=>show Sta (INo b (.func (.func kk) #[] kcaps) J) M w (c+(i+1)) ((xs.take (i+1)).foldl (nstep yes tr what) st) w3 by
    rw[List.take_add_one,hx,List.foldl_append,hsl]
    refine⟨M3,⟨MJ3,?_⟩,λg hg=>?_,hch.trans' h3 (λj hj hm=>?_)⟩
    ·show NOf b (.func (.func kk) #[] kcaps) J (c+(i+1)) (nstep yes tr what (s,L) x).1 (nstep yes tr what (s,L) x).2 M3 MJ3 w3
     rw[<-h4]
     exact h
    ·rcases h2 g hg with e|e
     ·exact hm1 g e
     ·exact .inr (Nat.le_trans hch.size e)
    ·rcases hm1 j hm with e|e
     ·exact e
     ·omega)
   have HASK:=hidE (HVV.out (c+i) s MJ what X wr hn.j hX24 (by omega))
   have HNN:=hidE hn
   have hln:=hn.len
   obtain⟨z0,-,zl⟩:=blk_facts1 hn.fn
   have HXX:=hidE hXx
   have hgl:=lt_cell f0
   obtain⟨q,hq⟩:∃q,yes what X.data.toList s=q:=⟨_,rfl⟩
   rw[hq]at HASK
   have HQ:=hidE hq
   clear hx hxm hSg hlie hX hXx hm1 hch hsl hn hq hst
   go_wp2_with fail
   refine HASK.out.mono ?_
   rintro e w1 ⟨rfl,s1⟩
   obtain⟨M2,MJ2,hn2,hm2,hc2⟩:=HNN.out.ask HJ.out s1 (by omega)
   cases q with
   | false =>
    have HE:=hidE (HEND.out _ _ _ _ w1 hn2 hm2 hc2 (by unfold nstep;rw[<-HXX.out,HQ.out];rfl))
    clear HEND HASK s1 hn2 hm2 hc2 z0
    go_wp2_with fail
    go_roundg (N-(i+1))
    case measure=>omega
    case rel=>exact⟨i+1,rfl,by go_num,by omega,HE⟩
   | true =>
    obtain⟨m0,-,ml⟩:=blk_facts1 hn2.met
    have HAG:=hidE (sc_again (b+2) L X w1 hn2.set hX24 (by omega))
    have HN2:=hidE hn2
    have HM2:=hidE hm2
    have HC2:=hidE hc2
    have HCN:=hidE (λw2 (h:Chg (only (b+2)) w1 w2)=>hc2.trans' h (λj hj hm=>show M1 j by have e:j=b+2:=hm;rw[e];exact HNN.out.low.2.2.1))
    obtain⟨p,hp⟩:∃p,decide (X.data.toList∈L)=p:=⟨_,rfl⟩
    rw[hp]at HAG
    have HP:=hidE hp
    clear HASK s1 hn2 hm2 hc2 z0 hp
    go_wp2_with fail
    refine HAG.out.mono ?_
    rintro e w2 ⟨rfl,hm,hch⟩
    cases p with
    | true =>
     have hin:X.data.toList∈L:=of_decide_eq_true HP.out
     have HE:=hidE (HEND.out _ _ _ _ w2 (HN2.out.old HJ.out hin hm hch (by omega)) HM2.out (HCN.out w2 hch) (by unfold nstep;rw[<-HXX.out];simp only[HQ.out,if_true]))
     clear HEND HAG hm hch m0 hin
     go_wp2_with fail
     go_roundg (N-(i+1))
     case measure=>omega
     case rel=>exact⟨i+1,rfl,by go_num,by omega,HE⟩
    | false =>
     have hout:X.data.toList∉L:=of_decide_eq_false HP.out
     obtain⟨A,cp,k1,k2,k3⟩:=HN2.out.row
     have hw12:=hch.size
     have k1':Blk w2 (b+1) 56 #[.slice A (addA [] L).length cp]:=k1.same (hch.block _ (HN2.out.all _ HN2.out.low.2.1) (by unfold only;omega))
     have k2':w2.ownsRow (b+4) 9 1 (.slice A (addA [] L).length cp) (addA [] L).length ((addA [] L).map Sx.strV):=own_keepb k2 (λa ha=>hch.block _ (HN2.out.all _ (k3 a ha).1) (by have:=(k2.lt a.block (by rw[ha];rfl)).1;unfold only;omega))
     obtain⟨n,hnn⟩:∃n,(addA [] L).length=n:=⟨_,rfl⟩
     have hnb:n<=L.length:=by have:=addA_len (o:=[]) (l:=L);simp at this;omega
     have hb4:b+4<=w2.heap.size:=by have:=HN2.out.all _ HN2.out.low.2.2.2;omega
     rw[hnn]at k1' k2'
     obtain⟨r0,r1,r2⟩:=blk_facts1 k1'
     have K1:=hidE k1'
     have K2:=hidE k2'
     have HO3:=hidE (k2'.alloc (.cells #[.string X] 9))
     have HF:=hidE (λw5 g3 c3=>(HN2.out.fresh HJ.out hout (w1:=w2) (W:=w2.alloc (.cells #[.string X] 9)) (w5:=w5) (g3:=g3) (c3:=c3) hm hch (by omega) k3 k2 (λk hk=>Below.heap_alloc _ _ _ hk) (by simp) ((HCN.out w2 hch |> λ_=>(hch.mono (λj _ hj=>by have e:j=b+2:=hj;rw[e];exact HN2.out.low.2.2.1)).alloc _))))
     simp only[hnn]at HF
     have HNN2:=hidE hnn
     clear HAG hm hch m0 k1 k2 k3 k1' k2' hnn
     go_wp2_with (at_builtin;refine wpList_append_lies _ rfl (.tmp 25) (.tmp 27) 56 rfl (b+4) 9 i0 _ 1 16 Tryz.underlying56 hi0 hz0 hz1 hz2 rfl (by decide) _ n ((addA [] L).map Sx.strV) rfl HO3.out ⟨w2.heap.size,0,none⟩ 1 1 [.string X] rfl rfl (new_cells' _ _ _ _ rfl) (by intro u hu;simp at hu;subst hu;rfl) (by omega) (by unfold maxLen;omega) (by omega) (by simp;omega) _ rfl ?_;intro g3 c3 w5 hown3 hgrow hat hlt3;have hb5:Blk w5 (b+1) 56 #[.slice A n cp]:=(K1.out.alloc _).grown hgrow (λe=>by have:=(K2.out.lt (b+1) e.symm).1;omega);obtain⟨d0,d1,d2⟩:=blk_facts1 hb5;have HO5:=hidE hown3;have HG5:=hidE hgrow;have HAT:=hidE hat;have HB5:=hidE hb5;clear hown3 hgrow hat hb5)
     go_roundg (N-(i+1))
     case measure=>omega
     case rel =>
      refine⟨i+1,rfl,by go_num,by omega,hidE ?_⟩
      obtain⟨M3,e1,e2,e3⟩:=HF.out w5 g3 c3 HO5.out HG5.out HAT.out HB5.out hlt3
      refine HEND.out _ _ _ _ _ e1 (λg hg=>?_) (HC2.out.trans' e3 (λj hj hm=>?_)) (by unfold nstep;rw[<-HXX.out];simp only[HQ.out,if_true])
      ·rcases e2 g hg with e|e
       ·exact HM2.out g e
       ·exact .inr (Nat.le_trans HC2.out.size e)
      ·rcases HM2.out j hm with e|e
       ·exact e
       ·omega
  ·obtain rfl:i=N:=by omega
   go_wp2_with fail
   first|go_end0|refine bodyPost_ret (results_none rfl _ _ _) rfl ?_
   refine⟨rfl,?_⟩
   have:=hst.out
   rw[show xs.take i=xs from List.take_of_length_le (by rw[HN.out];exact Nat.le_refl _)]at this
   rcases hel with rfl|rfl
   ·exact this
   ·exact this.up HIV.out
end Go.Proofs.YtmbmjneibkihkaaGreatDoor

namespace Go.Proofs.YtmbmjneibkihkaaGreatDoor
open Go.RowKit Lx Tx Sx Go.Maps Go.WideMaps Go.Shelf
set_option maxRecDepth 100000
def keptL {τ:Type}(yes:Int->Nm->τ->Bool)(tr:Int->Nm->τ->τ)(s0:τ)(e:Ex):List Nm:=(runS (stN yes tr) (evs e) (s0,[])).2
def NmsPost(M0:Nat->Prop)(w:World)(L:List Nm)(e:Ending)(w':World):Prop :=
 ∃A n cp,e=.returned (.slice A n cp)/\n=(addA [] L).length/\w'.ownsRow (w.heap.size+1+4) 9 1 (.slice A n cp) n ((addA [] L).map Sx.strV)/\Chg M0 w w'
set_option maxHeartbeats 6400000 in
theorem sc_namesOf {τ:Type}(kk:Nat)(kcaps:Array Value)(B:Nat)(J:Nat->τ->(Nat->Prop)->World->Prop)(yes:Int->Nm->τ->Bool)(tr:Int->Nm->τ->τ)(hJ:InvS J)(ek:∀args w,(callFunc kk args).run Tryz.prog w=.ok (.enter kk args) w)(HV:VisN kk kcaps B J yes tr)(hB9:B<=1000000)
  (e:Ex)(s0:τ)(M0 S:Nat->Prop)(v:Value)(w:World)(hj:J 0 s0 M0 w)(hv:RdX S w e v)(hS:∀g,S g->g<w.heap.size/\¬M0 g)(hok:e.Ok)(hsz:e.size<=90001)(hB:cost (evs e)<=B) :
  Calls Tryz.prog 66 #[v,.func (.func kk) #[] kcaps] w (NmsPost M0 w (keptL yes tr s0 e)):=by
 have hM0:=hJ.lt _ _ _ _ hj
 have e1:∀args w,(callFunc 118 args).run Tryz.prog w=.ok (.enter 118 args) w:=enters_of Tryz.func118 (by kernel_rfl) rfl
 have hmm:∀w,(Instr.makeMap 128 none).run Tryz.prog w=.ok (.map (some w.heap.size)) (w.alloc (.map #[] 0)):=λ_=>rfl
 obtain⟨K,X,Z,A0,m,q,KA,kc,LA,lc,rfl,hin⟩:=hv.shape
 obtain⟨E,hE⟩:∃E:Obj,(.cells #[.int .i64 (kdE e:Nat),.string ⟨(nmE e).toArray⟩,.bool (toE e),.int .i64 K,.string X,.int .i64 Z,.slice A0 m q,.slice KA (kidsE e).length kc,.slice LA (altsE e).length lc] 39)=E:=⟨_,rfl⟩
 obtain⟨w1,h1⟩:∃x,w.alloc E=x:=⟨_,rfl⟩
 have z1:w1.heap.size=w.heap.size+1:=by rw[<-h1];simp
 have c1:Below w.heap.size w w1:=h1▸(Below.refl _ w).alloc (Nat.le_refl _) _
 have b1:Blk w1 w.heap.size 39 #[.int .i64 (kdE e:Nat),.string ⟨(nmE e).toArray⟩,.bool (toE e),.int .i64 K,.string X,.int .i64 Z,.slice A0 m q,.slice KA (kidsE e).length kc,.slice LA (altsE e).length lc]:=h1▸hE▸heap_alloc_new w _
 obtain⟨w2,h2⟩:∃x,w1.alloc (.cells #[.func (.func kk) #[] kcaps] 123)=x:=⟨_,rfl⟩
 have z2:w2.heap.size=w.heap.size+1+1:=by rw[<-h2];simp[z1]
 have c2:Below w.heap.size w w2:=h2▸c1.alloc (by omega) _
 have b2:Blk w2 (w.heap.size+1) 123 #[.func (.func kk) #[] kcaps]:=z1▸h2▸heap_alloc_new w1 _
 obtain⟨w3,h3⟩:∃x,w2.alloc (.cells #[.slice none 0 0] 56)=x:=⟨_,rfl⟩
 have z3:w3.heap.size=w.heap.size+1+2:=by rw[<-h3];simp[z2]
 have c3:Below w.heap.size w w3:=h3▸c2.alloc (by omega) _
 have b3:Blk w3 (w.heap.size+1+1) 56 #[.slice none 0 0]:=z2▸h3▸heap_alloc_new w2 _
 obtain⟨w4,h4⟩:∃x,w3.alloc (.map #[] 0)=x:=⟨_,rfl⟩
 have z4:w4.heap.size=w.heap.size+1+3:=by rw[<-h4];simp[z3]
 have c4:Below w.heap.size w w4:=h4▸c3.alloc (by omega) _
 have m4:MapE mkMet w4 (w.heap.size+1+2) (units []):=z3▸h4▸MapE.made mkMet w3
 obtain⟨W,h5⟩:∃x,w4.alloc (.cells #[.map (some (w.heap.size+1+1+1))] 128)=x:=⟨_,rfl⟩
 have z5:W.heap.size=w.heap.size+1+4:=by rw[<-h5];simp[z4]
 have c5:Below w.heap.size w W:=h5▸c4.alloc (by omega) _
 have b5:Blk W (w.heap.size+1+3) 128 #[.map (some (w.heap.size+1+2))]:=z4▸h5▸heap_alloc_new w4 _
 have bW:Blk W w.heap.size 39 #[.int .i64 (kdE e:Nat),.string ⟨(nmE e).toArray⟩,.bool (toE e),.int .i64 K,.string X,.int .i64 Z,.slice A0 m q,.slice KA (kidsE e).length kc,.slice LA (altsE e).length lc]:=h5▸(h4▸(h3▸(h2▸b1.alloc _:Blk w2 _ _ _).alloc _:Blk w3 _ _ _).alloc _:Blk w4 _ _ _).alloc _
 obtain⟨⟨g0,g1,g2,g3,g4,g5,g6,g7,g8⟩,-,-⟩:=blk_facts9 bW
 have hn:NOf (w.heap.size+1) (.func (.func kk) #[] kcaps) J 0 s0 [] (λg=>M0 g\/(w.heap.size+1<=g/\g<w.heap.size+1+4)) M0 W:=by
  refine⟨h5▸(h4▸(h3▸b2.alloc _:Blk w3 _ _ _).alloc _:Blk w4 _ _ _).alloc _,b5,m4.keep (h5▸Below.heap_alloc _ _ _ (by omega)),Nat.le_refl _,hJ.keep _ _ _ _ W hj c5.size (λg hg=>c5.block g (hM0 g hg)),λg hg=>⟨.inl hg,.inl (by have:=hM0 g hg;omega)⟩,⟨.inr ⟨by omega,by omega⟩,.inr ⟨by omega,by omega⟩,.inr ⟨by omega,by omega⟩,.inr ⟨by omega,by omega⟩⟩,λg hg=>?_,none,0,h5▸(h4▸b3.alloc _:Blk w4 _ _ _).alloc _,World.ownsRow_nil _ _ _ _,λa ha=>by cases ha⟩
  rcases hg with h|h
  ·have:=hM0 g h;omega
  ·omega
 have HW:=hidE (sc_walkOK 118 #[.pointer (some ⟨w.heap.size+1,0,none⟩),.pointer (some ⟨w.heap.size+1+3,0,none⟩),.pointer (some ⟨w.heap.size+1+1,0,none⟩)] B (INo (w.heap.size+1) (.func (.func kk) #[] kcaps) J) (stN yes tr) (INo.inv hJ).toB e1 (sc_namesOf1 (w.heap.size+1) kk kcaps B J yes tr hJ ek HV hB9) 90001 (Nat.le_refl _) 0 (s0,[]) _ e S _ W hsz ⟨M0,hn⟩
   (hv.keep (λ_ h=>h) (λg hg=>c5.block g (hS g hg).1)) (λg hg=>⟨by have:=(hS g hg).1;omega,λh=>by
    rcases h with h|h
    ·exact(hS g hg).2 h
    ·have:=(hS g hg).1;omega⟩) hok (by omega))
 have HC:=hidE c5
 clear hv hin hS hok hsz hB HV hJ hj hM0 ek e1 hn b1 bW b2 b3 m4 b5 c1 c2 c3 c4 c5
 go_enter Tryz.func66,Tryz.ntmps66
 go_wp2_with fail
 refine HW.out.mono ?_
 rintro e' w' ⟨rfl,M',⟨MJ',hn⟩,hm,hch⟩
 obtain⟨A,cp,k1,k2,-⟩:=hn.row
 obtain⟨r0,r1,r2⟩:=blk_facts1 k1
 have HR:Hid (NmsPost M0 w (keptL yes tr s0 e) (.returned (.slice A (addA [] (runS (stN yes tr) (evs e) (s0,[])).2).length cp)) w'):=hidE ⟨A,_,cp,rfl,rfl,k2,(Chg.of_below HC.out).trans' hch (λi hi hm=>by
  rcases hm with h|h
  ·exact h
  ·omega)⟩
 obtain⟨n,hnn⟩:∃n,(addA [] (runS (stN yes tr) (evs e) (s0,[])).2).length=n:=⟨_,rfl⟩
 rw[hnn]at r0 HR
 clear hn hm hch k1 k2 HW
 go_wp2_with fail
 go_ret
 exact HR.out
end Go.Proofs.YtmbmjneibkihkaaGreatDoor

namespace Go.Proofs.YtmbmjneibkihkaaGreatDoor
open Go.RowKit Lx Tx Sx Go.Maps Go.WideMaps Go.Shelf
set_option maxRecDepth 100000
theorem nstep_kind(p:Int->Bool)(what:Int)(xs o:List Nm):xs.foldl (nstep (λk _ _=>p k) (λ_ _ _=>()) what) ((),o)=((),if p what=true then o++xs else o):=by
 induction xs generalizing o with
 | nil=>cases p what <;> simp
 | cons x r ih =>
  rw[List.foldl_cons]
  show r.foldl _ ((),if p what=true then o++[x] else o)=_
  rw[ih]
  cases p what <;> simp
theorem runS_kind(p:Int->Bool)(f:Ev->List Nm)(hf:∀ev,(if p (evW ev)=true then evN ev else[])=f ev)(l:List Ev)(o:List Nm):runS (stN (λk _ _=>p k) (λ_ _ _=>())) l ((),o)=((),o++l.flatMap f):=by
 induction l generalizing o with
 | nil=>simp[runS]
 | cons ev r ih =>
  rw[runS_cons]
  unfold stN
  rw[nstep_kind,show(if p (evW ev)=true then o++evN ev else o)=o++f ev by rw[<-hf];cases p (evW ev) <;> simp]
  have:=ih (o++f ev)
  unfold stN at this
  rw[this,List.flatMap_cons,List.append_assoc]
theorem kept_cons(e:Ex):keptL (λk _ _=>k==1) (λ_ _ _=>()) () e=cns e:=by
 unfold keptL
 rw[runS_kind (λk=>k==1) cnOf (λev=>by cases ev <;> rfl),List.nil_append,cns_evs]
theorem kept_bound(e:Ex):keptL (λk _ _=>k==2) (λ_ _ _=>()) () e=bis e:=by
 unfold keptL
 rw[runS_kind (λk=>k==2) biOf (λev=>by cases ev <;> rfl),List.nil_append,bis_evs]
theorem cnt_cons(x y:Nm)(v:Int)(r:List (Nm × Int)):cnt y ((x,v)::r)=if x=y then v else cnt y r:=by
 unfold cnt
 rw[look]
 by_cases h:x=y
 ·rw[if_pos h,if_pos h];rfl
 ·rw[if_neg h,if_neg h]
theorem nstep_count(what d:Int)(hw:(what=3/\d=1)\/(what=4/\d = -1))(xs:List Nm):∀(r:List (Nm × Int))(o:List Nm),∃r',xs.foldl (nstep yesF trF what) (r,o)=(r',o)/\(λy=>cnt y r')=bump (λy=>cnt y r) d xs:=by
 induction xs with
 | nil=>exact λr o=>⟨r,rfl,(bump_nil _ _).symm⟩
 | cons x l ih =>
  intro r o
  have hy:yesF what x r=false:=by unfold yesF;rcases hw with⟨rfl,_⟩|⟨rfl,_⟩ <;> rfl
  have ht:trF what x r=(x,cnt x r+d)::r:=by
   unfold trF
   rcases hw with⟨rfl,rfl⟩|⟨rfl,rfl⟩
   ·rw[if_pos rfl]
   ·rw[if_neg (by decide),if_pos rfl];rfl
  obtain⟨r',h1,h2⟩:=ih ((x,cnt x r+d)::r) o
  refine⟨r',?_,?_⟩
  ·rw[List.foldl_cons,<-h1]
   unfold nstep
   simp only[hy,ht]
   rfl
  ·rw[h2]
   funext y
   unfold bump
   simp only[cnt_cons,List.count_cons]
   by_cases h:x=y
   ·subst h;simp;rw[Int.mul_add];omega
   ·rw[if_neg h];simp[h]
theorem nstep_other(what:Int)(h3:what≠3)(h4:what≠4)(h0:what≠0)(xs:List Nm):∀(r:List (Nm × Int))(o:List Nm),xs.foldl (nstep yesF trF what) (r,o)=(r,o):=by
 induction xs with
 | nil=>exact λ_ _=>rfl
 | cons x l ih =>
  intro r o
  have hy:yesF what x r=false:=by unfold yesF;rw[show(what==0)=false by simpa using h0];rfl
  have ht:trF what x r=r:=by unfold trF;rw[if_neg h3,if_neg h4]
  rw[List.foldl_cons,show nstep yesF trF what (r,o) x=(r,o) by unfold nstep;simp only[hy,ht];rfl]
  exact ih r o
theorem run_free(l:List Ev):∀(r:List (Nm × Int))(o:List Nm),(runS (stN yesF trF) l (r,o)).2=o++runF (λy=>cnt y r) l:=by
 induction l with
 | nil=>intro r o;simp[runS,runF]
 | cons ev t ih =>
  intro r o
  rw[runS_cons,runF]
  cases ev with
  | use x =>
   have:stN yesF trF (.use x) (r,o)=(r,o++tellF (λy=>cnt y r) (.use x)):=by
    show nstep yesF trF 0 (r,o) x=_
    unfold nstep yesF trF tellF
    rw[if_neg (by decide),if_neg (by decide)]
    by_cases h:cnt x r=0
    ·simp[h]
    ·simp[h]
   rw[this,ih,List.append_assoc]
   rfl
  | cn x =>
   rw[show stN yesF trF (.cn x) (r,o)=(r,o) from nstep_other 1 (by decide) (by decide) (by decide) [x] r o,ih]
   rfl
  | bi xs =>
   rw[show stN yesF trF (.bi xs) (r,o)=(r,o) from nstep_other 2 (by decide) (by decide) (by decide) xs r o,ih]
   rfl
  | beg xs =>
   obtain⟨r',h1,h2⟩:=nstep_count 3 1 (.inl ⟨rfl,rfl⟩) xs r o
   rw[show stN yesF trF (.beg xs) (r,o)=(r',o) from h1,ih,h2]
   rfl
  | fin xs =>
   obtain⟨r',h1,h2⟩:=nstep_count 4 (-1) (.inr ⟨rfl,rfl⟩) xs r o
   rw[show stN yesF trF (.fin xs) (r,o)=(r',o) from h1,ih,h2]
   rfl
theorem kept_free(e:Ex):keptL yesF trF [] e=fr e:=by
 unfold keptL
 rw[run_free,List.nil_append]
 exact runF_free e
end Go.Proofs.YtmbmjneibkihkaaGreatDoor

namespace Go.Proofs.YtmbmjneibkihkaaGreatDoor
open Go.RowKit Lx Tx Sx Go.Maps Go.WideMaps Go.Shelf
set_option maxRecDepth 100000
def LPostN(w:World)(L:List Nm)(e:Ending)(w':World):Prop :=
 ∃A n cp,e=.returned (.slice A n cp)/\n=L.length/\w'.ownsRow w.heap.size 9 1 (.slice A n cp) n (L.map Sx.strV)/\Below w.heap.size w w'
theorem Value.ownsLow {w:World} {B B':Nat} {e:TypeId} {size n:Nat} {v:Value} {xs:List Value}(h:w.ownsRow B e size v n xs)(hB:B'<=B):w.ownsRow B' e size v n xs:=by
 obtain⟨h0,h⟩:=h
 refine⟨h0,?_⟩
 rcases h with h|⟨g,cap,cur,hv,hg,h⟩
 ·exact .inl h
 ·exact .inr ⟨g,cap,cur,hv,by omega,h⟩
set_option maxHeartbeats 3200000 in
theorem sc_Cons(e:Ex)(S:Nat->Prop)(v:Value)(w:World)(hv:RdX S w e v)(hS:∀g,S g->g<w.heap.size)(hok:e.Ok)(hsz:e.size<=90001)(hB:cost (evs e)<=1000000) :
  Calls Tryz.prog 28 #[v] w (LPostN w (consE e)):=by
 obtain⟨K,X,Z,A0,m,q,KA,kc,LA,lc,rfl,hin⟩:=hv.shape
 have ek:∀args w,(callFunc 69 args).run Tryz.prog w=.ok (.enter 69 args) w:=enters_of Tryz.func69 (by kernel_rfl) rfl
 have HC:=hidE (sc_namesOf 69 #[] 1000000 JNone (λwhat _ _=>what==1) (λ_ _ _=>()) JNone.inv ek (sc_Cons1 1000000) (Nat.le_refl _) e () (λ_=>False) S _ (w.alloc (.cells #[.int .i64 (kdE e:Nat),.string ⟨(nmE e).toArray⟩,.bool (toE e),.int .i64 K,.string X,.int .i64 Z,.slice A0 m q,.slice KA (kidsE e).length kc,.slice LA (altsE e).length lc] 39)) (λ_ h=>h) (hv.keep (λ_ h=>h) (λg hg=>Below.heap_alloc _ _ _ (hS g hg))) (λg hg=>⟨by have:=hS g hg;simp;omega,λh=>h⟩) hok hsz hB)
 rw[kept_cons]at HC
 have HP:=hidE (λA n cp w' (hn:n=(addA [] (cns e)).length) (hr:w'.ownsRow ((w.alloc (.cells #[.int .i64 (kdE e:Nat),.string ⟨(nmE e).toArray⟩,.bool (toE e),.int .i64 K,.string X,.int .i64 Z,.slice A0 m q,.slice KA (kidsE e).length kc,.slice LA (altsE e).length lc] 39)).heap.size+1+4) 9 1 (.slice A n cp) n ((addA [] (cns e)).map Sx.strV)) (hc:Chg (λ_=>False) (w.alloc (.cells #[.int .i64 (kdE e:Nat),.string ⟨(nmE e).toArray⟩,.bool (toE e),.int .i64 K,.string X,.int .i64 Z,.slice A0 m q,.slice KA (kidsE e).length kc,.slice LA (altsE e).length lc] 39)) w')=>show LPostN w (consE e) (.returned (.slice A n cp)) w' from
  ⟨A,n,cp,rfl,hn,Value.ownsLow hr (by simp;omega),((Below.refl _ w).alloc (Nat.le_refl _) _).trans ⟨hc.os,hc.tape,hc.output,hc.size,λj hj=>hc.block j (by simp;omega) (λh=>h)⟩⟩)
 clear hv hin hS hok hsz hB ek
 go_enter Tryz.func28,Tryz.ntmps28
 go_wp2_with fail
 refine HC.out.mono ?_
 rintro e' w' ⟨A,n,cp,rfl,hn,hr,hc⟩
 have HR:Hid (LPostN w (consE e) (.returned (.slice A n cp)) w'):=hidE (HP.out A n cp w' hn hr hc)
 clear hn hr hc HC HP
 go_wp2_with fail
 go_ret
 exact HR.out
set_option maxHeartbeats 3200000 in
theorem sc_Bound(e:Ex)(S:Nat->Prop)(v:Value)(w:World)(hv:RdX S w e v)(hS:∀g,S g->g<w.heap.size)(hok:e.Ok)(hsz:e.size<=90001)(hB:cost (evs e)<=1000000) :
  Calls Tryz.prog 30 #[v] w (LPostN w (boundE e)):=by
 obtain⟨K,X,Z,A0,m,q,KA,kc,LA,lc,rfl,hin⟩:=hv.shape
 have ek:∀args w,(callFunc 71 args).run Tryz.prog w=.ok (.enter 71 args) w:=enters_of Tryz.func71 (by kernel_rfl) rfl
 have HC:=hidE (sc_namesOf 71 #[] 1000000 JNone (λwhat _ _=>what==2) (λ_ _ _=>()) JNone.inv ek (sc_Bound1 1000000) (Nat.le_refl _) e () (λ_=>False) S _ (w.alloc (.cells #[.int .i64 (kdE e:Nat),.string ⟨(nmE e).toArray⟩,.bool (toE e),.int .i64 K,.string X,.int .i64 Z,.slice A0 m q,.slice KA (kidsE e).length kc,.slice LA (altsE e).length lc] 39)) (λ_ h=>h) (hv.keep (λ_ h=>h) (λg hg=>Below.heap_alloc _ _ _ (hS g hg))) (λg hg=>⟨by have:=hS g hg;simp;omega,λh=>h⟩) hok hsz hB)
 rw[kept_bound]at HC
 have HP:=hidE (λA n cp w' (hn:n=(addA [] (bis e)).length) (hr:w'.ownsRow ((w.alloc (.cells #[.int .i64 (kdE e:Nat),.string ⟨(nmE e).toArray⟩,.bool (toE e),.int .i64 K,.string X,.int .i64 Z,.slice A0 m q,.slice KA (kidsE e).length kc,.slice LA (altsE e).length lc] 39)).heap.size+1+4) 9 1 (.slice A n cp) n ((addA [] (bis e)).map Sx.strV)) (hc:Chg (λ_=>False) (w.alloc (.cells #[.int .i64 (kdE e:Nat),.string ⟨(nmE e).toArray⟩,.bool (toE e),.int .i64 K,.string X,.int .i64 Z,.slice A0 m q,.slice KA (kidsE e).length kc,.slice LA (altsE e).length lc] 39)) w')=>show LPostN w (boundE e) (.returned (.slice A n cp)) w' from
  ⟨A,n,cp,rfl,hn,Value.ownsLow hr (by simp;omega),((Below.refl _ w).alloc (Nat.le_refl _) _).trans ⟨hc.os,hc.tape,hc.output,hc.size,λj hj=>hc.block j (by simp;omega) (λh=>h)⟩⟩)
 clear hv hin hS hok hsz hB ek
 go_enter Tryz.func30,Tryz.ntmps30
 go_wp2_with fail
 refine HC.out.mono ?_
 rintro e' w' ⟨A,n,cp,rfl,hn,hr,hc⟩
 have HR:Hid (LPostN w (boundE e) (.returned (.slice A n cp)) w'):=hidE (HP.out A n cp w' hn hr hc)
 clear hn hr hc HC HP
 go_wp2_with fail
 go_ret
 exact HR.out
set_option maxHeartbeats 3200000 in
theorem sc_Free(e:Ex)(S:Nat->Prop)(v:Value)(w:World)(hv:RdX S w e v)(hS:∀g,S g->g<w.heap.size)(hok:e.Ok)(hsz:e.size<=90001)(hB:cost (evs e)<=1000000) :
  Calls Tryz.prog 26 #[v] w (LPostN w (freeE e)):=by
 obtain⟨K,X,Z,A0,m,q,KA,kc,LA,lc,rfl,hin⟩:=hv.shape
 have ek:∀args w,(callFunc 67 args).run Tryz.prog w=.ok (.enter 67 args) w:=enters_of Tryz.func67 (by kernel_rfl) rfl
 have hmm:∀w,(Instr.makeMap 117 none).run Tryz.prog w=.ok (.map (some w.heap.size)) (w.alloc (.map #[] 0)):=λ_=>rfl
 obtain⟨w1,h1⟩:∃x,w.alloc (.cells #[.int .i64 (kdE e:Nat),.string ⟨(nmE e).toArray⟩,.bool (toE e),.int .i64 K,.string X,.int .i64 Z,.slice A0 m q,.slice KA (kidsE e).length kc,.slice LA (altsE e).length lc] 39)=x:=⟨_,rfl⟩
 have z1:w1.heap.size=w.heap.size+1:=by rw[<-h1];simp
 have c1:Below w.heap.size w w1:=h1▸(Below.refl _ w).alloc (Nat.le_refl _) _
 have b1:Blk w1 w.heap.size 39 #[.int .i64 (kdE e:Nat),.string ⟨(nmE e).toArray⟩,.bool (toE e),.int .i64 K,.string X,.int .i64 Z,.slice A0 m q,.slice KA (kidsE e).length kc,.slice LA (altsE e).length lc]:=h1▸heap_alloc_new w _
 obtain⟨w2,h2⟩:∃x,w1.alloc (.map #[] 0)=x:=⟨_,rfl⟩
 have z2:w2.heap.size=w.heap.size+1+1:=by rw[<-h2];simp[z1]
 have c2:Below w.heap.size w w2:=h2▸c1.alloc (by omega) _
 have m2:MapE mkCnt w2 (w.heap.size+1) []:=z1▸h2▸MapE.made mkCnt w1
 obtain⟨W,h3⟩:∃x,w2.alloc (.cells #[.map (some (w.heap.size+1))] 117)=x:=⟨_,rfl⟩
 have z3:W.heap.size=w.heap.size+1+2:=by rw[<-h3];simp[z2]
 have c3:Below w.heap.size w W:=h3▸c2.alloc (by omega) _
 have b3:Blk W (w.heap.size+1+1) 117 #[.map (some (w.heap.size+1))]:=z2▸h3▸heap_alloc_new w2 _
 have bW:Blk W w.heap.size 39 #[.int .i64 (kdE e:Nat),.string ⟨(nmE e).toArray⟩,.bool (toE e),.int .i64 K,.string X,.int .i64 Z,.slice A0 m q,.slice KA (kidsE e).length kc,.slice LA (altsE e).length lc]:=h3▸(h2▸b1.alloc _:Blk w2 _ _ _).alloc _
 obtain⟨⟨g0,g1,g2,g3,g4,g5,g6,g7,g8⟩,-,-⟩:=blk_facts9 bW
 have hj:JFree (w.heap.size+1+1) (w.heap.size+1) 0 [] (λg=>g=w.heap.size+1+1\/g=w.heap.size+1) W :=
  ⟨b3,m2.keep (h3▸Below.heap_alloc _ _ _ (by omega)),Nat.le_refl _,λx=>⟨Int.le_refl _,Int.le_refl _⟩,⟨.inl rfl,.inr rfl⟩,by omega,λg hg=>by rcases hg with h|h <;> omega⟩
 have HC:=hidE (sc_namesOf 67 #[.pointer (some ⟨w.heap.size+1+1,0,none⟩)] 1000000 (JFree (w.heap.size+1+1) (w.heap.size+1)) yesF trF (JFree.inv _ _) ek (sc_Free1 _ _ 1000000 (by decide)) (Nat.le_refl _) e [] _ S _ W hj (hv.keep (λ_ h=>h) (λg hg=>c3.block g (hS g hg))) (λg hg=>⟨by have:=hS g hg;omega,λh=>by have:=hS g hg;rcases h with h|h <;> omega⟩) hok hsz hB)
 rw[kept_free]at HC
 have HP:=hidE (λA n cp w' (hn:n=(addA [] (fr e)).length) (hr:w'.ownsRow (W.heap.size+1+4) 9 1 (.slice A n cp) n ((addA [] (fr e)).map Sx.strV)) (hc:Chg (λg=>g=w.heap.size+1+1\/g=w.heap.size+1) W w')=>show LPostN w (freeE e) (.returned (.slice A n cp)) w' from
  ⟨A,n,cp,rfl,hn,Value.ownsLow hr (by omega),c3.trans ⟨hc.os,hc.tape,hc.output,by have:=hc.size;omega,λj hj=>hc.block j (by omega) (λh=>by rcases h with h|h <;> omega)⟩⟩)
 clear hv hin hS hok hsz hB ek hj b1 bW b3 m2 c1 c2 c3
 go_enter Tryz.func26,Tryz.ntmps26
 go_wp2_with fail
 refine HC.out.mono ?_
 rintro e' w' ⟨A,n,cp,rfl,hn,hr,hc⟩
 have HR:Hid (LPostN w (freeE e) (.returned (.slice A n cp)) w'):=hidE (HP.out A n cp w' hn hr hc)
 clear hn hr hc HC HP
 go_wp2_with fail
 go_ret
 exact HR.out
end Go.Proofs.YtmbmjneibkihkaaGreatDoor
