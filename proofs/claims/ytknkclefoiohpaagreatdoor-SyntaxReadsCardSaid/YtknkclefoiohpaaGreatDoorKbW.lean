/-
  Contracts of the code's functions, part 23.
-/
import Derived.Test.YtknkclefoiohpaaGreatDoorKbT
import Derived.Laws.Tables
import Derived.Laws.CopyRow
namespace Go.Proofs.YtknkclefoiohpaaGreatDoor
open Go.RowKit Lx Tx Sx
set_option maxRecDepth 100000
theorem one17(k0:Int)(s:ByteArray)(V:Option Addr)(vm vq:Nat)(G:Option Addr)(gm gq:Nat)(K0:Int)(X0:ByteArray)(Z0:Int)(B0:Option Addr)(m0 q0:Nat)(k:Int)(x:ByteArray)(t:Bool)(K:Int)(X:ByteArray)(Z:Int)(B:Option Addr)(m q:Nat)(KA:Option Addr)(kn kc:Nat)(LA:Option Addr)(ln lc:Nat) :
  (#[.int .i64 k0,.string s,.slice V vm vq,.slice G gm gq,.int .i64 K0,.string X0,.int .i64 Z0,.slice B0 m0 q0,.int .i64 k,.string x,.bool t,.int .i64 K,.string X,.int .i64 Z,.slice B m q,.slice KA kn kc,.slice LA ln lc]:Array Value).all (·.oneCell')=true:=by
 simp[Value.oneCell']
theorem many_fuel {α:Type} {p:List Tok->Option (α × List Tok)}(hp:∀(l:List Tok)(x:α)(r:List Tok),AllG l->p l=some (x,r)->AllG r/\r.length<l.length)(f:Nat) :
  ∀(g:Nat) (l:List Tok),AllG l->l.length<f->l.length<g->manyF semB List.tail (λ_=>p) f l=manyF semB List.tail (λ_=>p) g l:=by
 induction f with
 | zero=>intro g l _ h;omega
 | succ f ih =>
  intro g l hG hf hg
  obtain⟨g,rfl⟩:∃k,g=k+1:=⟨g-1,by omega⟩
  by_cases h:semB l=true
  ·obtain⟨t0,r,e,-,-⟩:=isHd_ne l 6 [59] (by decide) h
   cases ho:p l.tail with
   | none=>rw[many_no (rd:=λ_=>p) f l h ho,many_no (rd:=λ_=>p) g l h ho]
   | some y =>
    obtain⟨x,r1⟩:=y
    rw[many_yes (rd:=λ_=>p) f l h x r1 ho,many_yes (rd:=λ_=>p) g l h x r1 ho]
    subst e
    obtain⟨g1,l1⟩:=hp _ x r1 (AllG.tail' hG) ho
    simp only[List.tail_cons]at l1
    simp only[List.length_cons]at hf hg
    rw[ih g r1 g1 (by omega) (by omega)]
  ·rw[many_end f l (by simpa using h),many_end g l (by simpa using h)]
theorem sepM_fuel {α:Type} {p:List Tok->Option (α × List Tok)}(hp:∀(l:List Tok)(x:α)(r:List Tok),AllG l->p l=some (x,r)->AllG r/\r.length<l.length)(f g:Nat)(l:List Tok)(hG:AllG l)(hf:l.length<=f)(hg:l.length<=g) :
  sepM (λ_=>p) f l=sepM (λ_=>p) g l:=by
 rw[sepM,sepM]
 cases ho:p l with
 | none=>rfl
 | some y =>
  obtain⟨x,r⟩:=y
  obtain⟨g1,l1⟩:=hp l x r hG ho
  simp only
  rw[many_fuel hp f g r g1 (by omega) (by omega)]
theorem brF_fuel {α:Type} {p:List Tok->Option (α × List Tok)}(hp:∀(l:List Tok)(x:α)(r:List Tok),AllG l->p l=some (x,r)->AllG r/\r.length<l.length)(f g:Nat)(l:List Tok)(hG:AllG l)(hf:l.tail.length<=f)(hg:l.tail.length<=g) :
  brF (λ_=>p) f l=brF (λ_=>p) g l:=by
 rw[brF_eq,brF_eq,brG,brG,sepM_fuel hp f g l.tail (AllG.tail' hG) hf hg]
def datG(x:Nm)(o:List Nm × List Tok):Option (De × List Tok):=(brF (λ_=>rdCon) (3*o.2.length) o.2).map λy=>(.data x o.1 y.1,y.2)
theorem dataF_eq(l:List Tok)(hG:AllG l):rdData l=if(hd l).kind=2 then datG (hd l).text (vars l.tail) else none:=by
 rw[rdData_eq,dataF]
 by_cases h:(hd l).kind=2
 ·rw[if_pos h,if_pos h,datG]
  obtain⟨-,v2,-⟩:=vars_spec l.tail (AllG.tail' hG)
  rw[brF_fuel rdCon_len ((vars l.tail).2.tail.length+1) (3*(vars l.tail).2.length) _ v2 (by omega) (by simp;omega)]
 ·rw[if_neg h,if_neg h]
set_option maxHeartbeats 12800000 in
theorem sx_data(S:Nat->Prop)(b:Nat)(l:List Tok)(w:World)(h:RdrS S w b l)(hS:∀g,S g->g≠b/\g<w.heap.size)(hG:AllG l)(hl:l.length<=100000) :
  Calls Tryz.prog 126 #[.pointer (some ⟨b,0,none⟩)] w (GPost pcD shD S b w (rdData l)):=by
 have hbl:=h.lt
 have hV:=sx_takeAnyR S b l 2 2 rfl (w.alloc (.cells #[.int .i64 1,.string ⟨#[]⟩,.slice none 0 0,.slice none 0 0,.int .i64 0,.string ⟨#[]⟩,.int .i64 0,.slice none 0 0,.int .i64 0,.string ⟨#[]⟩,.bool false,.int .i64 0,.string ⟨#[]⟩,.int .i64 0,.slice none 0 0,.slice none 0 0,.slice none 0 0] 59)) (h.alloc _ (λg hg=>(hS g hg).2)) (λg hg=>⟨(hS g hg).1,by have:=(hS g hg).2;simp;omega⟩) hl (by decide)
 obtain⟨M,hM⟩:∃M,rdData l=M:=⟨_,rfl⟩
 rw[hM]
 rw[dataF_eq l hG]at hM
 obtain⟨q,hq⟩:∃q,((hd l).kind==2)=q:=⟨_,rfl⟩
 rw[hq]at hV
 obtain⟨X,hX⟩:∃X,anyT l 2=X:=⟨_,rfl⟩
 obtain⟨r2,hr2⟩:∃x,anyR l 2=x:=⟨_,rfl⟩
 rw[hX,hr2]at hV
 obtain⟨⟨ns,r3⟩,hV2⟩:∃o,vars r2=o:=⟨_,rfl⟩
 have HV:=hidE hV
 have HS:=hidE hS
 have HM1:Hid (q=false/\M=none\/q=true/\M=datG X.data.toList (ns,r3)/\AllG r3/\r2.length<=100000/\ns.length+r3.length=r2.length):=hidE (by
  cases q with
  | false =>
   have hk:¬(hd l).kind=2:=by simpa using hq
   rw[if_neg hk]at hM
   exact .inl ⟨rfl,hM.symm⟩
  | true =>
   have hk:(hd l).kind=2:=by simpa using hq
   have hX2:(hd l).text=X.data.toList:=by rw[<-hX,anyT,if_pos hk]
   have hr3:l.tail=r2:=by rw[<-hr2,anyR,if_pos hk]
   rw[if_pos hk,hX2,hr3,hV2]at hM
   have:r2.length<=l.length:=by rw[<-hr3];simp
   obtain⟨-,v2,v3⟩:=vars_spec r2 (by rw[<-hr3];exact AllG.tail' hG)
   rw[hV2]at v2 v3
   exact .inr ⟨rfl,hM.symm,v2,by omega,v3⟩)
 have HV2:=hidE hV2
 clear h hS hV hM hq hG hl hX hr2 hV2
 go_enter Tryz.func126,Tryz.ntmps126
 go_wp2_with fail
 refine HV.out.mono ?_
 rintro e w1 ⟨rfl,r1,c1⟩
 have hs1:=c1.size
 simp at hs1
 have hbk:Blk w1 w.heap.size 59 #[.int .i64 1,.string ⟨#[]⟩,.slice none 0 0,.slice none 0 0,.int .i64 0,.string ⟨#[]⟩,.int .i64 0,.slice none 0 0,.int .i64 0,.string ⟨#[]⟩,.bool false,.int .i64 0,.string ⟨#[]⟩,.int .i64 0,.slice none 0 0,.slice none 0 0,.slice none 0 0]:=Blk.chgR (heap_alloc_new _ _) c1 (by unfold only;omega)
 obtain⟨⟨g0,g1,g2,g3,g4,g5,g6,g7,g8,g9,g10,g11,g12,g13,g14,g15,g16⟩,⟨z0,z1,z2,z3,z4,z5,z6,z7,z8,z9,z10,z11,z12,z13,z14,z15,z16⟩,hlg⟩:=blk_facts17 hbk
 obtain⟨W1,hW1⟩:∃W,w1.setCell ⟨w.heap.size,1,none⟩ (.string X)=W:=⟨_,rfl⟩
 have hs1':W1.heap.size=w1.heap.size:=by rw[<-hW1];simp
 have HB1:Hid (Blk W1 w.heap.size 59 #[.int .i64 1,.string X,.slice none 0 0,.slice none 0 0,.int .i64 0,.string ⟨#[]⟩,.int .i64 0,.slice none 0 0,.int .i64 0,.string ⟨#[]⟩,.bool false,.int .i64 0,.string ⟨#[]⟩,.int .i64 0,.slice none 0 0,.slice none 0 0,.slice none 0 0]):=hidE (hW1▸heap_setCell_same _ _ 1 _ _ _ hbk)
 have HC1:Hid (ChR b w W1):=hidE (hW1▸c1.pre.setCell (.inl (Nat.le_refl _)) _)
 have HR1:=hidE (show RdrS S W1 b r2 from hW1▸r1.keep (Below.heap_setCell _ ⟨w.heap.size,1,none⟩ _ b (by intro e;simp at e;omega)) (λg hg=>Below.heap_setCell _ ⟨w.heap.size,1,none⟩ _ g (by intro e;simp at e;have:=(HS.out g hg).2;omega)))
 clear hbk c1 r1 HV
 go_upto_region 3 with fail
 try rw[hW1]
 clear hW1 g0 g1 g2 g3 g4 g5 g6 g7 g8 g9 g10 g11 g12 g13 g14 g15 g16 z0 z1 z2 z3 z4 z5 z6 z7 z8 z9 z10 z11 z12 z13 z14 z15 z16
 rcases HM1.out with⟨rfl,hM⟩|⟨rfl,hM,hG3,hL2,hL3⟩
 ·have HM:=hidE hM
  obtain⟨⟨g0,g1,g2,g3,g4,g5,g6,g7,g8,g9,g10,g11,g12,g13,g14,g15,g16⟩,⟨z0,z1,z2,z3,z4,z5,z6,z7,z8,z9,z10,z11,z12,z13,z14,z15,z16⟩,hlg⟩:=blk_facts17 HB1.out
  clear hM
  have HBX:=HB1
  have HROW:Hid (W1.heap[w.heap.size]? = some (.cells #[.int .i64 1,.string X,.slice none 0 0,.slice none 0 0,.int .i64 0,.string ⟨#[]⟩,.int .i64 0,.slice none 0 0,.int .i64 0,.string ⟨#[]⟩,.bool false,.int .i64 0,.string ⟨#[]⟩,.int .i64 0,.slice none 0 0,.slice none 0 0,.slice none 0 0] 59 (0,0))):=hidE HBX.out
  go_wp2_with (first|((with_reducible refine wpList_load_row ?_ 59 (.tmp 2) ?_ w.heap.size ?_ 59 _ (0,0) _ HROW.out Tryz.underlying59 ?_ ?_ ?_);(exact rfl);(exact rfl);(exact rfl);(exact rfl);(exact(by kernel_rfl)))|((with_reducible refine wpList_store_row ?_ 59 (.tmp 2) (.tmp 15) ?_ w.heap.size #[.int .i64 1,.string X,.slice none 0 0,.slice none 0 0,.int .i64 0,.string ⟨#[]⟩,.int .i64 0,.slice none 0 0,.int .i64 0,.string ⟨#[]⟩,.bool false,.int .i64 0,.string ⟨#[]⟩,.int .i64 0,.slice none 0 0,.slice none 0 0,.slice none 0 0] ?_ ?_ 59 #[.int .i64 1,.string X,.slice none 0 0,.slice none 0 0,.int .i64 0,.string ⟨#[]⟩,.int .i64 0,.slice none 0 0,.int .i64 0,.string ⟨#[]⟩,.bool false,.int .i64 0,.string ⟨#[]⟩,.int .i64 0,.slice none 0 0,.slice none 0 0,.slice none 0 0] HROW.out ?_ ?_ ?_ ?_);(exact rfl);(exact rfl);(exact rfl);(exact rfl);(exact(by kernel_rfl));(exact(by kernel_rfl));(exact(one17 _ _ _ _ _ _ _ _ _ _ _ _ _ _ _ _ _ _ _ _ _ _ _ _ _ _ _ _ _));rw[setRow_self _ _ _ _ _ HROW.out]))
  try simp only[Exit.inBlock,Exit.then]
  refine bodyPost_ret (results_ct rfl _ _ w.heap.size 59 _ (0,0) _ rfl HB1.out Tryz.underlying59 rfl (by kernel_rfl)) rfl ?_
  exact⟨HC1.out,_,⟨_,_,_,_,_,_,_,_,_,_,_,_,_,_,_,_,_,_,_,_,_,_,_,_,_,_,_,_,_,rfl⟩,.inl ⟨HM.out,rfl⟩⟩
 ·have HM0:=hidE hM
  have h2:=sx_variablesR S b r2 W1 HR1.out (λg hg=>⟨(HS.out g hg).1,by have:=(HS.out g hg).2;omega⟩) hL2
  rw[HV2.out]at h2
  have H2:=hidE h2
  have HG3:=hidE hG3
  have HL2:=hidE (And.intro hL2 hL3)
  have hlb:b<W1.heap.size:=by omega
  clear h2 hM hG3 hL2 hL3 HR1 HV2
  go_wp2_with fail
  refine H2.out.mono ?_
  rintro e w2 ⟨V,c,rfl,hown,hr2,c2⟩
  have hs2:=c2.size
  try simp only at hown
  obtain⟨n,hn⟩:∃n,ns.length=n:=⟨_,rfl⟩
  rw[hn]at hown
  have HN:=hidE hn
  have HCAP:Hid (ns.length<=c):=hidE (by rw[hn];exact own_le hown)
  have hb2:=HB1.out.chgR c2 (by unfold only;omega)
  obtain⟨⟨g0,g1,g2,g3,g4,g5,g6,g7,g8,g9,g10,g11,g12,g13,g14,g15,g16⟩,⟨z0,z1,z2,z3,z4,z5,z6,z7,z8,z9,z10,z11,z12,z13,z14,z15,z16⟩,hlg⟩:=blk_facts17 hb2
  obtain⟨W2,hW2⟩:∃W,w2.setCell ⟨w.heap.size,2,none⟩ (.slice V n c)=W:=⟨_,rfl⟩
  have hs2':W2.heap.size=w2.heap.size:=by rw[<-hW2];simp
  have HB2:Hid (Blk W2 w.heap.size 59 #[.int .i64 1,.string X,.slice V n c,.slice none 0 0,.int .i64 0,.string ⟨#[]⟩,.int .i64 0,.slice none 0 0,.int .i64 0,.string ⟨#[]⟩,.bool false,.int .i64 0,.string ⟨#[]⟩,.int .i64 0,.slice none 0 0,.slice none 0 0,.slice none 0 0]):=hidE (hW2▸heap_setCell_same _ _ 2 _ _ _ hb2)
  have HC2:Hid (ChR b w W2):=hidE (hW2▸(HC1.out.trans c2).setCell (.inl (Nat.le_refl _)) _)
  have hR2:RdrS S W2 b r3:=hW2▸hr2.keep (Below.heap_setCell _ ⟨w.heap.size,2,none⟩ _ b (by intro e;simp at e;omega)) (λg hg=>Below.heap_setCell _ ⟨w.heap.size,2,none⟩ _ g (by intro e;simp at e;have:=(HS.out g hg).2;omega))
  have HNM:Hid (NmsIn (λg=>w.heap.size<g/\g<w2.heap.size) W2 ns V):=hidE ((nmsIn_own hown).keep (λg hg=>⟨by omega,hg.2⟩) (λg hg=>hW2▸Below.heap_setCell _ ⟨w.heap.size,2,none⟩ _ g (by intro e;simp at e;omega)))
  have hP:=sx_inBracesC (3*r3.length) S b r3 W2 hR2 (λg hg=>⟨(HS.out g hg).1,by have:=(HS.out g hg).2;omega⟩) HG3.out (by have:=HL2.out;omega) (by omega) (λ_ _ W l1 hr hs hG hl _=>sx_con S b l1 W hr hs hG hl) (λ_=>rdCon_len) (λl x r hG h=>Nat.le_of_lt (sep_len (rd:=λ_=>rdCon) (λ_=>rdCon_len) _ l x r hG h).2)
  have HM2:Hid (M=(brF (λ_=>rdCon) (3*r3.length) r3).map λy=>(De.data X.data.toList ns y.1,y.2)):=hidE (by rw[HM0.out,datG])
  obtain⟨O,hO⟩:∃O,brF (λ_=>rdCon) (3*r3.length) r3=O:=⟨_,rfl⟩
  rw[hO]at hP HM2
  have HP:=hidE hP
  clear hb2 c2 hr2 hR2 hown hn hO hP H2
  go_upto_region 6 with fail
  rw[HN.out]
  try rw[hW2]
  clear hW2 g0 g1 g2 g3 g4 g5 g6 g7 g8 g9 g10 g11 g12 g13 g14 g15 g16 z0 z1 z2 z3 z4 z5 z6 z7 z8 z9 z10 z11 z12 z13 z14 z15 z16
  go_wp2_with fail
  refine HP.out.mono ?_
  rintro e w3 ⟨c3,A,m,d,hcs⟩
  have hs3:=c3.size
  have hb3:=HB2.out.chgR c3 (by unfold only;omega)
  obtain⟨⟨g0,g1,g2,g3,g4,g5,g6,g7,g8,g9,g10,g11,g12,g13,g14,g15,g16⟩,⟨z0,z1,z2,z3,z4,z5,z6,z7,z8,z9,z10,z11,z12,z13,z14,z15,z16⟩,hlg⟩:=blk_facts17 hb3
  obtain⟨W3,hW3⟩:∃W,w3.setCell ⟨w.heap.size,3,none⟩ (.slice A m d)=W:=⟨_,rfl⟩
  have hs3':W3.heap.size=w3.heap.size:=by rw[<-hW3];simp
  have HFAR:Hid (∀k,k≠w.heap.size->W3.heap[k]? = w3.heap[k]?):=hidE λk hk=>hW3▸Below.heap_setCell _ ⟨w.heap.size,3,none⟩ _ k hk
  have HB3:Hid (Blk W3 w.heap.size 59 #[.int .i64 1,.string X,.slice V n c,.slice A m d,.int .i64 0,.string ⟨#[]⟩,.int .i64 0,.slice none 0 0,.int .i64 0,.string ⟨#[]⟩,.bool false,.int .i64 0,.string ⟨#[]⟩,.int .i64 0,.slice none 0 0,.slice none 0 0,.slice none 0 0]):=hidE (hW3▸heap_setCell_same _ _ 3 _ _ _ hb3)
  have HC3:Hid (ChR b w W3):=hidE (hW3▸(HC2.out.trans c3).setCell (.inl (Nat.le_refl _)) _)
  have HNM:=hidE (HNM.out.keep (S':=λg=>w.heap.size<g/\g<w2.heap.size) (λg hg=>hg) (λg hg=>(HFAR.out g (by omega)).trans (c3.block g (by omega) (by unfold only;omega))))
  have hU:∃ok,e=.returned (.tuple #[.slice A m d,.bool ok])/\((ok=false/\M=none)\/(ok=true/\∃xs r,M=some (.data X.data.toList ns xs,r)/\m=xs.length/\LstG pcC (λg=>w.heap.size<g/\g<w3.heap.size) W3 xs A/\RdrS S W3 b r)):=by
   rcases hcs with⟨ho,he⟩|⟨xs,r,ho,he,hm,hx,hr⟩
   ·exact⟨false,he,.inl ⟨rfl,by rw[HM2.out,ho];rfl⟩⟩
   ·exact⟨true,he,.inr ⟨rfl,xs,r,by rw[HM2.out,ho];rfl,hm,hx.keep (λg hg=>⟨by omega,hg.2⟩) (λg hg=>HFAR.out g (by omega)),hr.keep (HFAR.out b (by omega)) (λk hk=>HFAR.out k (by have:=(HS.out k hk).2;omega))⟩⟩
  obtain⟨ok,rfl,hU⟩:=hU
  have HU:=hidE hU
  clear hb3 c3 HP hcs hU
  go_upto_region 9 with fail
  try rw[hW3]
  clear hW3 g0 g1 g2 g3 g4 g5 g6 g7 g8 g9 g10 g11 g12 g13 g14 g15 g16 z0 z1 z2 z3 z4 z5 z6 z7 z8 z9 z10 z11 z12 z13 z14 z15 z16
  obtain⟨⟨g0,g1,g2,g3,g4,g5,g6,g7,g8,g9,g10,g11,g12,g13,g14,g15,g16⟩,⟨z0,z1,z2,z3,z4,z5,z6,z7,z8,z9,z10,z11,z12,z13,z14,z15,z16⟩,hlg⟩:=blk_facts17 HB3.out
  have HBX:=HB3
  have HROW:Hid (W3.heap[w.heap.size]? = some (.cells #[.int .i64 1,.string X,.slice V n c,.slice A m d,.int .i64 0,.string ⟨#[]⟩,.int .i64 0,.slice none 0 0,.int .i64 0,.string ⟨#[]⟩,.bool false,.int .i64 0,.string ⟨#[]⟩,.int .i64 0,.slice none 0 0,.slice none 0 0,.slice none 0 0] 59 (0,0))):=hidE HBX.out
  go_wp2_with (first|((with_reducible refine wpList_load_row ?_ 59 (.tmp 2) ?_ w.heap.size ?_ 59 _ (0,0) _ HROW.out Tryz.underlying59 ?_ ?_ ?_);(exact rfl);(exact rfl);(exact rfl);(exact rfl);(exact(by kernel_rfl)))|((with_reducible refine wpList_store_row ?_ 59 (.tmp 2) (.tmp 37) ?_ w.heap.size #[.int .i64 1,.string X,.slice V n c,.slice A m d,.int .i64 0,.string ⟨#[]⟩,.int .i64 0,.slice none 0 0,.int .i64 0,.string ⟨#[]⟩,.bool false,.int .i64 0,.string ⟨#[]⟩,.int .i64 0,.slice none 0 0,.slice none 0 0,.slice none 0 0] ?_ ?_ 59 #[.int .i64 1,.string X,.slice V n c,.slice A m d,.int .i64 0,.string ⟨#[]⟩,.int .i64 0,.slice none 0 0,.int .i64 0,.string ⟨#[]⟩,.bool false,.int .i64 0,.string ⟨#[]⟩,.int .i64 0,.slice none 0 0,.slice none 0 0,.slice none 0 0] HROW.out ?_ ?_ ?_ ?_);(exact rfl);(exact rfl);(exact rfl);(exact rfl);(exact(by kernel_rfl));(exact(by kernel_rfl));(exact(one17 _ _ _ _ _ _ _ _ _ _ _ _ _ _ _ _ _ _ _ _ _ _ _ _ _ _ _ _ _));rw[setRow_self _ _ _ _ _ HROW.out]))
  try simp only[Exit.inBlock,Exit.then]
  refine bodyPost_ret (results_ct rfl _ _ w.heap.size 59 _ (0,0) _ rfl HB3.out Tryz.underlying59 rfl (by kernel_rfl)) rfl ?_
  refine⟨HC3.out,[.int .i64 1,.string X,.slice V n c,.slice A m d,.int .i64 0,.string ⟨#[]⟩,.int .i64 0,.slice none 0 0,.int .i64 0,.string ⟨#[]⟩,.bool false,.int .i64 0,.string ⟨#[]⟩,.int .i64 0,.slice none 0 0,.slice none 0 0,.slice none 0 0],⟨_,_,_,_,_,_,_,_,_,_,_,_,_,_,_,_,_,_,_,_,_,_,_,_,_,_,_,_,_,rfl⟩,?_⟩
  rcases HU.out with⟨rfl,hM⟩|⟨rfl,xs,r,hM,hm,hx,hr⟩
  ·exact .inl ⟨hM,rfl⟩
  ·refine .inr ⟨_,r,hM,rfl,?_,hr⟩
   exact⟨V,⟨c,HCAP.out⟩,A,d,by show _=[.int .i64 1,Sx.strV _,.slice V ns.length c,.slice A _ d]++tyZl++exZl;rw[HN.out,hm];simp[tyZl,exZl,Sx.strV],HNM.out.keep (λg hg=>⟨by omega,by omega⟩) (λ_ _=>rfl),hx.keep (λg hg=>⟨by omega,by omega⟩) (λ_ _=>rfl)⟩
end Go.Proofs.YtknkclefoiohpaaGreatDoor

namespace Go.Proofs.YtknkclefoiohpaaGreatDoor
open Go.RowKit Lx Tx Sx
set_option maxRecDepth 100000
theorem ChR.setRow {b:Nat} {a w:World}(h:ChR b a w) {g:Nat}(hg:a.heap.size<=g)(cs:Array Value):ChR b a (w.setRow g cs) :=
 ⟨⟨h.c.os,h.c.tape,h.c.output,by rw[setRow_size];exact h.size,λk hk hn=>(setRow_other w g k cs (by omega)).trans (h.block k hk hn)⟩,λx=>(h.r x).same (setRow_other w g b cs (by have:=x.lt;omega))⟩
def decH(x:Nm)(r:List Tok):Option (De × List Tok):=if isHd r 6 [61]=true then(rdE (enoughE r.tail) r.tail).map λy=>(.bind x y.1,y.2) else none
def decG(x:Nm)(r:List Tok):Option (De × List Tok):=if isHd r 6 [58]=true then(typ r.tail).map λy=>(.sig x y.1,y.2) else decH x r
def decN(l:List Tok):Option (De × List Tok):=if(hd l).kind=1 then decG (hd l).text l.tail else none
theorem declF_eq(l:List Tok):rdDecl l=if isHd l 3 wData=true then rdData l.tail else decN l:=rdDecl_eq l
set_option maxHeartbeats 12800000 in
theorem sx_decl(S:Nat->Prop)(b:Nat)(l:List Tok)(w:World)(h:RdrS S w b l)(hS:∀g,S g->g≠b/\g<w.heap.size)(hG:AllG l)(hl:l.length<=100000) :
  Calls Tryz.prog 75 #[.pointer (some ⟨b,0,none⟩)] w (GPost pcD shD S b w (rdDecl l)):=by
 have hbl:=h.lt
 obtain⟨M,hM⟩:∃M,rdDecl l=M:=⟨_,rfl⟩
 rw[hM]
 rw[declF_eq]at hM
 have HM:=hidE hM
 have HS:=hidE hS
 have HG:=hidE hG
 have HL:=hidE hl
 obtain⟨w0,hw0⟩:∃W,w.alloc (.cells #[.int .i64 0,.string ⟨#[]⟩,.slice none 0 0,.slice none 0 0,.int .i64 0,.string ⟨#[]⟩,.int .i64 0,.slice none 0 0,.int .i64 0,.string ⟨#[]⟩,.bool false,.int .i64 0,.string ⟨#[]⟩,.int .i64 0,.slice none 0 0,.slice none 0 0,.slice none 0 0] 59)=W:=⟨_,rfl⟩
 have hs0:w0.heap.size=w.heap.size+1:=by rw[<-hw0];simp
 have HBK:Hid (Blk w0 w.heap.size 59 #[.int .i64 0,.string ⟨#[]⟩,.slice none 0 0,.slice none 0 0,.int .i64 0,.string ⟨#[]⟩,.int .i64 0,.slice none 0 0,.int .i64 0,.string ⟨#[]⟩,.bool false,.int .i64 0,.string ⟨#[]⟩,.int .i64 0,.slice none 0 0,.slice none 0 0,.slice none 0 0]):=hidE (hw0▸heap_alloc_new _ _)
 have HC:Hid (ChR b w w0):=hidE (hw0▸(ChR.refl _ _).alloc _)
 have HR:Hid (RdrS S w0 b l):=hidE (hw0▸h.alloc _ (λg hg=>(hS g hg).2))
 clear h hS hM hG hl
 go_enter Tryz.func75,Tryz.ntmps75
 go_upto_region 1 with fail
 try rw[hw0]
 clear hw0
 have ht:=sx_wordR S b l ⟨#[100,97,116,97]⟩ w0 HR.out (λg hg=>⟨(HS.out g hg).1,by have:=(HS.out g hg).2;omega⟩) HL.out
 rw[show(⟨#[100,97,116,97]⟩:ByteArray).data.toList=wData from rfl,took]at ht
 obtain⟨q1,hq⟩:∃q,isHd l 3 wData=q:=⟨_,rfl⟩
 rw[hq]at ht
 have HT1:=hidE ht
 have HQ1:=hidE hq
 clear ht hq
 go_wp2_with fail
 refine HT1.out.mono ?_
 rintro e w1 ⟨rfl,hr1,c1⟩
 have hs1:=c1.size
 have HBK:=hidE (HBK.out.chgR c1 (by unfold only;omega))
 have HC:=hidE (HC.out.trans c1)
 clear c1 HT1
 cases q1 with
 | true =>
  rw[if_pos rfl]at hr1
  have hP:=sx_data S b l.tail w1 hr1 (λg hg=>⟨(HS.out g hg).1,by have:=(HS.out g hg).2;omega⟩) (AllG.tail' HG.out) (by have:=HL.out;simp;omega)
  have HM2:Hid (M=rdData l.tail):=hidE (by rw[<-HM.out,HQ1.out,if_pos rfl])
  obtain⟨O,hO⟩:∃O,rdData l.tail=O:=⟨_,rfl⟩
  rw[hO]at hP HM2
  have HP:=hidE hP
  clear hP hO hr1
  go_wp2_with fail
  refine HP.out.mono ?_
  rintro e w2 ⟨c2,cs,hsh,hcs⟩
  obtain⟨dk0,ds,dV,dvm,dvq,dG,dgm,dgq,dK0,dX0,dZ0,dB0,dm0,dq0,dk,dx,dt,dK,dX,dZ,dB,dm,dq,dKA,dkn,dkc,dLA,dln,dlc,rfl⟩:=hsh
  have hs2:=c2.size
  have HBX:=hidE (HBK.out.chgR c2 (by unfold only;omega))
  have HC2:=hidE (HC.out.trans c2)
  have hU:∃ok,e=.returned (.tuple #[.agg #[.int .i64 dk0,.string ds,.slice dV dvm dvq,.slice dG dgm dgq,.int .i64 dK0,.string dX0,.int .i64 dZ0,.slice dB0 dm0 dq0,.int .i64 dk,.string dx,.bool dt,.int .i64 dK,.string dX,.int .i64 dZ,.slice dB dm dq,.slice dKA dkn dkc,.slice dLA dln dlc],.bool ok])/\((ok=false/\M=none)\/(ok=true/\∃y r,M=some (y,r)/\pcD.Cs (λg=>w1.heap.size<=g/\g<w2.heap.size) w2 y [.int .i64 dk0,.string ds,.slice dV dvm dvq,.slice dG dgm dgq,.int .i64 dK0,.string dX0,.int .i64 dZ0,.slice dB0 dm0 dq0,.int .i64 dk,.string dx,.bool dt,.int .i64 dK,.string dX,.int .i64 dZ,.slice dB dm dq,.slice dKA dkn dkc,.slice dLA dln dlc]/\RdrS S w2 b r)):=by
   rcases hcs with⟨ho,he⟩|⟨y,r,ho,he,hx,hr⟩
   ·exact⟨false,he,.inl ⟨rfl,by rw[HM2.out,ho]⟩⟩
   ·exact⟨true,he,.inr ⟨rfl,y,r,by rw[HM2.out,ho],hx,hr⟩⟩
  obtain⟨ok,rfl,hU⟩:=hU
  have HU:=hidE hU
  have HROW:Hid (w2.heap[w.heap.size]? = some (.cells #[.int .i64 0,.string ⟨#[]⟩,.slice none 0 0,.slice none 0 0,.int .i64 0,.string ⟨#[]⟩,.int .i64 0,.slice none 0 0,.int .i64 0,.string ⟨#[]⟩,.bool false,.int .i64 0,.string ⟨#[]⟩,.int .i64 0,.slice none 0 0,.slice none 0 0,.slice none 0 0] 59 (0,0))):=hidE HBX.out
  clear c2 HP hcs hU
  go_wp2_with ((with_reducible refine wpList_store_row ?_ 59 (.tmp 2) (.tmp 10) ?_ w.heap.size #[.int .i64 dk0,.string ds,.slice dV dvm dvq,.slice dG dgm dgq,.int .i64 dK0,.string dX0,.int .i64 dZ0,.slice dB0 dm0 dq0,.int .i64 dk,.string dx,.bool dt,.int .i64 dK,.string dX,.int .i64 dZ,.slice dB dm dq,.slice dKA dkn dkc,.slice dLA dln dlc] ?_ ?_ 59 #[.int .i64 0,.string ⟨#[]⟩,.slice none 0 0,.slice none 0 0,.int .i64 0,.string ⟨#[]⟩,.int .i64 0,.slice none 0 0,.int .i64 0,.string ⟨#[]⟩,.bool false,.int .i64 0,.string ⟨#[]⟩,.int .i64 0,.slice none 0 0,.slice none 0 0,.slice none 0 0] HROW.out ?_ ?_ ?_ ?_);(exact rfl);(exact rfl);(exact rfl);(exact rfl);(exact(by kernel_rfl));(exact(by kernel_rfl));(exact(one17 _ _ _ _ _ _ _ _ _ _ _ _ _ _ _ _ _ _ _ _ _ _ _ _ _ _ _ _ _)))
  try simp only[Exit.inBlock,Exit.then]
  refine bodyPost_ret (results_ct rfl _ _ w.heap.size 59 _ (0,0) _ rfl (setRow_heap _ _ _ _ _ _ HROW.out) Tryz.underlying59 rfl (by kernel_rfl)) rfl ?_
  refine⟨HC2.out.setRow (Nat.le_refl _) _,[.int .i64 dk0,.string ds,.slice dV dvm dvq,.slice dG dgm dgq,.int .i64 dK0,.string dX0,.int .i64 dZ0,.slice dB0 dm0 dq0,.int .i64 dk,.string dx,.bool dt,.int .i64 dK,.string dX,.int .i64 dZ,.slice dB dm dq,.slice dKA dkn dkc,.slice dLA dln dlc],⟨_,_,_,_,_,_,_,_,_,_,_,_,_,_,_,_,_,_,_,_,_,_,_,_,_,_,_,_,_,rfl⟩,?_⟩
  rcases HU.out with⟨rfl,hM⟩|⟨rfl,y,r,hM,hx,hr⟩
  ·exact .inl ⟨hM,rfl⟩
  ·exact .inr ⟨y,r,hM,rfl,pcD.keep (λg hg=>⟨by omega,by rw[setRow_size];exact hg.2⟩) (λg hg=>setRow_other _ _ _ _ (by omega)) hx,hr.keep (setRow_other _ _ _ _ (by omega)) (λk hk=>setRow_other _ _ _ _ (by have:=(HS.out k hk).2;omega))⟩
 | false =>
  rw[if_neg (by decide)]at hr1
  have hV:=sx_variableR S b l w1 hr1 (λg hg=>⟨(HS.out g hg).1,by have:=(HS.out g hg).2;omega⟩) HL.out
  have hMN:decN l=M:=by rw[<-HM.out,HQ1.out,if_neg (by decide)]
  rw[decN]at hMN
  obtain⟨q2,hq⟩:∃q,((hd l).kind==1)=q:=⟨_,rfl⟩
  rw[hq]at hV
  obtain⟨X,hX⟩:∃X,anyT l 1=X:=⟨_,rfl⟩
  obtain⟨r2,hr2⟩:∃x,anyR l 1=x:=⟨_,rfl⟩
  rw[hX,hr2]at hV
  have HV:=hidE hV
  have HM1:Hid (q2=false/\M=none\/q2=true/\M=decG X.data.toList r2/\AllG r2/\r2.length<=100000):=hidE (by
   cases q2 with
   | false =>
    have hk:¬(hd l).kind=1:=by simpa using hq
    rw[if_neg hk]at hMN
    exact .inl ⟨rfl,hMN.symm⟩
   | true =>
    have hk:(hd l).kind=1:=by simpa using hq
    have hX2:(hd l).text=X.data.toList:=by rw[<-hX,anyT,if_pos hk]
    have hr3:l.tail=r2:=by rw[<-hr2,anyR,if_pos hk]
    rw[if_pos hk,hX2,hr3]at hMN
    have:r2.length<=l.length:=by rw[<-hr3];simp
    have:=HL.out
    exact .inr ⟨rfl,hMN.symm,by rw[<-hr3];exact AllG.tail' HG.out,by omega⟩)
  clear hr1 hV hMN hq hX hr2 HR HG HL
  have hlb1:b<w1.heap.size:=by omega
  go_wp2_with fail
  refine HV.out.mono ?_
  rintro e w2 ⟨rfl,r1,c2⟩
  have hs2:=c2.size
  have hbk:=HBK.out.chgR c2 (by unfold only;omega)
  obtain⟨⟨g0,g1,g2,g3,g4,g5,g6,g7,g8,g9,g10,g11,g12,g13,g14,g15,g16⟩,⟨z0,z1,z2,z3,z4,z5,z6,z7,z8,z9,z10,z11,z12,z13,z14,z15,z16⟩,hlg⟩:=blk_facts17 hbk
  obtain⟨W2,hW2⟩:∃W,w2.setCell ⟨w.heap.size,1,none⟩ (.string X)=W:=⟨_,rfl⟩
  have hs2':W2.heap.size=w2.heap.size:=by rw[<-hW2];simp
  have HBK:Hid (Blk W2 w.heap.size 59 #[.int .i64 0,.string X,.slice none 0 0,.slice none 0 0,.int .i64 0,.string ⟨#[]⟩,.int .i64 0,.slice none 0 0,.int .i64 0,.string ⟨#[]⟩,.bool false,.int .i64 0,.string ⟨#[]⟩,.int .i64 0,.slice none 0 0,.slice none 0 0,.slice none 0 0]):=hidE (hW2▸heap_setCell_same _ _ 1 _ _ _ hbk)
  have HC:Hid (ChR b w W2):=hidE (hW2▸(HC.out.trans c2).setCell (.inl (Nat.le_refl _)) _)
  have HR:=hidE (show RdrS S W2 b r2 from hW2▸r1.keep (Below.heap_setCell _ ⟨w.heap.size,1,none⟩ _ b (by intro e;simp at e;omega)) (λg hg=>Below.heap_setCell _ ⟨w.heap.size,1,none⟩ _ g (by intro e;simp at e;have:=(HS.out g hg).2;omega)))
  clear hbk c2 r1 HV
  go_upto_region 5 with fail
  try rw[hW2]
  clear hW2 g0 g1 g2 g3 g4 g5 g6 g7 g8 g9 g10 g11 g12 g13 g14 g15 g16 z0 z1 z2 z3 z4 z5 z6 z7 z8 z9 z10 z11 z12 z13 z14 z15 z16
  rcases HM1.out with⟨rfl,hM⟩|⟨rfl,hM,hG2,hL2⟩
  ·have HM2:=hidE hM
   clear hM
   have HBX:=HBK
   have HROW:Hid (W2.heap[w.heap.size]? = some (.cells #[.int .i64 0,.string X,.slice none 0 0,.slice none 0 0,.int .i64 0,.string ⟨#[]⟩,.int .i64 0,.slice none 0 0,.int .i64 0,.string ⟨#[]⟩,.bool false,.int .i64 0,.string ⟨#[]⟩,.int .i64 0,.slice none 0 0,.slice none 0 0,.slice none 0 0] 59 (0,0))):=hidE HBX.out
   go_wp2_with (first|((with_reducible refine wpList_load_row ?_ 59 (.tmp 2) ?_ w.heap.size ?_ 59 _ (0,0) _ HROW.out Tryz.underlying59 ?_ ?_ ?_);(exact rfl);(exact rfl);(exact rfl);(exact rfl);(exact(by kernel_rfl)))|((with_reducible refine wpList_store_row ?_ 59 (.tmp 2) (.tmp 47) ?_ w.heap.size #[.int .i64 0,.string X,.slice none 0 0,.slice none 0 0,.int .i64 0,.string ⟨#[]⟩,.int .i64 0,.slice none 0 0,.int .i64 0,.string ⟨#[]⟩,.bool false,.int .i64 0,.string ⟨#[]⟩,.int .i64 0,.slice none 0 0,.slice none 0 0,.slice none 0 0] ?_ ?_ 59 #[.int .i64 0,.string X,.slice none 0 0,.slice none 0 0,.int .i64 0,.string ⟨#[]⟩,.int .i64 0,.slice none 0 0,.int .i64 0,.string ⟨#[]⟩,.bool false,.int .i64 0,.string ⟨#[]⟩,.int .i64 0,.slice none 0 0,.slice none 0 0,.slice none 0 0] HROW.out ?_ ?_ ?_ ?_);(exact rfl);(exact rfl);(exact rfl);(exact rfl);(exact(by kernel_rfl));(exact(by kernel_rfl));(exact(one17 _ _ _ _ _ _ _ _ _ _ _ _ _ _ _ _ _ _ _ _ _ _ _ _ _ _ _ _ _));rw[setRow_self _ _ _ _ _ HROW.out]))
   try simp only[Exit.inBlock,Exit.then]
   refine bodyPost_ret (results_ct rfl _ _ w.heap.size 59 _ (0,0) _ rfl HBX.out Tryz.underlying59 rfl (by kernel_rfl)) rfl ?_
   exact⟨HC.out,_,⟨_,_,_,_,_,_,_,_,_,_,_,_,_,_,_,_,_,_,_,_,_,_,_,_,_,_,_,_,_,rfl⟩,.inl ⟨HM2.out,rfl⟩⟩
  ·have HM0:=hidE hM
   have HG:=hidE hG2
   have HL:=hidE hL2
   clear hM hG2 hL2
   have ht:=sx_signR S b r2 ⟨#[58]⟩ W2 HR.out (λg hg=>⟨(HS.out g hg).1,by have:=(HS.out g hg).2;omega⟩) HL.out
   rw[show(⟨#[58]⟩:ByteArray).data.toList=[58] from rfl,took]at ht
   obtain⟨q3,hq⟩:∃q,isHd r2 6 [58]=q:=⟨_,rfl⟩
   rw[hq]at ht
   have HT3:=hidE ht
   have HQ3:=hidE hq
   clear ht hq
   go_wp2_with fail
   refine HT3.out.mono ?_
   rintro e w3 ⟨rfl,hr3,c3⟩
   have hs3:=c3.size
   have HBK:=hidE (HBK.out.chgR c3 (by unfold only;omega))
   have HC:=hidE (HC.out.trans c3)
   clear c3 HT3
   cases q3 with
   | true =>
    rw[if_pos rfl]at hr3
    obtain⟨⟨g0,g1,g2,g3,g4,g5,g6,g7,g8,g9,g10,g11,g12,g13,g14,g15,g16⟩,⟨z0,z1,z2,z3,z4,z5,z6,z7,z8,z9,z10,z11,z12,z13,z14,z15,z16⟩,hlg⟩:=blk_facts17 HBK.out
    obtain⟨W3,hW3⟩:∃W,w3.setCell ⟨w.heap.size,0,none⟩ (.int .i64 2)=W:=⟨_,rfl⟩
    have hs3':W3.heap.size=w3.heap.size:=by rw[<-hW3];simp
    have HBK:Hid (Blk W3 w.heap.size 59 #[.int .i64 2,.string X,.slice none 0 0,.slice none 0 0,.int .i64 0,.string ⟨#[]⟩,.int .i64 0,.slice none 0 0,.int .i64 0,.string ⟨#[]⟩,.bool false,.int .i64 0,.string ⟨#[]⟩,.int .i64 0,.slice none 0 0,.slice none 0 0,.slice none 0 0]):=hidE (hW3▸heap_setCell_same _ _ 0 _ _ _ HBK.out)
    have HC:Hid (ChR b w W3):=hidE (hW3▸HC.out.setCell (.inl (Nat.le_refl _)) _)
    have hT:=sx_whole S b r2.tail W3 (show RdrS S W3 b r2.tail from hW3▸hr3.keep (Below.heap_setCell _ ⟨w.heap.size,0,none⟩ _ b (by intro e;simp at e;omega)) (λg hg=>Below.heap_setCell _ ⟨w.heap.size,0,none⟩ _ g (by intro e;simp at e;have:=(HS.out g hg).2;omega))) (λg hg=>⟨(HS.out g hg).1,by have:=(HS.out g hg).2;omega⟩) (AllG.tail' HG.out) (by have:=HL.out;simp;omega)
    obtain⟨O9,hO9⟩:∃O,typ r2.tail=O:=⟨_,rfl⟩
    have HM9:Hid (M=O9.map λy=>(De.sig X.data.toList y.1,y.2)):=hidE (by rw[HM0.out,decG,HQ3.out,if_pos rfl,hO9])
    rw[hO9]at hT
    have HT:=hidE hT
    clear hr3 hT hO9
    go_upto_region 8 with fail
    try rw[hW3]
    clear hW3 g0 g1 g2 g3 g4 g5 g6 g7 g8 g9 g10 g11 g12 g13 g14 g15 g16 z0 z1 z2 z3 z4 z5 z6 z7 z8 z9 z10 z11 z12 z13 z14 z15 z16
    go_wp2_with fail
    refine HT.out.mono ?_
    rintro e w4 ⟨c4,tK,tX,tZ,tA,tm,tc,hcs⟩
    have hs4:=c4.size
    have hbk:=HBK.out.chgR c4 (by unfold only;omega)
    obtain⟨⟨g0,g1,g2,g3,g4,g5,g6,g7,g8,g9,g10,g11,g12,g13,g14,g15,g16⟩,⟨z0,z1,z2,z3,z4,z5,z6,z7,z8,z9,z10,z11,z12,z13,z14,z15,z16⟩,hlg⟩:=blk_facts17 hbk
    obtain⟨W4,hW4⟩:∃W,(((w4.setCell ⟨w.heap.size,4,none⟩ (.int .i64 tK)).setCell ⟨w.heap.size,5,none⟩ (.string tX)).setCell ⟨w.heap.size,6,none⟩ (.int .i64 tZ)).setCell ⟨w.heap.size,7,none⟩ (.slice tA tm tc)=W:=⟨_,rfl⟩
    have hsW4:W4.heap.size=w4.heap.size:=hW4▸size_so17_4 w4 w.heap.size _ _ _ _
    have HFAR:Hid (∀k,k≠w.heap.size->W4.heap[k]? = w4.heap[k]?):=hidE λk hk=>hW4▸so17_4_far w4 w.heap.size k _ _ _ _ hk
    have HBX:Hid (Blk W4 w.heap.size 59 #[.int .i64 2,.string X,.slice none 0 0,.slice none 0 0,.int .i64 tK,.string tX,.int .i64 tZ,.slice tA tm tc,.int .i64 0,.string ⟨#[]⟩,.bool false,.int .i64 0,.string ⟨#[]⟩,.int .i64 0,.slice none 0 0,.slice none 0 0,.slice none 0 0]):=hidE (hW4▸blk_so17_4 _ _ _ _ hbk)
    have HC4:Hid (ChR b w W4):=hidE (hW4▸(HC.out.trans c4).so17_4 _ _ _ _ (Nat.le_refl _))
    have hU:∃ok,e=.returned (.tuple #[.agg #[.int .i64 tK,.string tX,.int .i64 tZ,.slice tA tm tc],.bool ok])/\((ok=false/\M=none)\/(ok=true/\∃t r,M=some (.sig X.data.toList t,r)/\tyV t tA tc=[.int .i64 tK,.string tX,.int .i64 tZ,.slice tA tm tc]/\Args (λg=>w.heap.size<g/\g<w4.heap.size) W4 t tA/\RdrS S W4 b r)):=by
     rcases hcs with⟨ho,he⟩|⟨t,r,ho,he,hrd,hr⟩
     ·exact⟨false,he,.inl ⟨rfl,by rw[HM9.out,ho];rfl⟩⟩
     ·obtain⟨A',a',hv',hA'⟩:=hrd
      injection hv' with hv'
      have hv':=congrArg Array.toList hv'
      simp only[List.cons.injEq,Value.int.injEq,Value.string.injEq,Value.slice.injEq,and_true,true_and]at hv'
      obtain⟨rfl,rfl,rfl,rfl,rfl,rfl⟩:=hv'
      exact⟨true,he,.inr ⟨rfl,t,r,by rw[HM9.out,ho];rfl,rfl,Args.keep (λg hg=>⟨by omega,hg.2⟩) (λg hg=>HFAR.out g (by omega)) _ _ hA',hr.keep (HFAR.out b (by omega)) (λk hk=>HFAR.out k (by have:=(HS.out k hk).2;omega))⟩⟩
    obtain⟨ok,rfl,hU⟩:=hU
    have HU:=hidE hU
    clear hbk c4 HT hcs hU
    go_upto_region 12 with fail
    try rw[hW4]
    clear hW4 g0 g1 g2 g3 g4 g5 g6 g7 g8 g9 g10 g11 g12 g13 g14 g15 g16 z0 z1 z2 z3 z4 z5 z6 z7 z8 z9 z10 z11 z12 z13 z14 z15 z16
    have HROW:Hid (W4.heap[w.heap.size]? = some (.cells #[.int .i64 2,.string X,.slice none 0 0,.slice none 0 0,.int .i64 tK,.string tX,.int .i64 tZ,.slice tA tm tc,.int .i64 0,.string ⟨#[]⟩,.bool false,.int .i64 0,.string ⟨#[]⟩,.int .i64 0,.slice none 0 0,.slice none 0 0,.slice none 0 0] 59 (0,0))):=hidE HBX.out
    go_wp2_with (first|((with_reducible refine wpList_load_row ?_ 59 (.tmp 2) ?_ w.heap.size ?_ 59 _ (0,0) _ HROW.out Tryz.underlying59 ?_ ?_ ?_);(exact rfl);(exact rfl);(exact rfl);(exact rfl);(exact(by kernel_rfl)))|((with_reducible refine wpList_store_row ?_ 59 (.tmp 2) (.tmp 47) ?_ w.heap.size #[.int .i64 2,.string X,.slice none 0 0,.slice none 0 0,.int .i64 tK,.string tX,.int .i64 tZ,.slice tA tm tc,.int .i64 0,.string ⟨#[]⟩,.bool false,.int .i64 0,.string ⟨#[]⟩,.int .i64 0,.slice none 0 0,.slice none 0 0,.slice none 0 0] ?_ ?_ 59 #[.int .i64 2,.string X,.slice none 0 0,.slice none 0 0,.int .i64 tK,.string tX,.int .i64 tZ,.slice tA tm tc,.int .i64 0,.string ⟨#[]⟩,.bool false,.int .i64 0,.string ⟨#[]⟩,.int .i64 0,.slice none 0 0,.slice none 0 0,.slice none 0 0] HROW.out ?_ ?_ ?_ ?_);(exact rfl);(exact rfl);(exact rfl);(exact rfl);(exact(by kernel_rfl));(exact(by kernel_rfl));(exact(one17 _ _ _ _ _ _ _ _ _ _ _ _ _ _ _ _ _ _ _ _ _ _ _ _ _ _ _ _ _));rw[setRow_self _ _ _ _ _ HROW.out]))
    try simp only[Exit.inBlock,Exit.then]
    refine bodyPost_ret (results_ct rfl _ _ w.heap.size 59 _ (0,0) _ rfl HBX.out Tryz.underlying59 rfl (by kernel_rfl)) rfl ?_
    refine⟨HC4.out,[.int .i64 2,.string X,.slice none 0 0,.slice none 0 0,.int .i64 tK,.string tX,.int .i64 tZ,.slice tA tm tc,.int .i64 0,.string ⟨#[]⟩,.bool false,.int .i64 0,.string ⟨#[]⟩,.int .i64 0,.slice none 0 0,.slice none 0 0,.slice none 0 0],⟨_,_,_,_,_,_,_,_,_,_,_,_,_,_,_,_,_,_,_,_,_,_,_,_,_,_,_,_,_,rfl⟩,?_⟩
    rcases HU.out with⟨rfl,hM⟩|⟨rfl,t,r,hM,ht,hx,hr⟩
    ·exact .inl ⟨hM,rfl⟩
    ·refine .inr ⟨_,r,hM,rfl,⟨tA,tc,by rw[ht];simp[exZl,Sx.strV],Args.keep (λg hg=>⟨by omega,by omega⟩) (λ_ _=>rfl) _ _ hx⟩,hr⟩
   | false =>
    rw[if_neg (by decide)]at hr3
    have HR:=hidE hr3
    have HM4:Hid (M=decH X.data.toList r2):=hidE (by rw[HM0.out,decG,HQ3.out,if_neg (by decide)])
    clear hr3
    have ht:=sx_signR S b r2 ⟨#[61]⟩ w3 HR.out (λg hg=>⟨(HS.out g hg).1,by have:=(HS.out g hg).2;omega⟩) HL.out
    rw[show(⟨#[61]⟩:ByteArray).data.toList=[61] from rfl,took]at ht
    obtain⟨q5,hq⟩:∃q,isHd r2 6 [61]=q:=⟨_,rfl⟩
    rw[hq]at ht
    have HT5:=hidE ht
    have HQ5:=hidE hq
    clear ht hq
    go_wp2_with fail
    refine HT5.out.mono ?_
    rintro e w5 ⟨rfl,hr5,c5⟩
    have hs5:=c5.size
    have HBK:=hidE (HBK.out.chgR c5 (by unfold only;omega))
    have HC:=hidE (HC.out.trans c5)
    clear c5 HT5
    cases q5 with
    | false =>
     have HM5:Hid (M=none):=hidE (by rw[HM4.out,decH,HQ5.out,if_neg (by decide)])
     clear hr5
     go_upto_region 12 with fail
     have HBX:=HBK
     have HROW:Hid (w5.heap[w.heap.size]? = some (.cells #[.int .i64 0,.string X,.slice none 0 0,.slice none 0 0,.int .i64 0,.string ⟨#[]⟩,.int .i64 0,.slice none 0 0,.int .i64 0,.string ⟨#[]⟩,.bool false,.int .i64 0,.string ⟨#[]⟩,.int .i64 0,.slice none 0 0,.slice none 0 0,.slice none 0 0] 59 (0,0))):=hidE HBX.out
     go_wp2_with (first|((with_reducible refine wpList_load_row ?_ 59 (.tmp 2) ?_ w.heap.size ?_ 59 _ (0,0) _ HROW.out Tryz.underlying59 ?_ ?_ ?_);(exact rfl);(exact rfl);(exact rfl);(exact rfl);(exact(by kernel_rfl)))|((with_reducible refine wpList_store_row ?_ 59 (.tmp 2) (.tmp 47) ?_ w.heap.size #[.int .i64 0,.string X,.slice none 0 0,.slice none 0 0,.int .i64 0,.string ⟨#[]⟩,.int .i64 0,.slice none 0 0,.int .i64 0,.string ⟨#[]⟩,.bool false,.int .i64 0,.string ⟨#[]⟩,.int .i64 0,.slice none 0 0,.slice none 0 0,.slice none 0 0] ?_ ?_ 59 #[.int .i64 0,.string X,.slice none 0 0,.slice none 0 0,.int .i64 0,.string ⟨#[]⟩,.int .i64 0,.slice none 0 0,.int .i64 0,.string ⟨#[]⟩,.bool false,.int .i64 0,.string ⟨#[]⟩,.int .i64 0,.slice none 0 0,.slice none 0 0,.slice none 0 0] HROW.out ?_ ?_ ?_ ?_);(exact rfl);(exact rfl);(exact rfl);(exact rfl);(exact(by kernel_rfl));(exact(by kernel_rfl));(exact(one17 _ _ _ _ _ _ _ _ _ _ _ _ _ _ _ _ _ _ _ _ _ _ _ _ _ _ _ _ _));rw[setRow_self _ _ _ _ _ HROW.out]))
     try simp only[Exit.inBlock,Exit.then]
     refine bodyPost_ret (results_ct rfl _ _ w.heap.size 59 _ (0,0) _ rfl HBX.out Tryz.underlying59 rfl (by kernel_rfl)) rfl ?_
     exact⟨HC.out,_,⟨_,_,_,_,_,_,_,_,_,_,_,_,_,_,_,_,_,_,_,_,_,_,_,_,_,_,_,_,_,rfl⟩,.inl ⟨HM5.out,rfl⟩⟩
    | true =>
     rw[if_pos rfl]at hr5
     obtain⟨⟨g0,g1,g2,g3,g4,g5,g6,g7,g8,g9,g10,g11,g12,g13,g14,g15,g16⟩,⟨z0,z1,z2,z3,z4,z5,z6,z7,z8,z9,z10,z11,z12,z13,z14,z15,z16⟩,hlg⟩:=blk_facts17 HBK.out
     obtain⟨W5,hW5⟩:∃W,w5.setCell ⟨w.heap.size,0,none⟩ (.int .i64 3)=W:=⟨_,rfl⟩
     have hs5':W5.heap.size=w5.heap.size:=by rw[<-hW5];simp
     have HBK:Hid (Blk W5 w.heap.size 59 #[.int .i64 3,.string X,.slice none 0 0,.slice none 0 0,.int .i64 0,.string ⟨#[]⟩,.int .i64 0,.slice none 0 0,.int .i64 0,.string ⟨#[]⟩,.bool false,.int .i64 0,.string ⟨#[]⟩,.int .i64 0,.slice none 0 0,.slice none 0 0,.slice none 0 0]):=hidE (hW5▸heap_setCell_same _ _ 0 _ _ _ HBK.out)
     have HC:Hid (ChR b w W5):=hidE (hW5▸HC.out.setCell (.inl (Nat.le_refl _)) _)
     have hE:=sx_expr S b (enoughE r2.tail) W5 r2.tail (show RdrS S W5 b r2.tail from hW5▸hr5.keep (Below.heap_setCell _ ⟨w.heap.size,0,none⟩ _ b (by intro e;simp at e;omega)) (λg hg=>Below.heap_setCell _ ⟨w.heap.size,0,none⟩ _ g (by intro e;simp at e;have:=(HS.out g hg).2;omega))) (λg hg=>⟨(HS.out g hg).1,by have:=(HS.out g hg).2;omega⟩) (AllG.tail' HG.out) (by have:=HL.out;simp;omega) (by unfold enoughE;omega)
     obtain⟨O9,hO9⟩:∃O,rdE (enoughE r2.tail) r2.tail=O:=⟨_,rfl⟩
     have HM9:Hid (M=O9.map λy=>(De.bind X.data.toList y.1,y.2)):=hidE (by rw[HM4.out,decH,HQ5.out,if_pos rfl,hO9])
     rw[hO9]at hE
     have HE:=hidE hE
     clear hr5 hE hO9
     go_upto_region 11 with fail
     try rw[hW5]
     clear hW5 g0 g1 g2 g3 g4 g5 g6 g7 g8 g9 g10 g11 g12 g13 g14 g15 g16 z0 z1 z2 z3 z4 z5 z6 z7 z8 z9 z10 z11 z12 z13 z14 z15 z16
     go_wp2_with fail
     refine HE.out.mono ?_
     rintro e w6 ⟨c6,cs,hsh,hcs⟩
     obtain⟨ck,cx,ct,cK,cX,cZ,cB,cm,cq,cKA,ckn,ckc,cLA,cln,clc,rfl⟩:=hsh
     have hs6:=c6.size
     have hbk:=HBK.out.chgR c6 (by unfold only;omega)
     obtain⟨⟨g0,g1,g2,g3,g4,g5,g6,g7,g8,g9,g10,g11,g12,g13,g14,g15,g16⟩,⟨z0,z1,z2,z3,z4,z5,z6,z7,z8,z9,z10,z11,z12,z13,z14,z15,z16⟩,hlg⟩:=blk_facts17 hbk
     obtain⟨W6,hW6⟩:∃W,(((((((((w6.setCell ⟨w.heap.size,8,none⟩ (.int .i64 ck)).setCell ⟨w.heap.size,9,none⟩ (.string cx)).setCell ⟨w.heap.size,10,none⟩ (.bool ct)).setCell ⟨w.heap.size,11,none⟩ (.int .i64 cK)).setCell ⟨w.heap.size,12,none⟩ (.string cX)).setCell ⟨w.heap.size,13,none⟩ (.int .i64 cZ)).setCell ⟨w.heap.size,14,none⟩ (.slice cB cm cq)).setCell ⟨w.heap.size,15,none⟩ (.slice cKA ckn ckc)).setCell ⟨w.heap.size,16,none⟩ (.slice cLA cln clc))=W:=⟨_,rfl⟩
     have hsW6:W6.heap.size=w6.heap.size:=hW6▸size_so17_8 w6 w.heap.size _ _ _ _ _ _ _ _ _
     have HFAR:Hid (∀k,k≠w.heap.size->W6.heap[k]? = w6.heap[k]?):=hidE λk hk=>hW6▸so17_8_far w6 w.heap.size k _ _ _ _ _ _ _ _ _ hk
     have HBX:Hid (Blk W6 w.heap.size 59 #[.int .i64 3,.string X,.slice none 0 0,.slice none 0 0,.int .i64 0,.string ⟨#[]⟩,.int .i64 0,.slice none 0 0,.int .i64 ck,.string cx,.bool ct,.int .i64 cK,.string cX,.int .i64 cZ,.slice cB cm cq,.slice cKA ckn ckc,.slice cLA cln clc]):=hidE (hW6▸blk_so17_8 _ _ _ _ _ _ _ _ _ hbk)
     have HC6:Hid (ChR b w W6):=hidE (hW6▸(HC.out.trans c6).so17_8 _ _ _ _ _ _ _ _ _ (Nat.le_refl _))
     have hU:∃ok,e=.returned (.tuple #[.agg #[.int .i64 ck,.string cx,.bool ct,.int .i64 cK,.string cX,.int .i64 cZ,.slice cB cm cq,.slice cKA ckn ckc,.slice cLA cln clc],.bool ok])/\((ok=false/\M=none)\/(ok=true/\∃y r,M=some (.bind X.data.toList y,r)/\pcE.Cs (λg=>w.heap.size<g/\g<w6.heap.size) W6 y [.int .i64 ck,.string cx,.bool ct,.int .i64 cK,.string cX,.int .i64 cZ,.slice cB cm cq,.slice cKA ckn ckc,.slice cLA cln clc]/\RdrS S W6 b r)):=by
      rcases hcs with⟨ho,he⟩|⟨y,r,ho,he,hx,hr⟩
      ·exact⟨false,he,.inl ⟨rfl,by rw[HM9.out,ho];rfl⟩⟩
      ·exact⟨true,he,.inr ⟨rfl,y,r,by rw[HM9.out,ho];rfl,pcE.keep (λg hg=>⟨by omega,hg.2⟩) (λg hg=>HFAR.out g (by omega)) hx,hr.keep (HFAR.out b (by omega)) (λk hk=>HFAR.out k (by have:=(HS.out k hk).2;omega))⟩⟩
     obtain⟨ok,rfl,hU⟩:=hU
     have HU:=hidE hU
     clear hbk c6 HE hcs hU
     go_upto_region 12 with fail
     try rw[hW6]
     clear hW6 g0 g1 g2 g3 g4 g5 g6 g7 g8 g9 g10 g11 g12 g13 g14 g15 g16 z0 z1 z2 z3 z4 z5 z6 z7 z8 z9 z10 z11 z12 z13 z14 z15 z16
     have HROW:Hid (W6.heap[w.heap.size]? = some (.cells #[.int .i64 3,.string X,.slice none 0 0,.slice none 0 0,.int .i64 0,.string ⟨#[]⟩,.int .i64 0,.slice none 0 0,.int .i64 ck,.string cx,.bool ct,.int .i64 cK,.string cX,.int .i64 cZ,.slice cB cm cq,.slice cKA ckn ckc,.slice cLA cln clc] 59 (0,0))):=hidE HBX.out
     go_wp2_with (first|((with_reducible refine wpList_load_row ?_ 59 (.tmp 2) ?_ w.heap.size ?_ 59 _ (0,0) _ HROW.out Tryz.underlying59 ?_ ?_ ?_);(exact rfl);(exact rfl);(exact rfl);(exact rfl);(exact(by kernel_rfl)))|((with_reducible refine wpList_store_row ?_ 59 (.tmp 2) (.tmp 47) ?_ w.heap.size #[.int .i64 3,.string X,.slice none 0 0,.slice none 0 0,.int .i64 0,.string ⟨#[]⟩,.int .i64 0,.slice none 0 0,.int .i64 ck,.string cx,.bool ct,.int .i64 cK,.string cX,.int .i64 cZ,.slice cB cm cq,.slice cKA ckn ckc,.slice cLA cln clc] ?_ ?_ 59 #[.int .i64 3,.string X,.slice none 0 0,.slice none 0 0,.int .i64 0,.string ⟨#[]⟩,.int .i64 0,.slice none 0 0,.int .i64 ck,.string cx,.bool ct,.int .i64 cK,.string cX,.int .i64 cZ,.slice cB cm cq,.slice cKA ckn ckc,.slice cLA cln clc] HROW.out ?_ ?_ ?_ ?_);(exact rfl);(exact rfl);(exact rfl);(exact rfl);(exact(by kernel_rfl));(exact(by kernel_rfl));(exact(one17 _ _ _ _ _ _ _ _ _ _ _ _ _ _ _ _ _ _ _ _ _ _ _ _ _ _ _ _ _));rw[setRow_self _ _ _ _ _ HROW.out]))
     try simp only[Exit.inBlock,Exit.then]
     refine bodyPost_ret (results_ct rfl _ _ w.heap.size 59 _ (0,0) _ rfl HBX.out Tryz.underlying59 rfl (by kernel_rfl)) rfl ?_
     refine⟨HC6.out,[.int .i64 3,.string X,.slice none 0 0,.slice none 0 0,.int .i64 0,.string ⟨#[]⟩,.int .i64 0,.slice none 0 0,.int .i64 ck,.string cx,.bool ct,.int .i64 cK,.string cX,.int .i64 cZ,.slice cB cm cq,.slice cKA ckn ckc,.slice cLA cln clc],⟨_,_,_,_,_,_,_,_,_,_,_,_,_,_,_,_,_,_,_,_,_,_,_,_,_,_,_,_,_,rfl⟩,?_⟩
     rcases HU.out with⟨rfl,hM⟩|⟨rfl,y,r,hM,hx,hr⟩
     ·exact .inl ⟨hM,rfl⟩
     ·obtain⟨P,hP,h2,h3⟩:=pcE.keep (S':=λg=>w.heap.size<=g/\g<W6.heap.size) (λg hg=>⟨by omega,by omega⟩) (λ_ _=>rfl) hx
      exact .inr ⟨_,r,hM,rfl,⟨P,by rw[<-hP];simp[tyZl,Sx.strV],h2,h3⟩,hr⟩
end Go.Proofs.YtknkclefoiohpaaGreatDoor
