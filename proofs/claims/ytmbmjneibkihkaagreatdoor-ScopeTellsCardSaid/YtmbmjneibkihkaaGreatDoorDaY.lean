/-
  Contracts of the code's functions, part 25.
-/
import Derived.Test.YtmbmjneibkihkaaGreatDoorDaX
import Derived.Test.YtmbmjneibkihkaaGreatDoorDaW
namespace Go.Proofs.YtmbmjneibkihkaaGreatDoor
open Go.RowKit Lx Tx Sx
set_option maxRecDepth 100000
theorem nmsIn_own {w:World} {B:Nat} {e:TypeId} {A:Option Addr} {n c:Nat} {names:List (List UInt8)}(h:w.ownsRow B e 1 (.slice A n c) n (strV names)):NmsIn (λg=>B<=g/\g<w.heap.size) w names A:=λhn=>by
 have hc:=λg hg=>h.cells (g:=g) hg
 have hlt:=h.lt
 have hl:=h.1
 rcases h.2 with⟨h3,h0⟩|⟨g,cap,cur,h3,_⟩
 ·subst h0
  exfalso
  rw[Nat.zero_mul]at hl
  have:names.length=0:=by simpa[strV] using hl
  exact hn (List.length_eq_zero_iff.1 this)
 ·injection h3 with e1 e2 e3
  subst e1
  refine⟨g,rfl,hlt g rfl,λj u hu=>?_⟩
  have hadd:(⟨g,0,none⟩:Addr).add j=⟨g,j,none⟩:=by unfold Addr.add;split <;> simp_all
  have:=hc g rfl j u hu
  rw[hadd]at this
  rw[Nat.zero_add];exact this
def altZ:Array Value:=#[.string ⟨#[]⟩,.slice none 0 0,.int .i64 0,.string ⟨#[]⟩,.bool false,.int .i64 0,.string ⟨#[]⟩,.int .i64 0,.slice none 0 0,.slice none 0 0,.slice none 0 0]
def altG(f:Nat)(x:Nm)(o:List Nm × List Tok):Option (Al × List Tok):=if isHd o.2 6 [45,62]=true then(rdE f o.2.tail).map λz=>(.mk x o.1 z.1,z.2) else none
theorem rdAlt_eq'(f:Nat)(l:List Tok):rdAlt f l=if(hd l).kind=2 then altG f (hd l).text (vars l.tail) else none:=rdAlt_eq f l
set_option maxHeartbeats 6400000 in
theorem sx_alternative(f:Nat)(S:Nat->Prop)(b:Nat)(l:List Tok)(w:World)(h:RdrS S w b l)(hS:∀g,S g->g≠b/\g<w.heap.size)(hG:AllG l)(hl:l.length<=100000)(hf:3*l.length<=f)
  (IH:GReads pcE shE S b 50 3 rdE f) :
  Calls Tryz.prog 141 #[.pointer (some ⟨b,0,none⟩)] w (GPost pcA shA S b w (rdAlt f l)):=by
 have hbl:=h.lt
 have hV:=sx_takeAnyR S b l 2 2 rfl (w.alloc (.cells altZ 174)) (h.alloc _ (λg hg=>(hS g hg).2)) (λg hg=>⟨(hS g hg).1,by have:=(hS g hg).2;simp;omega⟩) hl (by decide)
 unfold altZ at hV
 obtain⟨M,hM⟩:∃M,rdAlt f l=M:=⟨_,rfl⟩
 rw[hM]
 rw[rdAlt_eq']at hM
 obtain⟨q,hq⟩:∃q,((hd l).kind==2)=q:=⟨_,rfl⟩
 rw[hq]at hV
 obtain⟨X,hX⟩:∃X,anyT l 2=X:=⟨_,rfl⟩
 obtain⟨r2,hr2⟩:∃x,anyR l 2=x:=⟨_,rfl⟩
 rw[hX,hr2]at hV
 have HV:=hidE hV
 have HS:=hidE hS
 clear h hS hV
 cases q with
 | false =>
  have hk:¬(hd l).kind=2:=by simpa using hq
  rw[if_neg hk]at hM
  have HM:=hidE hM
  clear hk hq hf IH hG hl hM hX hr2
  go_enter Tryz.func141,Tryz.ntmps141
  go_wp2_with fail
  refine HV.out.mono ?_
  rintro e w1 ⟨rfl,r1,c1⟩
  have hs1:=c1.size
  simp at hs1
  have hbk:Blk w1 w.heap.size 174 altZ:=Blk.chgR (heap_alloc_new _ _) c1 (by unfold only;omega)
  unfold altZ at hbk
  obtain⟨⟨g0,g1,g2,g3,g4,g5,g6,g7,g8,g9,g10⟩,⟨z0,z1,z2,z3,z4,z5,z6,z7,z8,z9,z10⟩,hlw⟩:=blk_facts11 hbk
  have HBK:Hid (Blk (w1.setCell ⟨w.heap.size,0,none⟩ (.string X)) w.heap.size 174 #[.string X,.slice none 0 0,.int .i64 0,.string ⟨#[]⟩,.bool false,.int .i64 0,.string ⟨#[]⟩,.int .i64 0,.slice none 0 0,.slice none 0 0,.slice none 0 0]):=hidE (heap_setCell_same _ _ 0 _ _ _ hbk)
  have HC:=hidE c1.pre
  clear hbk c1 r1 HV
  go_wp2_with fail
  try simp only[Exit.inBlock,Exit.then]
  refine bodyPost_ret (results_ct rfl _ _ w.heap.size 174 _ (0,0) _ rfl (blk_set11 _ _ _ _ _ _ _ _ _ _ _ HBK.out) Tryz.underlying174 rfl (by kernel_rfl)) rfl ?_
  exact⟨(HC.out.setCell (.inl (Nat.le_refl _)) _).set11 _ _ _ _ _ _ _ _ _ _ _ (Nat.le_refl _),_,⟨_,_,_,_,_,_,_,_,_,_,_,_,_,_,_,_,_,_,_,rfl⟩,.inl ⟨HM.out.symm,rfl⟩⟩
 | true =>
  have hk:(hd l).kind=2:=by simpa using hq
  have hX2:(hd l).text=X.data.toList:=by rw[<-hX,anyT,if_pos hk]
  have hr3:l.tail=r2:=by rw[<-hr2,anyR,if_pos hk]
  rw[if_pos hk,hX2,hr3]at hM
  obtain⟨l',e1,e2⟩:=hd_cons (l:=l) (by rw[hk];decide)
  rw[hr3]at e2
  have hln:r2.length+1=l.length:=by rw[e1,e2];rfl
  have hG2:AllG r2:=by rw[<-hr3];exact AllG.tail' hG
  obtain⟨v1,v2,v3⟩:=vars_spec r2 hG2
  obtain⟨⟨ns,r3⟩,hV2⟩:∃o,vars r2=o:=⟨_,rfl⟩
  have hVR:=λ(W:World) (hr:RdrS S W b r2) (hw:w.heap.size<=W.heap.size)=>sx_variablesR S b r2 W hr (λg hg=>⟨(HS.out g hg).1,by have:=(HS.out g hg).2;omega⟩) (by omega)
  rw[hV2]at hM v2 v3 hVR
  have HM:=hidE hM
  have HVR:=hidE hVR
  have HIH:=hidE IH
  have HG3:Hid (AllG r3):=hidE v2
  have HL3:Hid (r3.length<=100000/\3*r3.length+3<=f/\ns.length<=100000):=hidE (by have:=v3;simp only at this;omega)
  clear hk hq IH hG hl hf hX hr2 hX2 hr3 e1 e2 hln hG2 hM hVR hV2 v1 v2 v3
  go_enter Tryz.func141,Tryz.ntmps141
  go_wp2_with fail
  refine HV.out.mono ?_
  rintro e w1 ⟨rfl,r1,c1⟩
  have hs1:=c1.size
  simp at hs1
  have hbk:Blk w1 w.heap.size 174 altZ:=Blk.chgR (heap_alloc_new _ _) c1 (by unfold only;omega)
  unfold altZ at hbk
  obtain⟨⟨g0,g1,g2,g3,g4,g5,g6,g7,g8,g9,g10⟩,⟨z0,z1,z2,z3,z4,z5,z6,z7,z8,z9,z10⟩,hlw⟩:=blk_facts11 hbk
  obtain⟨W1,hW1⟩:∃W,w1.setCell ⟨w.heap.size,0,none⟩ (.string X)=W:=⟨_,rfl⟩
  have hs1':W1.heap.size=w1.heap.size:=by rw[<-hW1];simp
  have HB1:Hid (Blk W1 w.heap.size 174 #[.string X,.slice none 0 0,.int .i64 0,.string ⟨#[]⟩,.bool false,.int .i64 0,.string ⟨#[]⟩,.int .i64 0,.slice none 0 0,.slice none 0 0,.slice none 0 0]):=hidE (hW1▸heap_setCell_same _ _ 0 _ _ _ hbk)
  have HC1:Hid (ChR b w W1):=hidE (hW1▸c1.pre.setCell (.inl (Nat.le_refl _)) _)
  have HR1:RdrS S W1 b r2:=hW1▸r1.keep (Below.heap_setCell _ ⟨w.heap.size,0,none⟩ _ b (by intro e;simp at e;omega)) (λg hg=>Below.heap_setCell _ ⟨w.heap.size,0,none⟩ _ g (by intro e;simp at e;have:=(HS.out g hg).2;omega))
  have HP:=hidE (HVR.out W1 HR1 (by omega))
  clear hbk c1 r1 HV HVR HR1
  go_upto_region 4 with fail
  try rw[hW1]
  clear hW1 g0 g1 g2 g3 g4 g5 g6 g7 g8 g9 g10 z0 z1 z2 z3 z4 z5 z6 z7 z8 z9 z10
  go_wp2_with fail
  refine HP.out.mono ?_
  rintro e w2 ⟨V,c,rfl,hown,hr2,c2⟩
  have hs2:=c2.size
  try simp only at hown
  obtain⟨n,hn⟩:∃n,ns.length=n:=⟨_,rfl⟩
  rw[hn]at hown
  have HN:=hidE hn
  have hb2:=HB1.out.chgR c2 (by unfold only;omega)
  obtain⟨⟨g0,g1,g2,g3,g4,g5,g6,g7,g8,g9,g10⟩,⟨z0,z1,z2,z3,z4,z5,z6,z7,z8,z9,z10⟩,hlw2⟩:=blk_facts11 hb2
  obtain⟨W2,hW2⟩:∃W,w2.setCell ⟨w.heap.size,1,none⟩ (.slice V n c)=W:=⟨_,rfl⟩
  have hs2':W2.heap.size=w2.heap.size:=by rw[<-hW2];simp
  have HB2:Hid (Blk W2 w.heap.size 174 #[.string X,.slice V n c,.int .i64 0,.string ⟨#[]⟩,.bool false,.int .i64 0,.string ⟨#[]⟩,.int .i64 0,.slice none 0 0,.slice none 0 0,.slice none 0 0]):=hidE (hW2▸heap_setCell_same _ _ 1 _ _ _ hb2)
  have HC2:Hid (ChR b w W2):=hidE (hW2▸(HC1.out.trans c2).setCell (.inl (Nat.le_refl _)) _)
  have hR2:RdrS S W2 b r3:=hW2▸hr2.keep (Below.heap_setCell _ ⟨w.heap.size,1,none⟩ _ b (by intro e;simp at e;omega)) (λg hg=>Below.heap_setCell _ ⟨w.heap.size,1,none⟩ _ g (by intro e;simp at e;have:=(HS.out g hg).2;omega))
  have HNM:Hid (NmsIn (λg=>w.heap.size<g/\g<w2.heap.size) W2 ns V):=hidE ((nmsIn_own hown).keep (λg hg=>⟨by omega,hg.2⟩) (λg hg=>hW2▸Below.heap_setCell _ ⟨w.heap.size,1,none⟩ _ g (by intro e;simp at e;omega)))
  have hSG:=sx_signR S b r3 ⟨#[45,62]⟩ W2 hR2 (λg hg=>⟨(HS.out g hg).1,by have:=(HS.out g hg).2;omega⟩) HL3.out.1
  rw[show(⟨#[45,62]⟩:ByteArray).data.toList=[45,62] from rfl,took]at hSG
  obtain⟨q2,hq2⟩:∃q,isHd r3 6 [45,62]=q:=⟨_,rfl⟩
  rw[hq2]at hSG
  have HSG:=hidE hSG
  have HQ2:=hidE hq2
  clear hb2 c2 hr2 hR2 hown hn hSG hq2 HP HB1 HC1
  go_upto_region 5 with fail
  rw[HN.out]
  try rw[hW2]
  clear hW2 g0 g1 g2 g3 g4 g5 g6 g7 g8 g9 g10 z0 z1 z2 z3 z4 z5 z6 z7 z8 z9 z10
  go_wp2_with fail
  refine HSG.out.mono ?_
  rintro e w3 ⟨rfl,hr3,c3⟩
  have hs3:=c3.size
  have hb3:=HB2.out.chgR c3 (by unfold only;omega)
  have HB3:=hidE hb3
  have HC3:=hidE (HC2.out.trans c3)
  have HNM:=hidE (HNM.out.keep (λg hg=>hg) (λg hg=>c3.block g (by omega) (by unfold only;omega)))
  obtain⟨⟨g0,g1,g2,g3,g4,g5,g6,g7,g8,g9,g10⟩,⟨z0,z1,z2,z3,z4,z5,z6,z7,z8,z9,z10⟩,hlw3⟩:=blk_facts11 hb3
  clear hb3 c3 HSG
  cases q2 with
  | false =>
   have HM2:Hid (M=none):=hidE (by rw[<-HM.out,altG,HQ2.out,if_neg (by decide)])
   clear hr3
   go_wp2_with fail
   try simp only[Exit.inBlock,Exit.then]
   refine bodyPost_ret (results_ct rfl _ _ w.heap.size 174 _ (0,0) _ rfl (blk_set11 _ _ _ _ _ _ _ _ _ _ _ HB3.out) Tryz.underlying174 rfl (by kernel_rfl)) rfl ?_
   exact⟨HC3.out.set11 _ _ _ _ _ _ _ _ _ _ _ (Nat.le_refl _),_,⟨_,_,_,_,_,_,_,_,_,_,_,_,_,_,_,_,_,_,_,rfl⟩,.inl ⟨HM2.out,rfl⟩⟩
  | true =>
   rw[if_pos rfl]at hr3
   obtain⟨t0,r0,e0,-,-⟩:=isHd_ne r3 6 [45,62] (by decide) HQ2.out
   have hE:=HIH.out w3 r3.tail hr3 (λg hg=>⟨(HS.out g hg).1,by have:=(HS.out g hg).2;omega⟩) (AllG.tail' HG3.out) (by have:=HL3.out.1;rw[e0]at this ⊢;simp at this ⊢;omega) (by have:=HL3.out.2.1;rw[e0]at this ⊢;simp at this ⊢;omega)
   have HM2:Hid (M=(rdE f r3.tail).map λz=>(Al.mk X.data.toList ns z.1,z.2)):=hidE (by rw[<-HM.out,altG,HQ2.out,if_pos rfl])
   obtain⟨O,hO⟩:∃O,rdE f r3.tail=O:=⟨_,rfl⟩
   rw[hO]at hE HM2
   have HE:=hidE hE
   clear hr3 e0 hE hO g0 g1 g2 g3 g4 g5 g6 g7 g8 g9 g10 z0 z1 z2 z3 z4 z5 z6 z7 z8 z9 z10
   go_wp2_with fail
   refine HE.out.mono ?_
   rintro e w4 ⟨c4,cs,hsh,hcs⟩
   obtain⟨ck,cx,ct,cK,cX,cZ,cB,cm,cq,cKA,ckn,ckc,cLA,cln,clc,rfl⟩:=hsh
   have hs4:=c4.size
   have hb4:=HB3.out.chgR c4 (by unfold only;omega)
   obtain⟨⟨g0,g1,g2,g3,g4,g5,g6,g7,g8,g9,g10⟩,⟨z0,z1,z2,z3,z4,z5,z6,z7,z8,z9,z10⟩,hlw4⟩:=blk_facts11 hb4
   obtain⟨W4,hW4⟩:∃W,(((((((((w4.setCell ⟨w.heap.size,2,none⟩ (.int .i64 ck)).setCell ⟨w.heap.size,3,none⟩ (.string cx)).setCell ⟨w.heap.size,4,none⟩ (.bool ct)).setCell ⟨w.heap.size,5,none⟩ (.int .i64 cK)).setCell ⟨w.heap.size,6,none⟩ (.string cX)).setCell ⟨w.heap.size,7,none⟩ (.int .i64 cZ)).setCell ⟨w.heap.size,8,none⟩ (.slice cB cm cq)).setCell ⟨w.heap.size,9,none⟩ (.slice cKA ckn ckc)).setCell ⟨w.heap.size,10,none⟩ (.slice cLA cln clc))=W:=⟨_,rfl⟩
   have hfar:∀k,k≠w.heap.size->W4.heap[k]? = w4.heap[k]?:=λk hk=>hW4▸so11_2_far w4 w.heap.size k _ _ _ _ _ _ _ _ _ hk
   have hsz4:W4.heap.size=w4.heap.size:=hW4▸size_so11_2 w4 w.heap.size _ _ _ _ _ _ _ _ _
   have hB4:Blk W4 w.heap.size 174 #[.string X,.slice V n c,.int .i64 ck,.string cx,.bool ct,.int .i64 cK,.string cX,.int .i64 cZ,.slice cB cm cq,.slice cKA ckn ckc,.slice cLA cln clc]:=hW4▸blk_so11_2 _ _ _ _ _ _ _ _ _ hb4
   have hC4:ChR b w W4:=hW4▸(HC3.out.trans c4).so11_2 _ _ _ _ _ _ _ _ _ (Nat.le_refl _)
   have HB4:=hidE hB4
   have HC4:=hidE hC4
   have HNM:=hidE (HNM.out.keep (λg hg=>hg) (λg hg=>(hfar g (by omega)).trans (c4.block g (by omega) (by unfold only;omega))))
   have HFAR:=hidE hfar
   clear hb4 c4 HE hfar hB4 hC4
   have hU:∃ok,e=.returned (.tuple #[.agg #[.int .i64 ck,.string cx,.bool ct,.int .i64 cK,.string cX,.int .i64 cZ,.slice cB cm cq,.slice cKA ckn ckc,.slice cLA cln clc],.bool ok])/\((ok=false/\M=none)\/(ok=true/\∃y r,M=some (.mk X.data.toList ns y,r) /\
     pcE.Cs (λg=>w3.heap.size<=g/\g<w4.heap.size) w4 y [.int .i64 ck,.string cx,.bool ct,.int .i64 cK,.string cX,.int .i64 cZ,.slice cB cm cq,.slice cKA ckn ckc,.slice cLA cln clc]/\RdrS S w4 b r)):=by
    rcases hcs with⟨ho,he⟩|⟨y,r,ho,he,hx,hr⟩
    ·exact⟨false,he,.inl ⟨rfl,by rw[HM2.out,ho];rfl⟩⟩
    ·exact⟨true,he,.inr ⟨rfl,y,r,by rw[HM2.out,ho];rfl,hx,hr⟩⟩
   obtain⟨ok,rfl,hU⟩:=hU
   have HU:=hidE hU
   clear hU hcs
   go_upto_region 8 with fail
   try rw[hW4]
   clear hW4 g0 g1 g2 g3 g4 g5 g6 g7 g8 g9 g10 z0 z1 z2 z3 z4 z5 z6 z7 z8 z9 z10
   obtain⟨⟨g0,g1,g2,g3,g4,g5,g6,g7,g8,g9,g10⟩,⟨z0,z1,z2,z3,z4,z5,z6,z7,z8,z9,z10⟩,hlw5⟩:=blk_facts11 HB4.out
   go_wp2_with fail
   try simp only[Exit.inBlock,Exit.then]
   refine bodyPost_ret (results_ct rfl _ _ w.heap.size 174 _ (0,0) _ rfl (blk_set11 _ _ _ _ _ _ _ _ _ _ _ HB4.out) Tryz.underlying174 rfl (by kernel_rfl)) rfl ?_
   refine⟨HC4.out.set11 _ _ _ _ _ _ _ _ _ _ _ (Nat.le_refl _),[.string X,.slice V n c,.int .i64 ck,.string cx,.bool ct,.int .i64 cK,.string cX,.int .i64 cZ,.slice cB cm cq,.slice cKA ckn ckc,.slice cLA cln clc],⟨_,_,_,_,_,_,_,_,_,_,_,_,_,_,_,_,_,_,_,rfl⟩,?_⟩
   rcases HU.out with⟨rfl,hM⟩|⟨rfl,y,r,hM,hx,hr⟩
   ·exact .inl ⟨hM,rfl⟩
   ·refine .inr ⟨_,r,hM,rfl,?_,hr.keep ((set11_far _ _ _ _ _ _ _ _ _ _ _ _ _ _ (by omega)).trans (HFAR.out _ (by omega))) (λk hk=>(set11_far _ _ _ _ _ _ _ _ _ _ _ _ _ _ (by have:=(HS.out k hk).2;omega)).trans (HFAR.out _ (by have:=(HS.out k hk).2;omega)))⟩
    obtain⟨P,hP,h2,h3⟩:=pcE.keep (S':=λg=>w.heap.size<g/\g<w4.heap.size) (λg hg=>⟨by omega,hg.2⟩) (λ_ _=>rfl) hx
    have hk:∀g,(w.heap.size<g/\g<w4.heap.size)->_:=λg hg=>(set11_far W4 w.heap.size g (.string X) (.slice V n c) (.int .i64 ck) (.string cx) (.bool ct) (.int .i64 cK) (.string cX) (.int .i64 cZ) (.slice cB cm cq) (.slice cKA ckn ckc) (.slice cLA cln clc) (by omega)).trans (HFAR.out g (by omega))
    refine⟨V,c,P,by rw[alC,<-hP,HN.out];simp[Sx.strV],(HNM.out.keep (λg hg=>⟨by omega,by rw[size_set11];omega⟩) (λg hg=>set11_far _ _ _ _ _ _ _ _ _ _ _ _ _ _ (by omega))),h2.keep (λg hg=>⟨by omega,by rw[size_set11];omega⟩) hk,ExIn.keep (λg hg=>⟨by omega,by rw[size_set11];omega⟩) hk y _ _ h3⟩
end Go.Proofs.YtmbmjneibkihkaaGreatDoor

namespace Go.Proofs.YtmbmjneibkihkaaGreatDoor
open Go.RowKit Lx Tx Sx
set_option maxRecDepth 100000
set_option maxHeartbeats 400000 in
theorem nx_sepA(S:Nat->Prop)(b bx:Nat)(l:List Tok)(w:World)(h:RdrS S w b l)(hbx:w.cell? ⟨bx,0,none⟩=some (.pointer (some ⟨b,0,none⟩)))(hS:∀g,S g->g≠b/\g<w.heap.size)(hl:l.length<=100000) :
  Calls Tryz.prog 190 #[.pointer (some ⟨bx,0,none⟩)] w λe w'=>e=.returned (.bool (semB l))/\RdrS S w' b (if semB l=true then l.tail else l)/\ChR b w w':=by
 have HT:=hidE (sx_signR S b l ⟨#[59]⟩ w h hS hl)
 rw[show(⟨#[59]⟩:ByteArray).data.toList=[59] from rfl,took]at HT
 unfold semB
 obtain⟨q,hq⟩:∃q,isHd l 6 [59]=q:=⟨_,rfl⟩
 rw[hq]at HT ⊢
 obtain⟨L2,hL2⟩:∃x,(if q=true then l.tail else l)=x:=⟨_,rfl⟩
 rw[hL2]at HT ⊢
 have hbl:=lt_cell hbx
 have hb:=h.lt
 clear h hS hl hq hL2
 go_enter Tryz.func190,Tryz.ntmps190
 go_wp2_with fail
 refine HT.out.mono ?_
 rintro e w1 ⟨rfl,r1,b1⟩
 have R1:=hidE r1
 have B1:=hidE b1
 clear r1 b1 HT
 go_wp2_with fail
 go_ret
 exact⟨rfl,R1.out,B1.out⟩
theorem infoA:(Tryz.prog.info? 174).map (λi=>(i.zero,i.size,i.bytes))=some (some (.agg #[.string ⟨#[]⟩,.slice none 0 0,.int .i64 0,.string ⟨#[]⟩,.bool false,.int .i64 0,.string ⟨#[]⟩,.int .i64 0,.slice none 0 0,.slice none 0 0,.slice none 0 0]),11,176):=by kernel_rfl
set_option maxHeartbeats 3200000 in
theorem sx_longerA(f:Nat)(S:Nat->Prop)(b:Nat)(l:List Tok)(w0 w:World)(x0:Al)(g0 bx:Nat)(hbx:w0.cell? ⟨bx,0,none⟩=some (.pointer (some ⟨b,0,none⟩)))(hbb:bx≠b)(h0:BuiltG pcA w0.heap.size 174 w [x0] (.slice (some ⟨g0,0,none⟩) 1 1))(h:RdrS S w b l)(hS:∀g,S g->g≠b/\g<w0.heap.size)(hb:b<w0.heap.size)(hc0:ChR b w0 w)(hG:AllG l)(hl:l.length<=100000)(hf:3*l.length+1<=f)
  (IH:∀f1,f1<=f->GReads pcA shA S b 141 0 rdAlt f1)(hrd:∀(f1:Nat)(l:List Tok)(x:Al)(r:List Tok),AllG l->rdAlt f1 l=some (x,r)->AllG r/\r.length<l.length) :
  Calls Tryz.prog 189 #[.slice (some ⟨g0,0,none⟩) 1 1,.func (.func 190) #[] #[.pointer (some ⟨bx,0,none⟩)],.func (.func 141) #[.pointer (some ⟨b,0,none⟩)] #[]] w
   (LPost pcA S b w0 ((manyF semB List.tail rdAlt f l).map λy=>([x0]++y.1,y.2))):=by
 obtain⟨i0,hi0,hz0,hz1,hz2⟩:=info_parts infoA
 have hbl:=lt_cell hbx
 have hcell:∀wr,ChR b w0 wr->wr.cell? ⟨bx,0,none⟩=some (.pointer (some ⟨b,0,none⟩)):=λwr h=>(World.cell?_of_block (a:=⟨bx,0,none⟩) (h.block bx hbl (by unfold only;omega))).trans hbx
 have HCELL:=hidE hcell
 obtain⟨L,hL⟩:∃L,l.length=L:=⟨_,rfl⟩
 have HL:=hidE hL
 have HS:=hidE hS
 have HIH:=hidE IH
 have HRD:=hidE hrd
 have HH:Hid (HeadG pcA semB List.tail rdAlt S b w0.heap.size 1 f 174 [x0] l w0 L (.slice (some ⟨g0,0,none⟩) 1 1) w):=hidE ⟨l,f,[],some ⟨g0,0,none⟩,1,hL.symm,rfl,hG,by simp,hf,Nat.le_refl _,hidE h,hidE (by simp),hidE (by rw[List.append_nil];exact h0),hidE hc0⟩
 rw[hL]at hl hf
 clear h hS hL IH hrd hc0 h0 hbx hcell
 go_enter Tryz.func189,Tryz.ntmps189
 go_wp2_with fail
 go_loopg [0] L (λgg v wr=>HeadG pcA semB List.tail rdAlt S b w0.heap.size 1 f 174 [x0] l w0 gg v wr)
 case atStart=>exact HH.out
 case round =>
  obtain⟨r,f',done,A,c,rfl,rfl,hG',hle,hf1,hf2,hr,hv,hbu,hc⟩:=hrel
  rw[HL.out]at hle
  have hsz:=hc.out.size
  obtain⟨f1,rfl⟩:∃f1,f'=f1+1:=⟨f'-1,by omega⟩
  obtain⟨n,hn⟩:∃n,([x0]++done).length=n:=⟨_,rfl⟩
  have hn':n<=1+done.length:=by rw[<-hn];simp <;> omega
  rw[hn]at hbu ⊢
  have HN:=hidE hn
  obtain⟨rn,hrn⟩:∃n,r.length=n:=⟨_,rfl⟩
  have HRN:=hidE hrn
  rw[hrn]at hle hf1
  have hA:=hidE (nx_sepA S b bx r wr hr.out (HCELL.out wr hc.out) (λg hg=>⟨(HS.out g hg).1,by have:=(HS.out g hg).2;omega⟩) (by rw[hrn];omega))
  have HG':=hidE hG'
  clear hn hrn HH hG'
  obtain⟨q,hq⟩:∃q,semB r=q:=⟨_,rfl⟩
  rw[hq]at hA
  have HQ:=hidE hq
  clear hq
  go_wp2_with fail
  refine hA.out.mono ?_
  rintro e w2 ⟨rfl,hr2,c2⟩
  have hs2:=c2.size
  have HC2:=hidE (hc.out.trans c2)
  have HBU:=hidE (hbu.out.chgR c2 hb)
  clear c2 hA hbu
  cases q with
  | false =>
   rw[if_neg (by decide)]at hr2
   have HR2:=hidE hr2
   have HV:=hidE (hv.out.trans (congrArg (Option.map λy:List Al × List Tok=>(done++y.1,y.2)) (many_end f1 r HQ.out)))
   clear hr2 hv
   go_wp2_with fail
   go_ret2
   refine⟨HC2.out,A,n,c,.inr ⟨[x0]++done,r,by rw[HV.out];simp,rfl,HN.out.symm,HBU.out.lst.2,HR2.out⟩⟩
  | true =>
   rw[if_pos rfl]at hr2
   obtain⟨hg2,hl2,hf3⟩:=nx_sep_af r HG'.out HQ.out
   rw[HRN.out]at hl2 hf3
   have HP:=hidE (HIH.out f1 (by omega) w2 _ hr2 (λg hg=>⟨(HS.out g hg).1,by have:=(HS.out g hg).2;omega⟩) hg2 (by omega) (by omega))
   obtain⟨O,hO⟩:∃O,rdAlt f1 (List.tail r)=O:=⟨_,rfl⟩
   have HO:=hidE hO
   have HG2:=hidE hg2
   rw[hO]at HP
   clear hr2 hg2 hO
   go_wp2_with fail
   refine HP.out.mono ?_
   rintro e w3 ⟨c3,cs,hsh,hcs⟩
   obtain⟨s,V,vm,vq,ek,ex,et,tk,tx,tz,tA,tm,tq,KA,kn,kc,LA,ln,lc,rfl⟩:=hsh
   have hs3:=c3.size
   rcases hcs with⟨ho,rfl⟩|⟨px,r2,ho,rfl,hx,hr3⟩
   ·have HV:=hidE (hv.out.trans (congrArg (Option.map λy:List Al × List Tok=>(done++y.1,y.2)) (many_no f1 r HQ.out (HO.out.trans ho))))
    have HC3:=hidE (HC2.out.trans c3)
    clear hv ho c3 HP
    go_wp2_with fail
    go_ret2
    exact⟨HC3.out.alloc _,none,0,0,.inl ⟨by rw[HV.out];rfl,rfl⟩⟩
   ·have HV:=hidE (hv.out.trans (congrArg (Option.map λy:List Al × List Tok=>(done++y.1,y.2)) (many_yes f1 r HQ.out px r2 (HO.out.trans ho))))
    have hg3:=HRD.out f1 _ px r2 HG2.out (HO.out.trans ho)
    have hlr:=hg3.2
    have HG3:=hidE hg3.1
    have HX:=hidE hx
    have HR3:=hidE hr3
    have C3:=hidE c3
    obtain⟨vs,hown,hrow⟩:=HBU.out
    rw[HN.out]at hown
    have HOWN:=hidE hown
    have HROW:=hidE hrow
    have hown3:=own_chgR hown c3 hb
    have HLT:=hown3.lt
    have HO3:=hidE ((hown3.alloc (.cells #[.string s,.slice V vm vq,.int .i64 ek,.string ex,.bool et,.int .i64 tk,.string tx,.int .i64 tz,.slice tA tm tq,.slice KA kn kc,.slice LA ln lc] 174)).alloc (.cells #[.string s,.slice V vm vq,.int .i64 ek,.string ex,.bool et,.int .i64 tk,.string tx,.int .i64 tz,.slice tA tm tq,.slice KA kn kc,.slice LA ln lc] 174))
    clear hv ho c3 HP hg3 hx hr3 hown hrow hown3 HBU
    go_wp2_with (at_builtin;refine wpList_append_own_at _ rfl (.tmp 25) (.tmp 27) 37 rfl w0.heap.size 174 i0 _ 11 176 Tryz.underlying37 hi0 hz0 hz1 hz2 rfl (by decide) _ n vs rfl HO3.out ⟨w3.heap.size+1,0,none⟩ 1 1 [.string s,.slice V vm vq,.int .i64 ek,.string ex,.bool et,.int .i64 tk,.string tx,.int .i64 tz,.slice tA tm tq,.slice KA kn kc,.slice LA ln lc] rfl rfl (new_cells' _ _ _ _ (by simp)) (by intro u hu;simp at hu;rcases hu with rfl|rfl|rfl|rfl|rfl|rfl|rfl|rfl|rfl|rfl|rfl <;> rfl) (by unfold maxLen;omega) (by omega) (by simp;omega) ?_;intro v2 w5 hown5 hgrow _ hat5;obtain⟨A2,c2,rfl⟩:=own_shape hown5;have HO5:=hidE hown5;have HG5:=hidE hgrow;have HT5:=hidE hat5;clear hown5 hgrow hat5)
    have hs5:=HG5.out.size
    simp at hs5
    have hk5:∀k,k<w0.heap.size->w5.heap[k]? = w3.heap[k]?:=λk hk=>(HG5.out.block k (by simp;omega) (λe=>by have:=HLT _ e.symm;omega)).trans ((Below.heap_alloc _ _ _ (by simp;omega)).trans (Below.heap_alloc _ _ _ (by omega)))
    go_roundg r2.length
    case measure=>rw[HRN.out];omega
    case rel =>
     refine⟨r2,f1,done++[px],A2,c2,rfl,?_,HG3.out,?_,by omega,by omega,hidE (HR3.out.keep (hk5 b hb) (λg hg=>hk5 g (HS.out g hg).2)),hidE ?_,hidE ?_,hidE ((((HC2.out.trans C3.out).alloc _).alloc _).grown HG5.out (λj hj=>.inl (by have:=HLT _ hj;omega)))⟩
     ·rw[<-List.append_assoc,List.length_append,HN.out];rfl
     ·rw[List.length_append,HL.out];simp;omega
     ·rw[HV.out];simp[Function.comp_def]
     ·rw[<-List.append_assoc,show([x0]++done++[px]).length=n+1 by rw[List.length_append,HN.out];rfl]
      exact BuiltG.next (w:=w2) (w1:=w3) hb (by omega) (by rw[HN.out];exact HOWN.out) HROW.out C3.out HX.out (((Below.refl _ w3).alloc (Nat.le_refl _) _).alloc (by simp) _) (by rw[HN.out];exact HO5.out) HG5.out HT5.out
end Go.Proofs.YtmbmjneibkihkaaGreatDoor

namespace Go.Proofs.YtmbmjneibkihkaaGreatDoor
open Go.RowKit Lx Tx Sx
set_option maxRecDepth 100000
set_option maxHeartbeats 3200000 in
theorem sx_separatedA(f:Nat)(S:Nat->Prop)(b:Nat)(l:List Tok)(w:World)(h:RdrS S w b l)(hS:∀g,S g->g≠b/\g<w.heap.size)(hG:AllG l)(hl:l.length<=100000)(hf:3*l.length<=f)
  (IH:∀f1,f1<=f->GReads pcA shA S b 141 0 rdAlt f1)(hrd:∀(f1:Nat)(l:List Tok)(x:Al)(r:List Tok),AllG l->rdAlt f1 l=some (x,r)->AllG r/\r.length<l.length) :
  Calls Tryz.prog 170 #[.pointer (some ⟨b,0,none⟩),.func (.func 141) #[.pointer (some ⟨b,0,none⟩)] #[]] w (LPost pcA S b w (sepM rdAlt f l)):=by
 have hbl:=h.lt
 obtain⟨w0,hw0⟩:∃x,w.alloc (.cells #[.pointer (some ⟨b,0,none⟩)] 148)=x:=⟨_,rfl⟩
 have z0:w0.heap.size=w.heap.size+1:=by rw[<-hw0];simp
 have hb0:w0.cell? ⟨w.heap.size,0,none⟩=some (.pointer (some ⟨b,0,none⟩)):=by
  have hB:Blk w0 w.heap.size 148 #[.pointer (some ⟨b,0,none⟩)]:=hw0▸heap_alloc_new w _
  exact hB.cell 0
 have c0:ChR b w w0:=hw0▸(ChR.refl b w).alloc _
 have h0:RdrS S w0 b l:=hw0▸h.alloc _ (λg hg=>(hS g hg).2)
 have hS0:∀g,S g->g≠b/\g<w0.heap.size:=λg hg=>⟨(hS g hg).1,by have:=(hS g hg).2;omega⟩
 have HC0:=hidE c0
 have HB0:=hidE hb0
 have HP:=hidE (IH f (Nat.le_refl _) w0 l h0 hS0 hG hl (by omega))
 obtain⟨O,hO⟩:∃O,rdAlt f l=O:=⟨_,rfl⟩
 rw[hO]at HP
 have HO:=hidE hO
 obtain⟨M,hM⟩:∃M,sepM rdAlt f l=M:=⟨_,rfl⟩
 rw[hM]
 have HM:=hidE hM
 clear hM
 have HS:=hidE hS0
 have HIH:=hidE IH
 have HRD:=hidE hrd
 have HG:=hidE hG
 clear h h0 hO hS hS0 IH hrd hG c0
 go_enter Tryz.func170,Tryz.ntmps170
 go_wp2_with fail
 try rw[hw0]
 refine HP.out.mono ?_
 clear hw0 hb0
 rintro e w2 ⟨c2,cs,hsh,hcs⟩
 obtain⟨s,V,vm,vq,ek,ex,et,tk,tx,tz,tA,tm,tq,KA,kn,kc,LA,ln,lc,rfl⟩:=hsh
 have hs2:=c2.size
 clear HP
 rcases hcs with⟨ho,rfl⟩|⟨px,r2,ho,rfl,hx,hr2⟩
 ·have HO2:Hid (M=none):=hidE (by rw[<-HM.out,sepM,HO.out,ho])
  have C2:=hidE c2
  clear ho c2
  go_wp2_with fail
  go_ret2
  exact LPost.pre HC0.out ⟨C2.out.alloc _,none,0,0,.inl ⟨HO2.out,rfl⟩⟩
 ·subst ho
  have hg2:=HRD.out f l px r2 HG.out HO.out
  have hlr:=hg2.2
  have HQ:=hidE (sx_longerA f S b r2 w0 ((w2.alloc (.cells #[.string s,.slice V vm vq,.int .i64 ek,.string ex,.bool et,.int .i64 tk,.string tx,.int .i64 tz,.slice tA tm tq,.slice KA kn kc,.slice LA ln lc] 174)).alloc (.cells #[.string s,.slice V vm vq,.int .i64 ek,.string ex,.bool et,.int .i64 tk,.string tx,.int .i64 tz,.slice tA tm tq,.slice KA kn kc,.slice LA ln lc] 174)) px (w2.heap.size+1) w.heap.size HB0.out (by omega) (BuiltG.one (S:=λg=>w0.heap.size<=g/\g<w2.heap.size) hx (λg hg=>hg) hs2 _)
   ((hr2.alloc _ (λg hg=>by have:=(HS.out g hg).2;omega)).alloc _ (λg hg=>by have:=(HS.out g hg).2;simp;omega)) HS.out (by omega) ((c2.alloc _).alloc _) hg2.1 (by omega) (by omega) HIH.out HRD.out)
  clear hg2 hlr hx hr2 c2
  obtain⟨O2,hO2⟩:∃O2,manyF semB List.tail rdAlt f r2=O2:=⟨_,rfl⟩
  have HO2:Hid (M=O2.map λz=>(px::z.1,z.2)):=hidE (by rw[<-HM.out,sepM,HO.out,<-hO2])
  rw[hO2]at HQ
  clear hO2
  go_wp2_with fail
  refine HQ.out.mono ?_
  rintro e w3 ⟨c3,A,m,c,hcs⟩
  have C3:=hidE c3
  clear c3 HQ
  rcases hcs with⟨ho,rfl⟩|⟨xs,r3,ho,rfl,hm,hx,hr3⟩
  ·have HO:=hidE (HO2.out.trans ho)
   clear ho
   go_wp2_with fail
   go_ret2
   exact LPost.pre HC0.out ⟨C3.out,A,m,c,.inl ⟨HO.out,rfl⟩⟩
  ·have HO:=hidE (HO2.out.trans ho)
   have HM:=hidE hm
   have HX:=hidE hx
   have HR:=hidE hr3
   clear ho hm hx hr3
   go_wp2_with fail
   go_ret2
   exact LPost.pre HC0.out ⟨C3.out,A,m,c,.inr ⟨xs,r3,HO.out,rfl,HM.out,HX.out,HR.out⟩⟩
end Go.Proofs.YtmbmjneibkihkaaGreatDoor

namespace Go.Proofs.YtmbmjneibkihkaaGreatDoor
open Go.RowKit Lx Tx Sx
set_option maxRecDepth 100000
set_option maxHeartbeats 3200000 in
theorem sx_inBracesA(f:Nat)(S:Nat->Prop)(b:Nat)(l:List Tok)(w:World)(h:RdrS S w b l)(hS:∀g,S g->g≠b/\g<w.heap.size)(hG:AllG l)(hl:l.length<=100000)(hf:3*l.length<=f+3)
  (IH:∀f1,f1<=f->GReads pcA shA S b 141 0 rdAlt f1)(hrd:∀(f1:Nat)(l:List Tok)(x:Al)(r:List Tok),AllG l->rdAlt f1 l=some (x,r)->AllG r/\r.length<l.length)
  (hle:∀(l:List Tok)(x:List Al)(r:List Tok),AllG l->sepM rdAlt f l=some (x,r)->r.length<=l.length) :
  Calls Tryz.prog 140 #[.pointer (some ⟨b,0,none⟩),.func (.func 141) #[.pointer (some ⟨b,0,none⟩)] #[]] w (LPost pcA S b w (brF rdAlt f l)):=by
 have hbl:=h.lt
 have H1:=sx_signR S b l ⟨#[123]⟩ w h hS hl
 rw[show(⟨#[123]⟩:ByteArray).data.toList=[123] from rfl,took]at H1
 obtain⟨M,hM⟩:∃M,brF rdAlt f l=M:=⟨_,rfl⟩
 rw[hM]
 have HMM:=hidE hM
 have HS:=hidE hS
 have HIH:=hidE IH
 have HRD:=hidE hrd
 have HLE:=hidE hle
 have HG:=hidE hG
 have HL:Hid (l.length<=100000/\3*l.length<=f+3):=hidE ⟨hl,hf⟩
 obtain⟨q,hq⟩:∃q,isHd l 6 [123]=q:=⟨_,rfl⟩
 rw[hq]at H1
 have HQ:=hidE hq
 have H1:=hidE H1
 clear h hS IH hrd hG hl hf hq hle hM
 go_enter Tryz.func140,Tryz.ntmps140
 go_wp2_with fail
 refine H1.out.mono ?_
 rintro e w2 ⟨rfl,hr2,c2⟩
 have hs2:=c2.size
 cases q with
 | false =>
  have HM:Hid (M=none):=hidE (by rw[<-HMM.out,brF_eq,HQ.out,if_neg (by decide)])
  have C2:=hidE c2
  clear c2 hr2 H1
  go_wp2_with fail
  go_ret2
  exact⟨C2.out,none,0,0,.inl ⟨HM.out,rfl⟩⟩
 | true =>
  rw[if_pos rfl]at hr2
  obtain⟨t0,l1,e1,-,-⟩:=isHd_ne l 6 [123] (by decide) HQ.out
  have hG1:AllG l.tail:=AllG.tail' HG.out
  have hl1:l.tail.length+1=l.length:=by rw[e1];rfl
  obtain⟨r1,hr1⟩:∃r1,l.tail=r1:=⟨_,rfl⟩
  have HMM:Hid (M=brG rdAlt f r1):=hidE (by rw[<-HMM.out,brF_eq,HQ.out,if_pos rfl,hr1])
  rw[hr1]at hr2 hG1 hl1
  have hL:=HL.out
  rw[<-hl1]at hL
  have H2:=sx_signR S b r1 ⟨#[125]⟩ w2 hr2 (λg hg=>⟨(HS.out g hg).1,by have:=(HS.out g hg).2;omega⟩) (by omega)
  rw[show(⟨#[125]⟩:ByteArray).data.toList=[125] from rfl,took]at H2
  obtain⟨q2,hq2⟩:∃q,isHd r1 6 [125]=q:=⟨_,rfl⟩
  rw[hq2]at H2
  have HQ2:=hidE hq2
  have H2:=hidE H2
  have C2:=hidE c2
  have HG1:=hidE hG1
  clear e1 hr1 hr2 hq2 c2 HL HG HQ hl1 H1 hG1
  go_wp2_with fail
  refine H2.out.mono ?_
  rintro e w3 ⟨rfl,hr3,c3⟩
  have hs3:=c3.size
  have C3:=hidE (C2.out.trans c3)
  clear c3 H2
  cases q2 with
  | true =>
   rw[if_pos rfl]at hr3
   have HM:Hid (M=some ([],r1.tail)):=hidE (by rw[HMM.out,brG,HQ2.out,if_pos rfl])
   have HR3:=hidE hr3
   clear hr3
   go_wp2_with fail
   go_ret2
   exact⟨C3.out,none,0,0,.inr ⟨[],r1.tail,HM.out,rfl,rfl,(λh=>absurd rfl h),HR3.out⟩⟩
  | false =>
   rw[if_neg (by decide)]at hr3
   have H3:=hidE (sx_separatedA f S b r1 w3 hr3 (λg hg=>⟨(HS.out g hg).1,by have:=(HS.out g hg).2;omega⟩) HG1.out (by omega) (by omega) HIH.out HRD.out)
   obtain⟨O,hO⟩:∃O,sepM rdAlt f r1=O:=⟨_,rfl⟩
   rw[hO]at H3
   have HO:=hidE hO
   clear hr3 hO
   go_wp2_with fail
   refine H3.out.mono ?_
   rintro e w4 ⟨c4,A,m,c,hcs⟩
   have hs4:=c4.size
   have C4:=hidE (C3.out.trans c4)
   have C4':=hidE c4
   clear c4 H3
   rcases hcs with⟨ho,rfl⟩|⟨xs,r3,ho,rfl,hm,hx,hr4⟩
   ·have HM:Hid (M=none):=hidE (by rw[HMM.out,brG,HQ2.out,if_neg (by decide),HO.out,ho])
    clear ho
    go_wp2_with fail
    go_ret2
    exact⟨C4.out,A,m,c,.inl ⟨HM.out,rfl⟩⟩
   ·subst ho
    have HM3:Hid (M=if isHd r3 6 [125]=true then some (xs,r3.tail) else none):=hidE (by rw[HMM.out,brG,HQ2.out,if_neg (by decide),HO.out])
    have hle:=HLE.out r1 xs r3 HG1.out HO.out
    have H4:=sx_signR S b r3 ⟨#[125]⟩ w4 hr4 (λg hg=>⟨(HS.out g hg).1,by have:=(HS.out g hg).2;omega⟩) (by omega)
    rw[show(⟨#[125]⟩:ByteArray).data.toList=[125] from rfl,took]at H4
    obtain⟨q4,hq4⟩:∃q,isHd r3 6 [125]=q:=⟨_,rfl⟩
    rw[hq4]at H4
    have HQ4:=hidE hq4
    have H4:=hidE H4
    have HM:=hidE hm
    have HX:=hidE hx
    clear hm hx hr4 hq4 hle HO
    go_wp2_with fail
    refine H4.out.mono ?_
    rintro e w5 ⟨rfl,hr5,c5⟩
    have hs5:=c5.size
    have C5:=hidE (C4.out.trans c5)
    have C5':=hidE c5
    clear c5 H4
    cases q4 with
    | false =>
     have HM4:Hid (M=none):=hidE (by rw[HM3.out,HQ4.out,if_neg (by decide)])
     clear hr5
     go_wp2_with fail
     go_ret2
     exact⟨C5.out,A,m,c,.inl ⟨HM4.out,rfl⟩⟩
    | true =>
     rw[if_pos rfl]at hr5
     have HR5:=hidE hr5
     have HM4:Hid (M=some (xs,r3.tail)):=hidE (by rw[HM3.out,HQ4.out,if_pos rfl])
     clear hr5
     go_wp2_with fail
     go_ret2
     exact⟨C5.out,A,m,c,.inr ⟨xs,r3.tail,HM4.out,rfl,HM.out,HX.out.keep (λg hg=>⟨by omega,by omega⟩) (λg hg=>C5'.out.block g hg.2 (by unfold only;omega)),HR5.out⟩⟩
end Go.Proofs.YtmbmjneibkihkaaGreatDoor

namespace Go.Proofs.YtmbmjneibkihkaaGreatDoor
open Go.RowKit Lx Tx Sx
set_option maxRecDepth 100000
theorem rdAlt_len(f1:Nat)(l:List Tok)(x:Al)(r:List Tok)(hG:AllG l)(h:rdAlt f1 l=some (x,r)):AllG r/\r.length<l.length:=by
 rw[rdAlt_eq']at h
 by_cases hk:(hd l).kind=2
 ·rw[if_pos hk,altG]at h
  obtain⟨l',e1,e2⟩:=hd_cons (l:=l) (by rw[hk];decide)
  have hG2:AllG l.tail:=AllG.tail' hG
  have hln:l.tail.length+1=l.length:=by rw[e1];rfl
  obtain⟨v1,v2,v3⟩:=vars_spec l.tail hG2
  by_cases h1:isHd (vars l.tail).2 6 [45,62]=true
  ·rw[if_pos h1]at h
   obtain⟨t0,r0,e0,-,-⟩:=isHd_ne _ 6 [45,62] (by decide) h1
   cases ho:rdE f1 (vars l.tail).2.tail with
   | none=>rw[ho]at h;cases h
   | some y =>
    obtain⟨e,r1⟩:=y
    rw[ho]at h
    simp only[Option.map_some,Option.some.injEq,Prod.mk.injEq]at h
    obtain⟨rfl,rfl⟩:=h
    obtain⟨g1,l1⟩:=rdE_len f1 _ e r1 (AllG.tail' v2) ho
    rw[e0]at l1 v3
    simp at l1 v3
    exact⟨g1,by omega⟩
  ·rw[if_neg h1]at h;cases h
 ·rw[if_neg hk]at h;cases h
def choG(f:Nat)(y:Ex)(r:List Tok):Option (Ex × List Tok):=if isHd r 3 wOf=true then(brF rdAlt f r.tail).map λz=>(.cs y z.1,z.2) else none
theorem choF_eq(f:Nat)(l:List Tok):choF f l=match rdE (f+1) l with|none=>none|some y=>choG f y.1 y.2:=rfl
set_option maxHeartbeats 6400000 in
theorem sx_choice(f:Nat)(S:Nat->Prop)(b:Nat)(l:List Tok)(w:World)(h:RdrS S w b l)(hS:∀g,S g->g≠b/\g<w.heap.size)(hG:AllG l)(hl:l.length<=100000)(hf:3*l.length+3<=f+1)
  (IH:GReads pcE shE S b 50 3 rdE (f+1))(IHA:∀f1,f1<=f->GReads pcA shA S b 141 0 rdAlt f1) :
  Calls Tryz.prog 105 #[.pointer (some ⟨b,0,none⟩)] w (GPost pcE shE S b w (choF f l)):=by
 have hbl:=h.lt
 have hE:=IH (w.alloc (.cells #[.int .i64 6,.string ⟨#[]⟩,.bool false,.int .i64 0,.string ⟨#[]⟩,.int .i64 0,.slice none 0 0,.slice none 0 0,.slice none 0 0] 39)) l (h.alloc _ (λg hg=>(hS g hg).2)) (λg hg=>⟨(hS g hg).1,by have:=(hS g hg).2;simp;omega⟩) hG hl hf
 obtain⟨O,hO⟩:∃O,rdE (f+1) l=O:=⟨_,rfl⟩
 rw[hO]at hE
 obtain⟨M,hM⟩:∃M,choF f l=M:=⟨_,rfl⟩
 rw[hM]
 rw[choF_eq,hO]at hM
 have HE:=hidE hE
 have HM0:=hidE hM
 have HO:=hidE hO
 have HS:=hidE hS
 have HG:=hidE hG
 have HIA:=hidE IHA
 clear h hS hE hM hO hG IH IHA
 go_enter Tryz.func105,Tryz.ntmps105
 go_wp2_with fail
 refine HE.out.mono ?_
 rintro e w2 ⟨c2,cs,hsh,hcs⟩
 obtain⟨ck,cx,ct,cK,cX,cZ,cB,cm,cq,cKA,ckn,ckc,cLA,cln,clc,rfl⟩:=hsh
 have hs2:=c2.size
 simp at hs2
 have hbk:Blk w2 w.heap.size 39 #[.int .i64 6,.string ⟨#[]⟩,.bool false,.int .i64 0,.string ⟨#[]⟩,.int .i64 0,.slice none 0 0,.slice none 0 0,.slice none 0 0]:=Blk.chgR (heap_alloc_new _ _) c2 (by unfold only;omega)
 have hlw:=hbk.lt
 obtain⟨W,hW⟩:∃W,w2.alloc (.cells #[.int .i64 ck,.string cx,.bool ct,.int .i64 cK,.string cX,.int .i64 cZ,.slice cB cm cq,.slice cKA ckn ckc,.slice cLA cln clc] 39)=W:=⟨_,rfl⟩
 have hbw:Below w2.heap.size w2 W:=hW▸(Below.refl _ w2).alloc (Nat.le_refl _) _
 have hsW:W.heap.size=w2.heap.size+1:=by rw[<-hW];simp
 have HB4:Hid (Blk W w2.heap.size 39 #[.int .i64 ck,.string cx,.bool ct,.int .i64 cK,.string cX,.int .i64 cZ,.slice cB cm cq,.slice cKA ckn ckc,.slice cLA cln clc]):=hidE (hW▸heap_alloc_new _ _)
 have HB2:=hidE (show Blk W w.heap.size 39 #[.int .i64 6,.string ⟨#[]⟩,.bool false,.int .i64 0,.string ⟨#[]⟩,.int .i64 0,.slice none 0 0,.slice none 0 0,.slice none 0 0] from(hbw.block _ hlw).trans hbk)
 have HCW:=hidE (c2.pre.below hbw)
 have HBW:=hidE hbw
 clear hbk c2 HE hbw
 rcases hcs with⟨ho,rfl⟩|⟨y,r2,ho,rfl,hrd,hrr⟩
 ·subst ho
  go_upto_region 3 with fail
  try rw[hW]
  clear hW
  obtain⟨⟨g0,g1,g2,g3,g4,g5,g6,g7,g8⟩,⟨z0,z1,z2,z3,z4,z5,z6,z7,z8⟩,hl2⟩:=blk_facts9 HB2.out
  go_wp2_with fail
  try simp only[Exit.inBlock,Exit.then]
  refine bodyPost_ret (results_ct rfl _ _ w.heap.size 39 _ (0,0) _ rfl (blk_set9 _ _ _ _ _ _ _ _ _ HB2.out) Tryz.underlying39 rfl (by kernel_rfl)) rfl ?_
  exact⟨HCW.out.set9 _ _ _ _ _ _ _ _ _ (Nat.le_refl _),_,⟨_,_,_,_,_,_,_,_,_,_,_,_,_,_,_,rfl⟩,.inl ⟨HM0.out.symm,rfl⟩⟩
 ·subst ho
  have hg2:=rdE_len (f+1) l y r2 HG.out HO.out
  have HM1:Hid (M=choG f y r2):=hidE HM0.out.symm
  have hRW:=hrr.below HBW.out (λg hg=>by have:=(HS.out g hg).2;omega)
  have HX:=hidE (pcE.keep (S':=λg=>w.heap.size<g/\g<w2.heap.size) (λg hg=>⟨by have:=hg.1;simp at this;omega,hg.2⟩) (λg hg=>HBW.out.block g hg.2) hrd)
  have hSG:=sx_wordR S b r2 ⟨#[111,102]⟩ W hRW (λg hg=>⟨(HS.out g hg).1,by have:=(HS.out g hg).2;omega⟩) (by have:=hg2.2;omega)
  obtain⟨q2,hq2⟩:∃q,isHd r2 3 wOf=q:=⟨_,rfl⟩
  rw[show(⟨#[111,102]⟩:ByteArray).data.toList=wOf from rfl,took,hq2]at hSG
  have HSG:=hidE hSG
  have HG2:=hidE hg2
  have HQ2:=hidE hq2
  clear hSG hrd hrr hq2 hg2 hRW
  go_upto_region 3 with fail
  try rw[hW]
  clear hW
  go_wp2_with fail
  refine HSG.out.mono ?_
  rintro e w3 ⟨rfl,hr3,c3⟩
  have hs3:=c3.size
  have HX:=hidE (pcE.keep (S':=λg=>w.heap.size<g/\g<w2.heap.size) (λg hg=>hg) (λg hg=>c3.block g (by omega) (by unfold only;omega)) HX.out)
  have HB4:=hidE (HB4.out.chgR c3 (by unfold only;omega))
  have HB2:=hidE (HB2.out.chgR c3 (by unfold only;omega))
  have HCW:=hidE (HCW.out.trans c3)
  clear c3 HSG HBW
  obtain⟨⟨g0,g1,g2,g3,g4,g5,g6,g7,g8⟩,⟨z0,z1,z2,z3,z4,z5,z6,z7,z8⟩,hl2⟩:=blk_facts9 HB2.out
  cases q2 with
  | false =>
   have HM2:Hid (M=none):=hidE (by rw[HM1.out,choG,HQ2.out,if_neg (by decide)])
   clear hr3
   go_wp2_with fail
   try simp only[Exit.inBlock,Exit.then]
   refine bodyPost_ret (results_ct rfl _ _ w.heap.size 39 _ (0,0) _ rfl (blk_set9 _ _ _ _ _ _ _ _ _ HB2.out) Tryz.underlying39 rfl (by kernel_rfl)) rfl ?_
   exact⟨HCW.out.set9 _ _ _ _ _ _ _ _ _ (Nat.le_refl _),_,⟨_,_,_,_,_,_,_,_,_,_,_,_,_,_,_,rfl⟩,.inl ⟨HM2.out,rfl⟩⟩
  | true =>
   rw[if_pos rfl]at hr3
   obtain⟨t0,r0,e0,-,-⟩:=isHd_ne r2 3 wOf (by decide) HQ2.out
   obtain⟨⟨f0,f1,f2,f3,f4,f5,f6,f7,f8⟩,-,hl4⟩:=blk_facts9 HB4.out
   obtain⟨W5,hW5⟩:∃V,(w3.setCell ⟨w.heap.size,7,none⟩ (.slice (some ⟨w3.heap.size,0,none⟩) 1 1)).alloc (.cells #[.int .i64 ck,.string cx,.bool ct,.int .i64 cK,.string cX,.int .i64 cZ,.slice cB cm cq,.slice cKA ckn ckc,.slice cLA cln clc] 39)=V:=⟨_,rfl⟩
   have hsV:W5.heap.size=w3.heap.size+1:=by rw[<-hW5];simp
   have hfar:∀k,k<w3.heap.size->k≠w.heap.size->W5.heap[k]? = w3.heap[k]?:=λk h1 h2=>by
    rw[<-hW5,Below.heap_alloc _ _ _ (by simp;exact h1)]
    exact Below.heap_setCell _ ⟨w.heap.size,7,none⟩ _ k h2
   have HB5:Hid (Blk W5 w.heap.size 39 #[.int .i64 6,.string ⟨#[]⟩,.bool false,.int .i64 0,.string ⟨#[]⟩,.int .i64 0,.slice none 0 0,.slice (some ⟨w3.heap.size,0,none⟩) 1 1,.slice none 0 0]):=hidE (by
    rw[<-hW5]
    exact Blk.alloc (heap_setCell_same _ _ 7 _ _ _ HB2.out) _)
   have HNW:Hid (Blk W5 w3.heap.size 39 #[.int .i64 ck,.string cx,.bool ct,.int .i64 cK,.string cX,.int .i64 cZ,.slice cB cm cq,.slice cKA ckn ckc,.slice cLA cln clc]):=hidE (by
    rw[<-hW5]
    have:=heap_alloc_new (w3.setCell ⟨w.heap.size,7,none⟩ (.slice (some ⟨w3.heap.size,0,none⟩) 1 1)) (.cells #[.int .i64 ck,.string cx,.bool ct,.int .i64 cK,.string cX,.int .i64 cZ,.slice cB cm cq,.slice cKA ckn ckc,.slice cLA cln clc] 39)
    rwa [show(w3.setCell ⟨w.heap.size,7,none⟩ (.slice (some ⟨w3.heap.size,0,none⟩) 1 1)).heap.size=w3.heap.size by simp]at this)
   have HC5:Hid (ChR b w W5):=hidE (hW5▸(HCW.out.setCell (.inl (Nat.le_refl _)) _).alloc _)
   have HX5:=hidE (pcE.keep (S':=λg=>w.heap.size<g/\g<w2.heap.size) (λg hg=>hg) (λg hg=>hfar g (by omega) (by omega)) HX.out)
   have hR5:RdrS S W5 b r2.tail:=hr3.keep (hfar b (by omega) (by omega)) (λg hg=>hfar g (by have:=(HS.out g hg).2;omega) (by have:=(HS.out g hg).2;omega))
   have hP:=sx_inBracesA f S b r2.tail W5 hR5 (λg hg=>⟨(HS.out g hg).1,by have:=(HS.out g hg).2;omega⟩) (AllG.tail' HG2.out.1) (by have:=HG2.out.2;rw[e0]at this ⊢;simp at this ⊢;omega) (by have:=HG2.out.2;rw[e0]at this ⊢;simp at this ⊢;omega) HIA.out rdAlt_len (λl x r hG h=>Nat.le_of_lt (sep_len rdAlt_len f l x r hG h).2)
   have HM2:Hid (M=(brF rdAlt f r2.tail).map λz=>(Ex.cs y z.1,z.2)):=hidE (by rw[HM1.out,choG,HQ2.out,if_pos rfl])
   obtain⟨O2,hO2⟩:∃O2,brF rdAlt f r2.tail=O2:=⟨_,rfl⟩
   rw[hO2]at hP HM2
   have HP:=hidE hP
   have hlb:b<W5.heap.size:=by omega
   clear hr3 hfar hR5 hP hO2 e0 HX
   go_upto_region 6 with fail
   try rw[hW5]
   clear hW5 f0 f1 f2 f3 f4 f5 f6 f7 f8 g0 g1 g2 g3 g4 g5 g6 g7 g8 z0 z1 z2 z3 z4 z5 z6 z7 z8
   go_wp2_with fail
   refine HP.out.mono ?_
   rintro e w6 ⟨c6,A,m,c,hcs⟩
   have hs6:=c6.size
   have hb6:=HB5.out.chgR c6 (by unfold only;omega)
   obtain⟨⟨g0,g1,g2,g3,g4,g5,g6,g7,g8⟩,⟨z0,z1,z2,z3,z4,z5,z6,z7,z8⟩,hl6⟩:=blk_facts9 hb6
   have HB6:Hid (Blk (w6.setCell ⟨w.heap.size,8,none⟩ (.slice A m c)) w.heap.size 39 #[.int .i64 6,.string ⟨#[]⟩,.bool false,.int .i64 0,.string ⟨#[]⟩,.int .i64 0,.slice none 0 0,.slice (some ⟨w3.heap.size,0,none⟩) 1 1,.slice A m c]):=hidE (heap_setCell_same _ _ 8 _ _ _ hb6)
   have HC6:=hidE ((HC5.out.trans c6).setCell (p:=⟨w.heap.size,8,none⟩) (.inl (Nat.le_refl _)) (.slice A m c))
   have HX6:=hidE (pcE.keep (S':=λg=>w.heap.size<g/\g<w2.heap.size) (λg hg=>hg) (λg hg=>c6.block g (by omega) (by unfold only;omega)) HX5.out)
   have HN6:=hidE (HNW.out.chgR c6 (by unfold only;omega))
   have hU:∃ok,e=.returned (.tuple #[.slice A m c,.bool ok])/\((ok=false/\M=none)\/(ok=true/\∃xs r,M=some (.cs y xs,r)/\m=xs.length/\LstG pcA (λg=>W5.heap.size<=g/\g<w6.heap.size) w6 xs A/\RdrS S w6 b r)):=by
    rcases hcs with⟨ho,he⟩|⟨xs,r,ho,he,hm,hx,hr⟩
    ·exact⟨false,he,.inl ⟨rfl,by rw[HM2.out,ho];rfl⟩⟩
    ·exact⟨true,he,.inr ⟨rfl,xs,r,by rw[HM2.out,ho];rfl,hm,hx,hr⟩⟩
   obtain⟨ok,rfl,hU⟩:=hU
   have HU:=hidE hU
   clear hU hcs HP c6 hb6
   go_wp2_with fail
   try simp only[Exit.inBlock,Exit.then]
   refine bodyPost_ret (results_ct rfl _ _ w.heap.size 39 _ (0,0) _ rfl (blk_set9 _ _ _ _ _ _ _ _ _ HB6.out) Tryz.underlying39 rfl (by kernel_rfl)) rfl ?_
   refine⟨HC6.out.set9 _ _ _ _ _ _ _ _ _ (Nat.le_refl _),[.int .i64 6,.string ⟨#[]⟩,.bool false,.int .i64 0,.string ⟨#[]⟩,.int .i64 0,.slice none 0 0,.slice (some ⟨w3.heap.size,0,none⟩) 1 1,.slice A m c],⟨_,_,_,_,_,_,_,_,_,_,_,_,_,_,_,rfl⟩,?_⟩
   rcases HU.out with⟨rfl,hM⟩|⟨rfl,xs,r,hM,hm,hx,hr⟩
   ·exact .inl ⟨hM,rfl⟩
   ·have hk:∀k,k≠w.heap.size->(((((((((((w6.setCell ⟨w.heap.size,8,none⟩ (.slice A m c)).setCell ⟨w.heap.size,0,none⟩ (.int .i64 6)).setCell ⟨w.heap.size,1,none⟩ (.string ⟨#[]⟩)).setCell ⟨w.heap.size,2,none⟩ (.bool false)).setCell ⟨w.heap.size,3,none⟩ (.int .i64 0)).setCell ⟨w.heap.size,4,none⟩ (.string ⟨#[]⟩)).setCell ⟨w.heap.size,5,none⟩ (.int .i64 0)).setCell ⟨w.heap.size,6,none⟩ (.slice none 0 0)).setCell ⟨w.heap.size,7,none⟩ (.slice (some ⟨w3.heap.size,0,none⟩) 1 1)).setCell ⟨w.heap.size,8,none⟩ (.slice A m c))).heap[k]? = w6.heap[k]?:=λk h=>(set9_far _ _ _ _ _ _ _ _ _ _ _ _ h).trans (Below.heap_setCell _ ⟨w.heap.size,8,none⟩ _ k h)
    refine .inr ⟨_,r,hM,rfl,?_,hr.keep (hk b (by omega)) (λk hkk=>hk k (by have:=(HS.out k hkk).2;omega))⟩
    refine⟨⟨none,0,some ⟨w3.heap.size,0,none⟩,0,A,c⟩,by rw[hm];simp[exC,kdE,nmE,toE,tyE,tyC,kidsE,altsE,Sx.strV],trivial,?_⟩
    rw[ExIn]
    refine⟨⟨_,rfl,⟨by omega,by simp;omega⟩,kid_new HX6.out (λk h=>⟨by omega,by simp;omega⟩) (λk h=>hk k (by omega)) ((hk _ (by omega)).trans HN6.out)⟩,λhne=>?_⟩
    obtain⟨g,h1,h2,h3⟩:=hx hne
    exact⟨g,h1,⟨by omega,by simp;omega⟩,(atG_al xs g 0).1 (AtG.keep (λg hg=>⟨by omega,by simp;omega⟩) (λg hg=>hk g (by omega)) xs g 0 (hk g (by omega)) h3)⟩
end Go.Proofs.YtmbmjneibkihkaaGreatDoor
