/-
  Contracts of the code's functions, part 27.
-/
import Derived.Test.YtmbmjneibkihkaaGreatDoorDaW
namespace Go.Proofs.YtmbmjneibkihkaaGreatDoor
open Go.RowKit Lx Tx Sx
set_option maxRecDepth 100000
set_option maxHeartbeats 400000 in
theorem nx_sepC(S:Nat->Prop)(b bx:Nat)(l:List Tok)(w:World)(h:RdrS S w b l)(hbx:w.cell? ⟨bx,0,none⟩=some (.pointer (some ⟨b,0,none⟩)))(hS:∀g,S g->g≠b/\g<w.heap.size)(hl:l.length<=100000) :
  Calls Tryz.prog 203 #[.pointer (some ⟨bx,0,none⟩)] w λe w'=>e=.returned (.bool (semB l))/\RdrS S w' b (if semB l=true then l.tail else l)/\ChR b w w':=by
 have HT:=hidE (sx_signR S b l ⟨#[59]⟩ w h hS hl)
 rw[show(⟨#[59]⟩:ByteArray).data.toList=[59] from rfl,took]at HT
 unfold semB
 obtain⟨q,hq⟩:∃q,isHd l 6 [59]=q:=⟨_,rfl⟩
 rw[hq]at HT ⊢
 obtain⟨L2,hL2⟩:∃x,(if q=true then l.tail else l)=x:=⟨_,rfl⟩
 rw[hL2]at HT ⊢
 have hbl:=lt_cell hbx
 have hb:=h.lt
 clear h hS hl hq hL2
 go_enter Tryz.func203,Tryz.ntmps203
 go_wp2_with fail
 refine HT.out.mono ?_
 rintro e w1 ⟨rfl,r1,b1⟩
 have R1:=hidE r1
 have B1:=hidE b1
 clear r1 b1 HT
 go_wp2_with fail
 go_ret
 exact⟨rfl,R1.out,B1.out⟩
theorem infoC:(Tryz.prog.info? 61).map (λi=>(i.zero,i.size,i.bytes))=some (some (.agg #[.string ⟨#[]⟩,.int .i64 0,.string ⟨#[]⟩,.int .i64 0,.slice none 0 0]),5,72):=by kernel_rfl
set_option maxHeartbeats 3200000 in
theorem sx_longerC(f:Nat)(S:Nat->Prop)(b:Nat)(l:List Tok)(w0 w:World)(x0:(Nm × Ty))(g0 bx:Nat)(hbx:w0.cell? ⟨bx,0,none⟩=some (.pointer (some ⟨b,0,none⟩)))(hbb:bx≠b)(h0:BuiltG pcC w0.heap.size 61 w [x0] (.slice (some ⟨g0,0,none⟩) 1 1))(h:RdrS S w b l)(hS:∀g,S g->g≠b/\g<w0.heap.size)(hb:b<w0.heap.size)(hc0:ChR b w0 w)(hG:AllG l)(hl:l.length<=100000)(hf:3*l.length+1<=f)
  (IH:∀f1,f1<=f->GReads pcC shC S b 166 0 (λ(_:Nat)=>rdCon) f1)(hrd:∀(f1:Nat)(l:List Tok)(x:(Nm × Ty))(r:List Tok),AllG l->(λ(_:Nat)=>rdCon) f1 l=some (x,r)->AllG r/\r.length<l.length) :
  Calls Tryz.prog 202 #[.slice (some ⟨g0,0,none⟩) 1 1,.func (.func 203) #[] #[.pointer (some ⟨bx,0,none⟩)],.func (.func 166) #[.pointer (some ⟨b,0,none⟩)] #[]] w
   (LPost pcC S b w0 ((manyF semB List.tail (λ(_:Nat)=>rdCon) f l).map λy=>([x0]++y.1,y.2))):=by
 obtain⟨i0,hi0,hz0,hz1,hz2⟩:=info_parts infoC
 have hbl:=lt_cell hbx
 have hcell:∀wr,ChR b w0 wr->wr.cell? ⟨bx,0,none⟩=some (.pointer (some ⟨b,0,none⟩)):=λwr h=>(World.cell?_of_block (a:=⟨bx,0,none⟩) (h.block bx hbl (by unfold only;omega))).trans hbx
 have HCELL:=hidE hcell
 obtain⟨L,hL⟩:∃L,l.length=L:=⟨_,rfl⟩
 have HL:=hidE hL
 have HS:=hidE hS
 have HIH:=hidE IH
 have HRD:=hidE hrd
 have HH:Hid (HeadG pcC semB List.tail (λ(_:Nat)=>rdCon) S b w0.heap.size 1 f 61 [x0] l w0 L (.slice (some ⟨g0,0,none⟩) 1 1) w):=hidE ⟨l,f,[],some ⟨g0,0,none⟩,1,hL.symm,rfl,hG,by simp,hf,Nat.le_refl _,hidE h,hidE (by simp),hidE (by rw[List.append_nil];exact h0),hidE hc0⟩
 rw[hL]at hl hf
 clear h hS hL IH hrd hc0 h0 hbx hcell
 go_enter Tryz.func202,Tryz.ntmps202
 go_wp2_with fail
 go_loopg [0] L (λgg v wr=>HeadG pcC semB List.tail (λ(_:Nat)=>rdCon) S b w0.heap.size 1 f 61 [x0] l w0 gg v wr)
 case atStart=>exact HH.out
 case round =>
  obtain⟨r,f',done,A,c,rfl,rfl,hG',hle,hf1,hf2,hr,hv,hbu,hc⟩:=hrel
  rw[HL.out]at hle
  have hsz:=hc.out.size
  obtain⟨f1,rfl⟩:∃f1,f'=f1+1:=⟨f'-1,by omega⟩
  obtain⟨n,hn⟩:∃n,([x0]++done).length=n:=⟨_,rfl⟩
  have hn':n<=1+done.length:=by rw[<-hn];simp <;> omega
  rw[hn]at hbu ⊢
  have HN:=hidE hn
  obtain⟨rn,hrn⟩:∃n,r.length=n:=⟨_,rfl⟩
  have HRN:=hidE hrn
  rw[hrn]at hle hf1
  have hA:=hidE (nx_sepC S b bx r wr hr.out (HCELL.out wr hc.out) (λg hg=>⟨(HS.out g hg).1,by have:=(HS.out g hg).2;omega⟩) (by rw[hrn];omega))
  have HG':=hidE hG'
  clear hn hrn HH hG'
  obtain⟨q,hq⟩:∃q,semB r=q:=⟨_,rfl⟩
  rw[hq]at hA
  have HQ:=hidE hq
  clear hq
  go_wp2_with fail
  refine hA.out.mono ?_
  rintro e w2 ⟨rfl,hr2,c2⟩
  have hs2:=c2.size
  have HC2:=hidE (hc.out.trans c2)
  have HBU:=hidE (hbu.out.chgR c2 hb)
  clear c2 hA hbu
  cases q with
  | false =>
   rw[if_neg (by decide)]at hr2
   have HR2:=hidE hr2
   have HV:=hidE (hv.out.trans (congrArg (Option.map λy:List (Nm × Ty) × List Tok=>(done++y.1,y.2)) (many_end f1 r HQ.out)))
   clear hr2 hv
   go_wp2_with fail
   go_ret2
   refine⟨HC2.out,A,n,c,.inr ⟨[x0]++done,r,by rw[HV.out];simp,rfl,HN.out.symm,HBU.out.lst.2,HR2.out⟩⟩
  | true =>
   rw[if_pos rfl]at hr2
   obtain⟨hg2,hl2,hf3⟩:=nx_sep_af r HG'.out HQ.out
   rw[HRN.out]at hl2 hf3
   have HP:=hidE (HIH.out f1 (by omega) w2 _ hr2 (λg hg=>⟨(HS.out g hg).1,by have:=(HS.out g hg).2;omega⟩) hg2 (by omega) (by omega))
   obtain⟨O,hO⟩:∃O,(λ(_:Nat)=>rdCon) f1 (List.tail r)=O:=⟨_,rfl⟩
   have HO:=hidE hO
   have HG2:=hidE hg2
   rw[hO]at HP
   clear hr2 hg2 hO
   go_wp2_with fail
   refine HP.out.mono ?_
   rintro e w3 ⟨c3,cs,hsh,hcs⟩
   obtain⟨s,tk,tx,tz,tA,tm,tq,rfl⟩:=hsh
   have hs3:=c3.size
   rcases hcs with⟨ho,rfl⟩|⟨px,r2,ho,rfl,hx,hr3⟩
   ·have HV:=hidE (hv.out.trans (congrArg (Option.map λy:List (Nm × Ty) × List Tok=>(done++y.1,y.2)) (many_no f1 r HQ.out (HO.out.trans ho))))
    have HC3:=hidE (HC2.out.trans c3)
    clear hv ho c3 HP
    go_wp2_with fail
    go_ret2
    exact⟨HC3.out.alloc _,none,0,0,.inl ⟨by rw[HV.out];rfl,rfl⟩⟩
   ·have HV:=hidE (hv.out.trans (congrArg (Option.map λy:List (Nm × Ty) × List Tok=>(done++y.1,y.2)) (many_yes f1 r HQ.out px r2 (HO.out.trans ho))))
    have hg3:=HRD.out f1 _ px r2 HG2.out (HO.out.trans ho)
    have hlr:=hg3.2
    have HG3:=hidE hg3.1
    have HX:=hidE hx
    have HR3:=hidE hr3
    have C3:=hidE c3
    obtain⟨vs,hown,hrow⟩:=HBU.out
    rw[HN.out]at hown
    have HOWN:=hidE hown
    have HROW:=hidE hrow
    have hown3:=own_chgR hown c3 hb
    have HLT:=hown3.lt
    have HO3:=hidE ((hown3.alloc (.cells #[.string s,.int .i64 tk,.string tx,.int .i64 tz,.slice tA tm tq] 61)).alloc (.cells #[.string s,.int .i64 tk,.string tx,.int .i64 tz,.slice tA tm tq] 61))
    clear hv ho c3 HP hg3 hx hr3 hown hrow hown3 HBU
    go_wp2_with (at_builtin;refine wpList_append_own_at _ rfl (.tmp 25) (.tmp 27) 57 rfl w0.heap.size 61 i0 _ 5 72 Tryz.underlying57 hi0 hz0 hz1 hz2 rfl (by decide) _ n vs rfl HO3.out ⟨w3.heap.size+1,0,none⟩ 1 1 [.string s,.int .i64 tk,.string tx,.int .i64 tz,.slice tA tm tq] rfl rfl (new_cells' _ _ _ _ (by simp)) (by intro u hu;simp at hu;rcases hu with rfl|rfl|rfl|rfl|rfl <;> rfl) (by unfold maxLen;omega) (by omega) (by simp;omega) ?_;intro v2 w5 hown5 hgrow _ hat5;obtain⟨A2,c2,rfl⟩:=own_shape hown5;have HO5:=hidE hown5;have HG5:=hidE hgrow;have HT5:=hidE hat5;clear hown5 hgrow hat5)
    have hs5:=HG5.out.size
    simp at hs5
    have hk5:∀k,k<w0.heap.size->w5.heap[k]? = w3.heap[k]?:=λk hk=>(HG5.out.block k (by simp;omega) (λe=>by have:=HLT _ e.symm;omega)).trans ((Below.heap_alloc _ _ _ (by simp;omega)).trans (Below.heap_alloc _ _ _ (by omega)))
    go_roundg r2.length
    case measure=>rw[HRN.out];omega
    case rel =>
     refine⟨r2,f1,done++[px],A2,c2,rfl,?_,HG3.out,?_,by omega,by omega,hidE (HR3.out.keep (hk5 b hb) (λg hg=>hk5 g (HS.out g hg).2)),hidE ?_,hidE ?_,hidE ((((HC2.out.trans C3.out).alloc _).alloc _).grown HG5.out (λj hj=>.inl (by have:=HLT _ hj;omega)))⟩
     ·rw[<-List.append_assoc,List.length_append,HN.out];rfl
     ·rw[List.length_append,HL.out];simp;omega
     ·rw[HV.out];simp[Function.comp_def]
     ·rw[<-List.append_assoc,show([x0]++done++[px]).length=n+1 by rw[List.length_append,HN.out];rfl]
      exact BuiltG.next (w:=w2) (w1:=w3) hb (by omega) (by rw[HN.out];exact HOWN.out) HROW.out C3.out HX.out (((Below.refl _ w3).alloc (Nat.le_refl _) _).alloc (by simp) _) (by rw[HN.out];exact HO5.out) HG5.out HT5.out
end Go.Proofs.YtmbmjneibkihkaaGreatDoor

namespace Go.Proofs.YtmbmjneibkihkaaGreatDoor
open Go.RowKit Lx Tx Sx
set_option maxRecDepth 100000
set_option maxHeartbeats 3200000 in
theorem sx_separatedC(f:Nat)(S:Nat->Prop)(b:Nat)(l:List Tok)(w:World)(h:RdrS S w b l)(hS:∀g,S g->g≠b/\g<w.heap.size)(hG:AllG l)(hl:l.length<=100000)(hf:3*l.length<=f)
  (IH:∀f1,f1<=f->GReads pcC shC S b 166 0 (λ(_:Nat)=>rdCon) f1)(hrd:∀(f1:Nat)(l:List Tok)(x:(Nm × Ty))(r:List Tok),AllG l->(λ(_:Nat)=>rdCon) f1 l=some (x,r)->AllG r/\r.length<l.length) :
  Calls Tryz.prog 187 #[.pointer (some ⟨b,0,none⟩),.func (.func 166) #[.pointer (some ⟨b,0,none⟩)] #[]] w (LPost pcC S b w (sepM (λ(_:Nat)=>rdCon) f l)):=by
 have hbl:=h.lt
 obtain⟨w0,hw0⟩:∃x,w.alloc (.cells #[.pointer (some ⟨b,0,none⟩)] 148)=x:=⟨_,rfl⟩
 have z0:w0.heap.size=w.heap.size+1:=by rw[<-hw0];simp
 have hb0:w0.cell? ⟨w.heap.size,0,none⟩=some (.pointer (some ⟨b,0,none⟩)):=by
  have hB:Blk w0 w.heap.size 148 #[.pointer (some ⟨b,0,none⟩)]:=hw0▸heap_alloc_new w _
  exact hB.cell 0
 have c0:ChR b w w0:=hw0▸(ChR.refl b w).alloc _
 have h0:RdrS S w0 b l:=hw0▸h.alloc _ (λg hg=>(hS g hg).2)
 have hS0:∀g,S g->g≠b/\g<w0.heap.size:=λg hg=>⟨(hS g hg).1,by have:=(hS g hg).2;omega⟩
 have HC0:=hidE c0
 have HB0:=hidE hb0
 have HP:=hidE (IH f (Nat.le_refl _) w0 l h0 hS0 hG hl (by omega))
 obtain⟨O,hO⟩:∃O,(λ(_:Nat)=>rdCon) f l=O:=⟨_,rfl⟩
 rw[hO]at HP
 have HO:=hidE hO
 obtain⟨M,hM⟩:∃M,sepM (λ(_:Nat)=>rdCon) f l=M:=⟨_,rfl⟩
 rw[hM]
 have HM:=hidE hM
 clear hM
 have HS:=hidE hS0
 have HIH:=hidE IH
 have HRD:=hidE hrd
 have HG:=hidE hG
 clear h h0 hO hS hS0 IH hrd hG c0
 go_enter Tryz.func187,Tryz.ntmps187
 go_wp2_with fail
 try rw[hw0]
 refine HP.out.mono ?_
 clear hw0 hb0
 rintro e w2 ⟨c2,cs,hsh,hcs⟩
 obtain⟨s,tk,tx,tz,tA,tm,tq,rfl⟩:=hsh
 have hs2:=c2.size
 clear HP
 rcases hcs with⟨ho,rfl⟩|⟨px,r2,ho,rfl,hx,hr2⟩
 ·have HO2:Hid (M=none):=hidE (by rw[<-HM.out,sepM,HO.out,ho])
  have C2:=hidE c2
  clear ho c2
  go_wp2_with fail
  go_ret2
  exact LPost.pre HC0.out ⟨C2.out.alloc _,none,0,0,.inl ⟨HO2.out,rfl⟩⟩
 ·subst ho
  have hg2:=HRD.out f l px r2 HG.out HO.out
  have hlr:=hg2.2
  have HQ:=hidE (sx_longerC f S b r2 w0 ((w2.alloc (.cells #[.string s,.int .i64 tk,.string tx,.int .i64 tz,.slice tA tm tq] 61)).alloc (.cells #[.string s,.int .i64 tk,.string tx,.int .i64 tz,.slice tA tm tq] 61)) px (w2.heap.size+1) w.heap.size HB0.out (by omega) (BuiltG.one (S:=λg=>w0.heap.size<=g/\g<w2.heap.size) hx (λg hg=>hg) hs2 _)
   ((hr2.alloc _ (λg hg=>by have:=(HS.out g hg).2;omega)).alloc _ (λg hg=>by have:=(HS.out g hg).2;simp;omega)) HS.out (by omega) ((c2.alloc _).alloc _) hg2.1 (by omega) (by omega) HIH.out HRD.out)
  clear hg2 hlr hx hr2 c2
  obtain⟨O2,hO2⟩:∃O2,manyF semB List.tail (λ(_:Nat)=>rdCon) f r2=O2:=⟨_,rfl⟩
  have HO2:Hid (M=O2.map λz=>(px::z.1,z.2)):=hidE (by rw[<-HM.out,sepM,HO.out,<-hO2])
  rw[hO2]at HQ
  clear hO2
  go_wp2_with fail
  refine HQ.out.mono ?_
  rintro e w3 ⟨c3,A,m,c,hcs⟩
  have C3:=hidE c3
  clear c3 HQ
  rcases hcs with⟨ho,rfl⟩|⟨xs,r3,ho,rfl,hm,hx,hr3⟩
  ·have HO:=hidE (HO2.out.trans ho)
   clear ho
   go_wp2_with fail
   go_ret2
   exact LPost.pre HC0.out ⟨C3.out,A,m,c,.inl ⟨HO.out,rfl⟩⟩
  ·have HO:=hidE (HO2.out.trans ho)
   have HM:=hidE hm
   have HX:=hidE hx
   have HR:=hidE hr3
   clear ho hm hx hr3
   go_wp2_with fail
   go_ret2
   exact LPost.pre HC0.out ⟨C3.out,A,m,c,.inr ⟨xs,r3,HO.out,rfl,HM.out,HX.out,HR.out⟩⟩
end Go.Proofs.YtmbmjneibkihkaaGreatDoor

namespace Go.Proofs.YtmbmjneibkihkaaGreatDoor
open Go.RowKit Lx Tx Sx
set_option maxRecDepth 100000
set_option maxHeartbeats 3200000 in
theorem sx_inBracesC(f:Nat)(S:Nat->Prop)(b:Nat)(l:List Tok)(w:World)(h:RdrS S w b l)(hS:∀g,S g->g≠b/\g<w.heap.size)(hG:AllG l)(hl:l.length<=100000)(hf:3*l.length<=f+3)
  (IH:∀f1,f1<=f->GReads pcC shC S b 166 0 (λ(_:Nat)=>rdCon) f1)(hrd:∀(f1:Nat)(l:List Tok)(x:(Nm × Ty))(r:List Tok),AllG l->(λ(_:Nat)=>rdCon) f1 l=some (x,r)->AllG r/\r.length<l.length)
  (hle:∀(l:List Tok)(x:List (Nm × Ty))(r:List Tok),AllG l->sepM (λ(_:Nat)=>rdCon) f l=some (x,r)->r.length<=l.length) :
  Calls Tryz.prog 165 #[.pointer (some ⟨b,0,none⟩),.func (.func 166) #[.pointer (some ⟨b,0,none⟩)] #[]] w (LPost pcC S b w (brF (λ(_:Nat)=>rdCon) f l)):=by
 have hbl:=h.lt
 have H1:=sx_signR S b l ⟨#[123]⟩ w h hS hl
 rw[show(⟨#[123]⟩:ByteArray).data.toList=[123] from rfl,took]at H1
 obtain⟨M,hM⟩:∃M,brF (λ(_:Nat)=>rdCon) f l=M:=⟨_,rfl⟩
 rw[hM]
 have HMM:=hidE hM
 have HS:=hidE hS
 have HIH:=hidE IH
 have HRD:=hidE hrd
 have HLE:=hidE hle
 have HG:=hidE hG
 have HL:Hid (l.length<=100000/\3*l.length<=f+3):=hidE ⟨hl,hf⟩
 obtain⟨q,hq⟩:∃q,isHd l 6 [123]=q:=⟨_,rfl⟩
 rw[hq]at H1
 have HQ:=hidE hq
 have H1:=hidE H1
 clear h hS IH hrd hG hl hf hq hle hM
 go_enter Tryz.func165,Tryz.ntmps165
 go_wp2_with fail
 refine H1.out.mono ?_
 rintro e w2 ⟨rfl,hr2,c2⟩
 have hs2:=c2.size
 cases q with
 | false =>
  have HM:Hid (M=none):=hidE (by rw[<-HMM.out,brF_eq,HQ.out,if_neg (by decide)])
  have C2:=hidE c2
  clear c2 hr2 H1
  go_wp2_with fail
  go_ret2
  exact⟨C2.out,none,0,0,.inl ⟨HM.out,rfl⟩⟩
 | true =>
  rw[if_pos rfl]at hr2
  obtain⟨t0,l1,e1,-,-⟩:=isHd_ne l 6 [123] (by decide) HQ.out
  have hG1:AllG l.tail:=AllG.tail' HG.out
  have hl1:l.tail.length+1=l.length:=by rw[e1];rfl
  obtain⟨r1,hr1⟩:∃r1,l.tail=r1:=⟨_,rfl⟩
  have HMM:Hid (M=brG (λ(_:Nat)=>rdCon) f r1):=hidE (by rw[<-HMM.out,brF_eq,HQ.out,if_pos rfl,hr1])
  rw[hr1]at hr2 hG1 hl1
  have hL:=HL.out
  rw[<-hl1]at hL
  have H2:=sx_signR S b r1 ⟨#[125]⟩ w2 hr2 (λg hg=>⟨(HS.out g hg).1,by have:=(HS.out g hg).2;omega⟩) (by omega)
  rw[show(⟨#[125]⟩:ByteArray).data.toList=[125] from rfl,took]at H2
  obtain⟨q2,hq2⟩:∃q,isHd r1 6 [125]=q:=⟨_,rfl⟩
  rw[hq2]at H2
  have HQ2:=hidE hq2
  have H2:=hidE H2
  have C2:=hidE c2
  have HG1:=hidE hG1
  clear e1 hr1 hr2 hq2 c2 HL HG HQ hl1 H1 hG1
  go_wp2_with fail
  refine H2.out.mono ?_
  rintro e w3 ⟨rfl,hr3,c3⟩
  have hs3:=c3.size
  have C3:=hidE (C2.out.trans c3)
  clear c3 H2
  cases q2 with
  | true =>
   rw[if_pos rfl]at hr3
   have HM:Hid (M=some ([],r1.tail)):=hidE (by rw[HMM.out,brG,HQ2.out,if_pos rfl])
   have HR3:=hidE hr3
   clear hr3
   go_wp2_with fail
   go_ret2
   exact⟨C3.out,none,0,0,.inr ⟨[],r1.tail,HM.out,rfl,rfl,(λh=>absurd rfl h),HR3.out⟩⟩
  | false =>
   rw[if_neg (by decide)]at hr3
   have H3:=hidE (sx_separatedC f S b r1 w3 hr3 (λg hg=>⟨(HS.out g hg).1,by have:=(HS.out g hg).2;omega⟩) HG1.out (by omega) (by omega) HIH.out HRD.out)
   obtain⟨O,hO⟩:∃O,sepM (λ(_:Nat)=>rdCon) f r1=O:=⟨_,rfl⟩
   rw[hO]at H3
   have HO:=hidE hO
   clear hr3 hO
   go_wp2_with fail
   refine H3.out.mono ?_
   rintro e w4 ⟨c4,A,m,c,hcs⟩
   have hs4:=c4.size
   have C4:=hidE (C3.out.trans c4)
   have C4':=hidE c4
   clear c4 H3
   rcases hcs with⟨ho,rfl⟩|⟨xs,r3,ho,rfl,hm,hx,hr4⟩
   ·have HM:Hid (M=none):=hidE (by rw[HMM.out,brG,HQ2.out,if_neg (by decide),HO.out,ho])
    clear ho
    go_wp2_with fail
    go_ret2
    exact⟨C4.out,A,m,c,.inl ⟨HM.out,rfl⟩⟩
   ·subst ho
    have HM3:Hid (M=if isHd r3 6 [125]=true then some (xs,r3.tail) else none):=hidE (by rw[HMM.out,brG,HQ2.out,if_neg (by decide),HO.out])
    have hle:=HLE.out r1 xs r3 HG1.out HO.out
    have H4:=sx_signR S b r3 ⟨#[125]⟩ w4 hr4 (λg hg=>⟨(HS.out g hg).1,by have:=(HS.out g hg).2;omega⟩) (by omega)
    rw[show(⟨#[125]⟩:ByteArray).data.toList=[125] from rfl,took]at H4
    obtain⟨q4,hq4⟩:∃q,isHd r3 6 [125]=q:=⟨_,rfl⟩
    rw[hq4]at H4
    have HQ4:=hidE hq4
    have H4:=hidE H4
    have HM:=hidE hm
    have HX:=hidE hx
    clear hm hx hr4 hq4 hle HO
    go_wp2_with fail
    refine H4.out.mono ?_
    rintro e w5 ⟨rfl,hr5,c5⟩
    have hs5:=c5.size
    have C5:=hidE (C4.out.trans c5)
    have C5':=hidE c5
    clear c5 H4
    cases q4 with
    | false =>
     have HM4:Hid (M=none):=hidE (by rw[HM3.out,HQ4.out,if_neg (by decide)])
     clear hr5
     go_wp2_with fail
     go_ret2
     exact⟨C5.out,A,m,c,.inl ⟨HM4.out,rfl⟩⟩
    | true =>
     rw[if_pos rfl]at hr5
     have HR5:=hidE hr5
     have HM4:Hid (M=some (xs,r3.tail)):=hidE (by rw[HM3.out,HQ4.out,if_pos rfl])
     clear hr5
     go_wp2_with fail
     go_ret2
     exact⟨C5.out,A,m,c,.inr ⟨xs,r3.tail,HM4.out,rfl,HM.out,HX.out.keep (λg hg=>⟨by omega,by omega⟩) (λg hg=>C5'.out.block g hg.2 (by unfold only;omega)),HR5.out⟩⟩
end Go.Proofs.YtmbmjneibkihkaaGreatDoor

namespace Go.Proofs.YtmbmjneibkihkaaGreatDoor
open Go.RowKit Lx Tx Sx
set_option maxRecDepth 100000
set_option maxHeartbeats 400000 in
theorem nx_sepD(S:Nat->Prop)(b bx:Nat)(l:List Tok)(w:World)(h:RdrS S w b l)(hbx:w.cell? ⟨bx,0,none⟩=some (.pointer (some ⟨b,0,none⟩)))(hS:∀g,S g->g≠b/\g<w.heap.size)(hl:l.length<=100000) :
  Calls Tryz.prog 162 #[.pointer (some ⟨bx,0,none⟩)] w λe w'=>e=.returned (.bool (semB l))/\RdrS S w' b (if semB l=true then l.tail else l)/\ChR b w w':=by
 have HT:=hidE (sx_signR S b l ⟨#[59]⟩ w h hS hl)
 rw[show(⟨#[59]⟩:ByteArray).data.toList=[59] from rfl,took]at HT
 unfold semB
 obtain⟨q,hq⟩:∃q,isHd l 6 [59]=q:=⟨_,rfl⟩
 rw[hq]at HT ⊢
 obtain⟨L2,hL2⟩:∃x,(if q=true then l.tail else l)=x:=⟨_,rfl⟩
 rw[hL2]at HT ⊢
 have hbl:=lt_cell hbx
 have hb:=h.lt
 clear h hS hl hq hL2
 go_enter Tryz.func162,Tryz.ntmps162
 go_wp2_with fail
 refine HT.out.mono ?_
 rintro e w1 ⟨rfl,r1,b1⟩
 have R1:=hidE r1
 have B1:=hidE b1
 clear r1 b1 HT
 go_wp2_with fail
 go_ret
 exact⟨rfl,R1.out,B1.out⟩
theorem infoD:(Tryz.prog.info? 59).map (λi=>(i.zero,i.size,i.bytes))=some (some (.agg #[.int .i64 0,.string ⟨#[]⟩,.slice none 0 0,.slice none 0 0,.int .i64 0,.string ⟨#[]⟩,.int .i64 0,.slice none 0 0,.int .i64 0,.string ⟨#[]⟩,.bool false,.int .i64 0,.string ⟨#[]⟩,.int .i64 0,.slice none 0 0,.slice none 0 0,.slice none 0 0]),17,264):=by kernel_rfl
set_option maxHeartbeats 3200000 in
theorem sx_longerD(f:Nat)(S:Nat->Prop)(b:Nat)(l:List Tok)(w0 w:World)(x0:De)(g0 bx:Nat)(hbx:w0.cell? ⟨bx,0,none⟩=some (.pointer (some ⟨b,0,none⟩)))(hbb:bx≠b)(h0:BuiltG pcD w0.heap.size 59 w [x0] (.slice (some ⟨g0,0,none⟩) 1 1))(h:RdrS S w b l)(hS:∀g,S g->g≠b/\g<w0.heap.size)(hb:b<w0.heap.size)(hc0:ChR b w0 w)(hG:AllG l)(hl:l.length<=100000)(hf:3*l.length+1<=f)
  (IH:∀f1,f1<=f->GReads pcD shD S b 83 0 (λ(_:Nat)=>rdDecl) f1)(hrd:∀(f1:Nat)(l:List Tok)(x:De)(r:List Tok),AllG l->(λ(_:Nat)=>rdDecl) f1 l=some (x,r)->AllG r/\r.length<l.length) :
  Calls Tryz.prog 161 #[.slice (some ⟨g0,0,none⟩) 1 1,.func (.func 162) #[] #[.pointer (some ⟨bx,0,none⟩)],.func (.func 83) #[.pointer (some ⟨b,0,none⟩)] #[]] w
   (LPost pcD S b w0 ((manyF semB List.tail (λ(_:Nat)=>rdDecl) f l).map λy=>([x0]++y.1,y.2))):=by
 obtain⟨i0,hi0,hz0,hz1,hz2⟩:=info_parts infoD
 have hbl:=lt_cell hbx
 have hcell:∀wr,ChR b w0 wr->wr.cell? ⟨bx,0,none⟩=some (.pointer (some ⟨b,0,none⟩)):=λwr h=>(World.cell?_of_block (a:=⟨bx,0,none⟩) (h.block bx hbl (by unfold only;omega))).trans hbx
 have HCELL:=hidE hcell
 obtain⟨L,hL⟩:∃L,l.length=L:=⟨_,rfl⟩
 have HL:=hidE hL
 have HS:=hidE hS
 have HIH:=hidE IH
 have HRD:=hidE hrd
 have HH:Hid (HeadG pcD semB List.tail (λ(_:Nat)=>rdDecl) S b w0.heap.size 1 f 59 [x0] l w0 L (.slice (some ⟨g0,0,none⟩) 1 1) w):=hidE ⟨l,f,[],some ⟨g0,0,none⟩,1,hL.symm,rfl,hG,by simp,hf,Nat.le_refl _,hidE h,hidE (by simp),hidE (by rw[List.append_nil];exact h0),hidE hc0⟩
 rw[hL]at hl hf
 clear h hS hL IH hrd hc0 h0 hbx hcell
 go_enter Tryz.func161,Tryz.ntmps161
 go_wp2_with fail
 go_loopg [0] L (λgg v wr=>HeadG pcD semB List.tail (λ(_:Nat)=>rdDecl) S b w0.heap.size 1 f 59 [x0] l w0 gg v wr)
 case atStart=>exact HH.out
 case round =>
  obtain⟨r,f',done,A,c,rfl,rfl,hG',hle,hf1,hf2,hr,hv,hbu,hc⟩:=hrel
  rw[HL.out]at hle
  have hsz:=hc.out.size
  obtain⟨f1,rfl⟩:∃f1,f'=f1+1:=⟨f'-1,by omega⟩
  obtain⟨n,hn⟩:∃n,([x0]++done).length=n:=⟨_,rfl⟩
  have hn':n<=1+done.length:=by rw[<-hn];simp <;> omega
  rw[hn]at hbu ⊢
  have HN:=hidE hn
  obtain⟨rn,hrn⟩:∃n,r.length=n:=⟨_,rfl⟩
  have HRN:=hidE hrn
  rw[hrn]at hle hf1
  have hA:=hidE (nx_sepD S b bx r wr hr.out (HCELL.out wr hc.out) (λg hg=>⟨(HS.out g hg).1,by have:=(HS.out g hg).2;omega⟩) (by rw[hrn];omega))
  have HG':=hidE hG'
  clear hn hrn HH hG'
  obtain⟨q,hq⟩:∃q,semB r=q:=⟨_,rfl⟩
  rw[hq]at hA
  have HQ:=hidE hq
  clear hq
  go_wp2_with fail
  refine hA.out.mono ?_
  rintro e w2 ⟨rfl,hr2,c2⟩
  have hs2:=c2.size
  have HC2:=hidE (hc.out.trans c2)
  have HBU:=hidE (hbu.out.chgR c2 hb)
  clear c2 hA hbu
  cases q with
  | false =>
   rw[if_neg (by decide)]at hr2
   have HR2:=hidE hr2
   have HV:=hidE (hv.out.trans (congrArg (Option.map λy:List De × List Tok=>(done++y.1,y.2)) (many_end f1 r HQ.out)))
   clear hr2 hv
   go_wp2_with fail
   go_ret2
   refine⟨HC2.out,A,n,c,.inr ⟨[x0]++done,r,by rw[HV.out];simp,rfl,HN.out.symm,HBU.out.lst.2,HR2.out⟩⟩
  | true =>
   rw[if_pos rfl]at hr2
   obtain⟨hg2,hl2,hf3⟩:=nx_sep_af r HG'.out HQ.out
   rw[HRN.out]at hl2 hf3
   have HP:=hidE (HIH.out f1 (by omega) w2 _ hr2 (λg hg=>⟨(HS.out g hg).1,by have:=(HS.out g hg).2;omega⟩) hg2 (by omega) (by omega))
   obtain⟨O,hO⟩:∃O,(λ(_:Nat)=>rdDecl) f1 (List.tail r)=O:=⟨_,rfl⟩
   have HO:=hidE hO
   have HG2:=hidE hg2
   rw[hO]at HP
   clear hr2 hg2 hO
   go_wp2_with fail
   refine HP.out.mono ?_
   rintro e w3 ⟨c3,cs,hsh,hcs⟩
   obtain⟨k0,s,V,vm,vq,G,gm,gq,K0,X0,Z0,B0,m0,q0,ek,ex,et,tk,tx,tz,tA,tm,tq,KA,kn,kc,LA,ln,lc,rfl⟩:=hsh
   have hs3:=c3.size
   rcases hcs with⟨ho,rfl⟩|⟨px,r2,ho,rfl,hx,hr3⟩
   ·have HV:=hidE (hv.out.trans (congrArg (Option.map λy:List De × List Tok=>(done++y.1,y.2)) (many_no f1 r HQ.out (HO.out.trans ho))))
    have HC3:=hidE (HC2.out.trans c3)
    clear hv ho c3 HP
    go_wp2_with fail
    go_ret2
    exact⟨HC3.out.alloc _,none,0,0,.inl ⟨by rw[HV.out];rfl,rfl⟩⟩
   ·have HV:=hidE (hv.out.trans (congrArg (Option.map λy:List De × List Tok=>(done++y.1,y.2)) (many_yes f1 r HQ.out px r2 (HO.out.trans ho))))
    have hg3:=HRD.out f1 _ px r2 HG2.out (HO.out.trans ho)
    have hlr:=hg3.2
    have HG3:=hidE hg3.1
    have HX:=hidE hx
    have HR3:=hidE hr3
    have C3:=hidE c3
    obtain⟨vs,hown,hrow⟩:=HBU.out
    rw[HN.out]at hown
    have HOWN:=hidE hown
    have HROW:=hidE hrow
    have hown3:=own_chgR hown c3 hb
    have HLT:=hown3.lt
    have HO3:=hidE ((hown3.alloc (.cells #[.int .i64 k0,.string s,.slice V vm vq,.slice G gm gq,.int .i64 K0,.string X0,.int .i64 Z0,.slice B0 m0 q0,.int .i64 ek,.string ex,.bool et,.int .i64 tk,.string tx,.int .i64 tz,.slice tA tm tq,.slice KA kn kc,.slice LA ln lc] 59)).alloc (.cells #[.int .i64 k0,.string s,.slice V vm vq,.slice G gm gq,.int .i64 K0,.string X0,.int .i64 Z0,.slice B0 m0 q0,.int .i64 ek,.string ex,.bool et,.int .i64 tk,.string tx,.int .i64 tz,.slice tA tm tq,.slice KA kn kc,.slice LA ln lc] 59))
    clear hv ho c3 HP hg3 hx hr3 hown hrow hown3 HBU
    go_wp2_with (at_builtin;refine wpList_append_own_at _ rfl (.tmp 25) (.tmp 27) 23 rfl w0.heap.size 59 i0 _ 17 264 Tryz.underlying23 hi0 hz0 hz1 hz2 rfl (by decide) _ n vs rfl HO3.out ⟨w3.heap.size+1,0,none⟩ 1 1 [.int .i64 k0,.string s,.slice V vm vq,.slice G gm gq,.int .i64 K0,.string X0,.int .i64 Z0,.slice B0 m0 q0,.int .i64 ek,.string ex,.bool et,.int .i64 tk,.string tx,.int .i64 tz,.slice tA tm tq,.slice KA kn kc,.slice LA ln lc] rfl rfl (new_cells' _ _ _ _ (by simp)) (by intro u hu;simp at hu;rcases hu with rfl|rfl|rfl|rfl|rfl|rfl|rfl|rfl|rfl|rfl|rfl|rfl|rfl|rfl|rfl|rfl|rfl <;> rfl) (by unfold maxLen;omega) (by omega) (by simp;omega) ?_;intro v2 w5 hown5 hgrow _ hat5;obtain⟨A2,c2,rfl⟩:=own_shape hown5;have HO5:=hidE hown5;have HG5:=hidE hgrow;have HT5:=hidE hat5;clear hown5 hgrow hat5)
    have hs5:=HG5.out.size
    simp at hs5
    have hk5:∀k,k<w0.heap.size->w5.heap[k]? = w3.heap[k]?:=λk hk=>(HG5.out.block k (by simp;omega) (λe=>by have:=HLT _ e.symm;omega)).trans ((Below.heap_alloc _ _ _ (by simp;omega)).trans (Below.heap_alloc _ _ _ (by omega)))
    go_roundg r2.length
    case measure=>rw[HRN.out];omega
    case rel =>
     refine⟨r2,f1,done++[px],A2,c2,rfl,?_,HG3.out,?_,by omega,by omega,hidE (HR3.out.keep (hk5 b hb) (λg hg=>hk5 g (HS.out g hg).2)),hidE ?_,hidE ?_,hidE ((((HC2.out.trans C3.out).alloc _).alloc _).grown HG5.out (λj hj=>.inl (by have:=HLT _ hj;omega)))⟩
     ·rw[<-List.append_assoc,List.length_append,HN.out];rfl
     ·rw[List.length_append,HL.out];simp;omega
     ·rw[HV.out];simp[Function.comp_def]
     ·rw[<-List.append_assoc,show([x0]++done++[px]).length=n+1 by rw[List.length_append,HN.out];rfl]
      exact BuiltG.next (w:=w2) (w1:=w3) hb (by omega) (by rw[HN.out];exact HOWN.out) HROW.out C3.out HX.out (((Below.refl _ w3).alloc (Nat.le_refl _) _).alloc (by simp) _) (by rw[HN.out];exact HO5.out) HG5.out HT5.out
end Go.Proofs.YtmbmjneibkihkaaGreatDoor

namespace Go.Proofs.YtmbmjneibkihkaaGreatDoor
open Go.RowKit Lx Tx Sx
set_option maxRecDepth 100000
set_option maxHeartbeats 3200000 in
theorem sx_separatedD(f:Nat)(S:Nat->Prop)(b:Nat)(l:List Tok)(w:World)(h:RdrS S w b l)(hS:∀g,S g->g≠b/\g<w.heap.size)(hG:AllG l)(hl:l.length<=100000)(hf:3*l.length<=f)
  (IH:∀f1,f1<=f->GReads pcD shD S b 83 0 (λ(_:Nat)=>rdDecl) f1)(hrd:∀(f1:Nat)(l:List Tok)(x:De)(r:List Tok),AllG l->(λ(_:Nat)=>rdDecl) f1 l=some (x,r)->AllG r/\r.length<l.length) :
  Calls Tryz.prog 128 #[.pointer (some ⟨b,0,none⟩),.func (.func 83) #[.pointer (some ⟨b,0,none⟩)] #[]] w (LPost pcD S b w (sepM (λ(_:Nat)=>rdDecl) f l)):=by
 have hbl:=h.lt
 obtain⟨w0,hw0⟩:∃x,w.alloc (.cells #[.pointer (some ⟨b,0,none⟩)] 148)=x:=⟨_,rfl⟩
 have z0:w0.heap.size=w.heap.size+1:=by rw[<-hw0];simp
 have hb0:w0.cell? ⟨w.heap.size,0,none⟩=some (.pointer (some ⟨b,0,none⟩)):=by
  have hB:Blk w0 w.heap.size 148 #[.pointer (some ⟨b,0,none⟩)]:=hw0▸heap_alloc_new w _
  exact hB.cell 0
 have c0:ChR b w w0:=hw0▸(ChR.refl b w).alloc _
 have h0:RdrS S w0 b l:=hw0▸h.alloc _ (λg hg=>(hS g hg).2)
 have hS0:∀g,S g->g≠b/\g<w0.heap.size:=λg hg=>⟨(hS g hg).1,by have:=(hS g hg).2;omega⟩
 have HC0:=hidE c0
 have HB0:=hidE hb0
 have HP:=hidE (IH f (Nat.le_refl _) w0 l h0 hS0 hG hl (by omega))
 obtain⟨O,hO⟩:∃O,(λ(_:Nat)=>rdDecl) f l=O:=⟨_,rfl⟩
 rw[hO]at HP
 have HO:=hidE hO
 obtain⟨M,hM⟩:∃M,sepM (λ(_:Nat)=>rdDecl) f l=M:=⟨_,rfl⟩
 rw[hM]
 have HM:=hidE hM
 clear hM
 have HS:=hidE hS0
 have HIH:=hidE IH
 have HRD:=hidE hrd
 have HG:=hidE hG
 clear h h0 hO hS hS0 IH hrd hG c0
 go_enter Tryz.func128,Tryz.ntmps128
 go_wp2_with fail
 try rw[hw0]
 refine HP.out.mono ?_
 clear hw0 hb0
 rintro e w2 ⟨c2,cs,hsh,hcs⟩
 obtain⟨k0,s,V,vm,vq,G,gm,gq,K0,X0,Z0,B0,m0,q0,ek,ex,et,tk,tx,tz,tA,tm,tq,KA,kn,kc,LA,ln,lc,rfl⟩:=hsh
 have hs2:=c2.size
 clear HP
 rcases hcs with⟨ho,rfl⟩|⟨px,r2,ho,rfl,hx,hr2⟩
 ·have HO2:Hid (M=none):=hidE (by rw[<-HM.out,sepM,HO.out,ho])
  have C2:=hidE c2
  clear ho c2
  go_wp2_with fail
  go_ret2
  exact LPost.pre HC0.out ⟨C2.out.alloc _,none,0,0,.inl ⟨HO2.out,rfl⟩⟩
 ·subst ho
  have hg2:=HRD.out f l px r2 HG.out HO.out
  have hlr:=hg2.2
  have HQ:=hidE (sx_longerD f S b r2 w0 ((w2.alloc (.cells #[.int .i64 k0,.string s,.slice V vm vq,.slice G gm gq,.int .i64 K0,.string X0,.int .i64 Z0,.slice B0 m0 q0,.int .i64 ek,.string ex,.bool et,.int .i64 tk,.string tx,.int .i64 tz,.slice tA tm tq,.slice KA kn kc,.slice LA ln lc] 59)).alloc (.cells #[.int .i64 k0,.string s,.slice V vm vq,.slice G gm gq,.int .i64 K0,.string X0,.int .i64 Z0,.slice B0 m0 q0,.int .i64 ek,.string ex,.bool et,.int .i64 tk,.string tx,.int .i64 tz,.slice tA tm tq,.slice KA kn kc,.slice LA ln lc] 59)) px (w2.heap.size+1) w.heap.size HB0.out (by omega) (BuiltG.one (S:=λg=>w0.heap.size<=g/\g<w2.heap.size) hx (λg hg=>hg) hs2 _)
   ((hr2.alloc _ (λg hg=>by have:=(HS.out g hg).2;omega)).alloc _ (λg hg=>by have:=(HS.out g hg).2;simp;omega)) HS.out (by omega) ((c2.alloc _).alloc _) hg2.1 (by omega) (by omega) HIH.out HRD.out)
  clear hg2 hlr hx hr2 c2
  obtain⟨O2,hO2⟩:∃O2,manyF semB List.tail (λ(_:Nat)=>rdDecl) f r2=O2:=⟨_,rfl⟩
  have HO2:Hid (M=O2.map λz=>(px::z.1,z.2)):=hidE (by rw[<-HM.out,sepM,HO.out,<-hO2])
  rw[hO2]at HQ
  clear hO2
  go_wp2_with fail
  refine HQ.out.mono ?_
  rintro e w3 ⟨c3,A,m,c,hcs⟩
  have C3:=hidE c3
  clear c3 HQ
  rcases hcs with⟨ho,rfl⟩|⟨xs,r3,ho,rfl,hm,hx,hr3⟩
  ·have HO:=hidE (HO2.out.trans ho)
   clear ho
   go_wp2_with fail
   go_ret2
   exact LPost.pre HC0.out ⟨C3.out,A,m,c,.inl ⟨HO.out,rfl⟩⟩
  ·have HO:=hidE (HO2.out.trans ho)
   have HM:=hidE hm
   have HX:=hidE hx
   have HR:=hidE hr3
   clear ho hm hx hr3
   go_wp2_with fail
   go_ret2
   exact LPost.pre HC0.out ⟨C3.out,A,m,c,.inr ⟨xs,r3,HO.out,rfl,HM.out,HX.out,HR.out⟩⟩
end Go.Proofs.YtmbmjneibkihkaaGreatDoor
