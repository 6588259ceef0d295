import Derived.Test.YtaomnlcplmkokaaGreatDoorBiAG
import Derived.Deep.CutRange
set_option maxHeartbeats 12800000
namespace Go.Proofs.YtaomnlcplmkokaaGreatDoor
open Go.RowKit Lx Tx Go.Maps Go.WideMaps Go.Shelf
set_option maxRecDepth 100000
theorem zkd(t:Ty)(h:t.size<=1000000):t.metas.length<=1000000:=by
 have key:∀(l:List Nat) (n:Nat),(addN n l).length<=l.length+1:=λl n=>by unfold addN;split <;> simp
 have hm:∀(n:Nat) (t:Ty),t.size<=n->∀out,(t.metasO out).length<=out.length+t.size:=by
  intro n;induction n with
  |zero=>intro t h;rw[zak]at h;omega
  |succ n ih =>
   have hL:∀(l:List Ty),(∀u∈l,u.size<=n)->∀out,(zaO l out).length<=out.length+zab l:=by
    intro l;induction l with
    |nil=>intro _ out;rw[zaO,zab];omega
    |cons a l ihl =>
     intro hl out;rw[zaO,zab]
     have h1:=ihl (λu hu=>hl u (List.mem_cons_of_mem _ hu)) (a.metasO out);have h2:=ih a (hl a List.mem_cons_self) out;omega
   intro t h out;cases t with
   |var x=>rw[Ty.metasO];omega
   |mt k=>rw[Ty.metasO,zak];have:=key out k;omega
   |con c l =>
    rw[Ty.metasO,zak]
    rw[zak]at h
    have:=hL l (λu hu=>by obtain⟨i,hi,rfl⟩:=List.mem_iff_getElem.1 hu;have:=zfo l i hi;have h:zab l+1<=n+1:=h;omega) out;show _<=out.length+(zab l+1);omega
   |fn a b =>
    rw[Ty.metasO,zak]
    rw[zak]at h
    simp only[kids,zab]at h ⊢;have h1:=ih a (by omega) out;have h2:=ih b (by omega) (a.metasO out);omega
   |all x t =>
    rw[Ty.metasO,zak]
    rw[zak]at h
    simp only[kids,zab]at h ⊢;have h1:=ih t (by omega) out;omega
 have:=hm t.size t (Nat.le_refl _) [];unfold Ty.metas;simp at this;omega
def mayB(s:ByteArray)(t:Ty):Bool:=decide (s.size<=400/\∀n∈t.metas,n<600000)
def ReadPst(t:Ty)(q:Bool)(w:World)(e:Ending)(w':World):Prop :=
 ∃K X Z A m c K' X' Z' A' m' c',e=.returned (.tuple #[.agg #[.int .i64 K,.string X,.int .i64 Z,.slice A m c],.agg #[.int .i64 K',.string X',.int .i64 Z',.slice A' m' c'],.bool q]) /\
  RdN w' t (.agg #[.int .i64 K,.string X,.int .i64 Z,.slice A m c])/\RdN w' t (.agg #[.int .i64 K',.string X',.int .i64 Z',.slice A' m' c'])/\Below w.heap.size w w'
def NoPst(w:World)(e:Ending)(w':World):Prop :=
 ∃K X Z A m c K' X' Z' A' m' c',e=.returned (.tuple #[.agg #[.int .i64 K,.string X,.int .i64 Z,.slice A m c],.agg #[.int .i64 K',.string X',.int .i64 Z',.slice A' m' c'],.bool false])/\Below w.heap.size w w'
def HeadRd(l:List Nat)(n:Nat)(w0:World)(gg:Nat)(vi:Value)(wr:World):Prop :=
 ∃i,gg=n-i/\vi=.int .i64 (i:Nat)/\i<=n/\(∀k∈l.take i,k<600000)/\w0=wr
theorem zdm {P:Program} {fn:Func} {p p2 u:Tmp} {ty ty2:TypeId}(h:fn.results=#[.cell p ty,.cell p2 ty2,.tmp u])(tmps:Array Value)(w:World)(g g2:Nat)(t t2:TypeId)(cs cs2:Array Value)(fr fr2:Nat × Nat)(d d2:TypeDesc)
  (hp:tmps.getD p undef=.pointer (some ⟨g,0,none⟩))(hp2:tmps.getD p2 undef=.pointer (some ⟨g2,0,none⟩))(hg:w.heap[g]?=some (.cells cs t fr))(hg2:w.heap[g2]?=some (.cells cs2 t2 fr2))
  (hu:P.underlying ty=some d)(hu2:P.underlying ty2=some d2)(hd:(match d with|.struct _|.array _ _=>true|_=>false)=true)(hd2:(match d2 with|.struct _|.array _ _=>true|_=>false)=true)
  (hi:(P.info? ty).map (·.size)=some cs.size)(hi2:(P.info? ty2).map (·.size)=some cs2.size):(results fn tmps).run P w=.ok (.tuple #[.agg cs,.agg cs2,tmps.getD u undef]) w:=by
 have hp':tmps[p]?.getD undef=.pointer (some ⟨g,0,none⟩):=by simpa using hp
 have hp2':tmps[p2]?.getD undef=.pointer (some ⟨g2,0,none⟩):=by simpa using hp2
 simp[results,h,hp',hp2',asAddr,run_loadVar_row w g t ty cs fr d hg hu hd hi,run_loadVar_row w g2 t2 ty2 cs2 fr2 d2 hg2 hu2 hd2 hi2]
theorem zmB {s:ByteArray} {t:Ty} {n:Nat}(h:n∈t.metas)(hn:¬n<600000):mayB s t=false:=by
 unfold mayB;exact decide_eq_false (λe=>hn (e.2 n h))
theorem zp2 {s:ByteArray} {t:Ty}(h:∀n∈t.metas,n<600000):mayB s t=decide (s.size<=400):=by
 unfold mayB;by_cases hs:s.size<=400
 ·rw[decide_eq_true hs,decide_eq_true ⟨hs,h⟩]
 ·rw[decide_eq_false hs,decide_eq_false (λe=>hs e.1)]
theorem zp3 {w:World}(g g2:Nat)(hne:g≠g2) {t:TypeId} {a0 a1 a2 a3 b0 b1 b2 b3 c0 c1 c2 c3:Value}(h:Blk w g t #[a0,a1,a2,a3]):Blk ((((((((w.setCell ⟨g,0,none⟩ b0).setCell ⟨g,1,none⟩ b1).setCell ⟨g,2,none⟩ b2).setCell ⟨g,3,none⟩ b3).setCell ⟨g2,0,none⟩ c0).setCell ⟨g2,1,none⟩ c1).setCell ⟨g2,2,none⟩ c2).setCell ⟨g2,3,none⟩ c3) g t #[b0,b1,b2,b3] :=
 (zad b0 b1 b2 b3 h).same (zaj _ _ _ _ _ _ _ hne)
theorem zp4 {w w':World} {g:Nat}(h:w'.heap[g]?=w.heap[g]?):w'.drew.heap[g]?=w.heap[g]?:=h
theorem size_drew {w w':World}(h:w'.heap.size=w.heap.size):w.heap.size<=w'.drew.heap.size:=Nat.le_of_eq h.symm
theorem zru(w:World)(g g2:Nat)(b0 b1 b2 b3 c0 c1 c2 c3:Value)(k:Nat)(h1:k≠g)(h2:k≠g2):((((((((w.setCell ⟨g,0,none⟩ b0).setCell ⟨g,1,none⟩ b1).setCell ⟨g,2,none⟩ b2).setCell ⟨g,3,none⟩ b3).setCell ⟨g2,0,none⟩ c0).setCell ⟨g2,1,none⟩ c1).setCell ⟨g2,2,none⟩ c2).setCell ⟨g2,3,none⟩ c3).heap[k]?=w.heap[k]? :=
 (zaj _ _ _ _ _ _ k h2).trans (zaj _ _ _ _ _ _ k h1)
theorem zgl {w4 F:World}(g g2:Nat)(hne:g≠g2) {t t2:TypeId} {a0 a1 a2 a3 e0 e1 e2 e3 b0 b1 b2 b3 c0 c1 c2 c3:Value}(h1:Blk w4 g t #[a0,a1,a2,a3])(h2:Blk w4 g2 t2 #[e0,e1,e2,e3])
  (hF:((((((((w4.setCell ⟨g,0,none⟩ b0).setCell ⟨g,1,none⟩ b1).setCell ⟨g,2,none⟩ b2).setCell ⟨g,3,none⟩ b3).setCell ⟨g2,0,none⟩ c0).setCell ⟨g2,1,none⟩ c1).setCell ⟨g2,2,none⟩ c2).setCell ⟨g2,3,none⟩ c3).drew=F):Blk F g t #[b0,b1,b2,b3]/\Blk F g2 t2 #[c0,c1,c2,c3]/\(∀k,k≠g->k≠g2->F.heap[k]?=w4.heap[k]?)/\w4.heap.size<=F.heap.size/\∀w,Below g w w4->g<=g2->Below g w F:=by
 rw[<-hF]
 refine⟨Blk.drew (zp3 g g2 hne h1),Blk.drew (zad c0 c1 c2 c3 (h2.same (zaj w4 g b0 b1 b2 b3 g2 hne.symm))),λk h1 h2=>zp4 (zru w4 g g2 b0 b1 b2 b3 c0 c1 c2 c3 k h1 h2),size_drew (by simp),λw hb hg=>(zaf (zaf hb b0 b1 b2 b3 (Nat.le_refl _)) c0 c1 c2 c3 hg).drew⟩
theorem zbO(s:ByteArray)(t:Ty)(hp:parse s.data.toList=.ok t)(w:World)(hs:s.size<=maxLen):Calls Tryz.prog 10 #[.string s] w (ReadPst t (mayB s t) w):=by
 obtain⟨hnm,-,hsz,hl4⟩:=zhc _ _ hp;have hss:s.size<=4000:=by
   have:s.data.toList.length=s.size:=by rw[Array.length_toList];rfl
   omega
 have HP:=hidE (λw=>zkF s w hs);have HR:=hidE (λw=>zgF s w hs);have HPP:=hidE hp;have HM:=hidE (λS v w hv hS=>zmH t S v w (by omega) hv hS);obtain⟨L,hL⟩:∃L,t.metas=L:=⟨_,rfl⟩;have HML:=hidE (λ(h:∀n∈t.metas,n<600000)=>zp2 (s:=s) h);have HMF:=hidE (λn (h:n∈t.metas) (hn:¬n<600000)=>zmB (s:=s) h hn);have hLl:t.metas.length<=1000000:=zkd t (by omega);rw[hL]at HM HML HMF hLl
 obtain⟨Q,hQ⟩:∃Q,mayB s t=Q:=⟨_,rfl⟩;rw[hQ]at HML HMF ⊢
 obtain⟨n,hn⟩:∃n,L.length=n:=⟨_,rfl⟩;rw[hn]at hLl
 have HN:=hidE hn;obtain⟨l0,l1,ls,lb⟩:=za8 w (.cells #[.int .i64 0,.string ⟨#[]⟩,.int .i64 0,.slice none 0 0] 26) (.cells #[.int .i64 0,.string ⟨#[]⟩,.int .i64 0,.slice none 0 0] 29);obtain⟨W2,hW2⟩:∃W,(w.alloc (.cells #[.int .i64 0,.string ⟨#[]⟩,.int .i64 0,.slice none 0 0] 26)).alloc (.cells #[.int .i64 0,.string ⟨#[]⟩,.int .i64 0,.slice none 0 0] 29)=W:=⟨_,rfl⟩;rw[hW2]at l0 l1 ls lb
 have L0:Hid (Blk W2 w.heap.size 26 #[.int .i64 0,.string ⟨#[]⟩,.int .i64 0,.slice none 0 0]):=hidE l0;have L1:Hid (Blk W2 (w.heap.size+1) 29 #[.int .i64 0,.string ⟨#[]⟩,.int .i64 0,.slice none 0 0]):=hidE l1;have LS:=hidE ls;have LB:=hidE lb;have HW2:=hidE hW2;clear hp hs hnm hsz hl4 hL hQ hn l0 l1 ls lb hW2;go_enter Tryz.func10,Tryz.ntmps10
 go_upto_region 1 with fail
 rw[HW2.out]
 go_wp2_with fail
 refine(HP.out W2).mono ?_;rintro e w2 ⟨b2,K,X,Z,A,m,c,⟨k3,-,he3,-⟩|⟨t',ht',rfl,hr⟩⟩
 ·rw[HPP.out]at he3;cases he3
 rw[HPP.out]at ht'
 injection ht' with ht';subst ht';obtain⟨V2,hV2⟩:∃V,w2.alloc (.cells #[.int .i64 K,.string X,.int .i64 Z,.slice A m c] 26)=V:=⟨_,rfl⟩;have hbt:Blk (w2.alloc (.cells #[.int .i64 K,.string X,.int .i64 Z,.slice A m c] 26)) w2.heap.size 26 #[.int .i64 K,.string X,.int .i64 Z,.slice A m c]:=heap_alloc_new _ _;have hr2:=hr.keep (S':=λg=>W2.heap.size<=g/\g<w2.heap.size) (w':=w2.alloc (.cells #[.int .i64 K,.string X,.int .i64 Z,.slice A m c] 26)) (λ_ h=>h) (λg hg=>Below.heap_alloc _ _ _ hg.2);have hb2:Below W2.heap.size W2 (w2.alloc (.cells #[.int .i64 K,.string X,.int .i64 Z,.slice A m c] 26)):=b2.alloc b2.size _;have hz2:W2.heap.size<=w2.heap.size/\(w2.alloc (.cells #[.int .i64 K,.string X,.int .i64 Z,.slice A m c] 26)).heap.size=w2.heap.size+1:=⟨b2.size,by simp⟩;rw[hV2]at hbt hb2 hz2 hr2
 have R2:=hidE hr2;have HZ2:=hidE hz2;have BT:=hidE hbt;have B2:=hidE hb2;have HV2:=hidE hV2;clear b2 hr hbt hb2 HP hV2 hz2 hr2;go_upto_region 2 with fail
 rw[HV2.out]
 go_wp2_with fail
 refine(HR.out V2).mono ?_;rintro e w3 ⟨b3,K3,X3,Z3,A3,m3,c3,⟨k3,-,he3,-⟩|⟨t',ht',rfl,hr3⟩⟩
 ·rw[HPP.out]at he3;cases he3
 rw[HPP.out]at ht'
 injection ht' with ht';subst ht';obtain⟨V3,hV3⟩:∃V,w3.alloc (.cells #[.int .i64 K3,.string X3,.int .i64 Z3,.slice A3 m3 c3] 29)=V:=⟨_,rfl⟩;have h3:Below V2.heap.size V2 (w3.alloc (.cells #[.int .i64 K3,.string X3,.int .i64 Z3,.slice A3 m3 c3] 29)):=b3.alloc b3.size _;have hbk:Blk (w3.alloc (.cells #[.int .i64 K3,.string X3,.int .i64 Z3,.slice A3 m3 c3] 29)) w3.heap.size 29 #[.int .i64 K3,.string X3,.int .i64 Z3,.slice A3 m3 c3]:=heap_alloc_new _ _;have hr3':=hr3.keep (S':=λg=>V2.heap.size<=g/\g<w3.heap.size) (w':=w3.alloc (.cells #[.int .i64 K3,.string X3,.int .i64 Z3,.slice A3 m3 c3] 29)) (λg hg=>hg) (λg hg=>Below.heap_alloc _ _ _ hg.2);have hs3:(w3.alloc (.cells #[.int .i64 K3,.string X3,.int .i64 Z3,.slice A3 m3 c3] 29)).heap.size=w3.heap.size+1:=by simp
 rw[hV3]at h3 hbk hr3' hs3
 have BT3:=hidE (BT.out.below h3 BT.out.lt);have R23:=hidE (R2.out.keep (S':=λg=>W2.heap.size<=g/\g<w2.heap.size) (λ_ h=>h) (λg hg=>h3.block g (by have:=HZ2.out.2;omega)));have BK:=hidE hbk;have R3:=hidE hr3';have B3:=hidE (B2.out.trans (h3.mono B2.out.size));have HV3:=hidE hV3;obtain⟨p0,p1,p2,p3,-⟩:=zaa hbk;have hmet:=HM.out _ _ V3 hr3' (λg hg=>by omega);have HMET:=hidE hmet;have HS3:=hidE hs3;have HZ3:Hid (V2.heap.size<=w3.heap.size):=hidE b3.size;have h3z:=HZ3;clear b3 hr3 h3 hbk hr3' hs3 BT HR hV3 hmet HM HPP;go_upto_region 3 with fail
 rw[HV3.out]
 go_wp2_with fail
 refine HMET.out.mono ?_;rintro e w4 ⟨v4,rfl,hrow,b4⟩;obtain⟨A4,c4,hv4,hcl4⟩:=hrow.1;rw[zfl,HN.out]at hv4
 subst hv4;have B4:Hid (Below W2.heap.size W2 w4):=hidE (B3.out.trans (b4.mono B3.out.size));have BT4:=hidE (BT3.out.below b4 BT3.out.lt);have R24:=hidE (R23.out.keep (S':=λg=>W2.heap.size<=g/\g<w2.heap.size) (λ_ h=>h) (λg hg=>b4.block g (by have:=HZ2.out.2;have:=h3z.out;have:=HS3.out;omega)));have BK4:=hidE (BK.out.below b4 BK.out.lt);have R4:=hidE (R3.out.keep (S':=λg=>V2.heap.size<=g/\g<w3.heap.size) (λ_ h=>h) (λg hg=>b4.block g (by have:=HS3.out;omega)));have HCL:=hidE hcl4;have LT4:Hid (w3.heap.size<w4.heap.size):=hidE (by have:=b4.size;have:=HS3.out;omega);clear b4 hrow hcl4 HMET BT3 BK R3 p0 p1 p2 p3;have L04:=hidE (Blk.below L0.out B4.out (by have:=LS.out;omega));have L14:=hidE (Blk.below L1.out B4.out (by have:=LS.out;omega));go_wp2_with fail
 go_loopg [10] n (λgg vi wr=>HeadRd L n w4 gg vi wr)
 case atStart=>exact⟨0,rfl,rfl,Nat.zero_le _,by simp,rfl⟩
 case round =>
  obtain⟨i,rfl,rfl,hin,hall,rfl⟩:=hrel;obtain⟨x0,x1,x2,x3,-⟩:=zaa BT4.out;obtain⟨y0,y1,y2,y3,-⟩:=zaa BK4.out;obtain⟨z0,z1,z2,z3,r0,r1,r2,r3,hlz⟩:=zaa (show Blk w4 w.heap.size 26 _ from L04.out);obtain⟨u0,u1,u2,u3,s0,s1,s2,s3,hlu⟩:=zaa (show Blk w4 (w.heap.size+1) 29 _ from L14.out);have hle1:w.heap.size+2<=w2.heap.size:=by have:=HZ2.out.1;have:=LS.out;omega
  have hle2:w2.heap.size+1<=w3.heap.size:=by have:=HZ2.out.2;have:=HZ3.out;omega
  have hle3:w3.heap.size+1<=w4.heap.size:=LT4.out;have HALL:=hidE hall;clear hall;by_cases hlt:i<n
  ·have hlt':i<L.length:=by rw[HN.out];exact hlt
   obtain⟨g4,rfl,hg4,hcell⟩:=HCL.out (by rw[zfl];omega);have e0:=hcell i _ (zif L i hlt');have hmem:L[i]∈L:=List.getElem_mem hlt';have HTK:Hid (∀k∈L.take (i+1),k<600000\/k=L[i]):=hidE λk hk=>by
    rw[List.take_succ_eq_append_getElem hlt']at hk
    rcases List.mem_append.1 hk with hk|hk
    ·exact .inl (HALL.out k hk)
    ·exact .inr (List.mem_singleton.1 hk)
   obtain⟨z,hz⟩:∃z,L[i]=z:=⟨_,rfl⟩;rw[hz]at e0 hmem HTK
   clear hcell hz hlt';by_cases hbig:z<600000
   ·have HBG:=hidE hbig
    obtain⟨zi,hzi⟩:∃zi:Int,(z:Int)=zi:=⟨_,rfl⟩;rw[hzi]at e0
    have dz:decide ((600000:Int)<=zi)=false:=by rw[<-hzi];exact decide_eq_false (by omega)
    clear hbig hzi;go_wp2_with fail
    go_roundg (n-(i+1))
    case measure=>omega
    case rel=>exact⟨i+1,rfl,by go_num,by omega,λk hk=>(HTK.out k hk).elim id (λh=>by rw[h];exact HBG.out),rfl⟩
   ·have hq:=HMF.out z hmem hbig
    subst hq;obtain⟨zi,hzi⟩:∃zi:Int,(z:Int)=zi:=⟨_,rfl⟩;rw[hzi]at e0
    have dz:decide ((600000:Int)<=zi)=true:=by rw[<-hzi];exact decide_eq_true (by omega)
    clear hbig hzi;go_upto_region 8 with fail
    go_region
    all_goals
     go_wp2_with fail
     try simp only[Exit.inBlock,Exit.then]
     obtain⟨F,hF⟩:∃F,((((((((w4.setCell ⟨w.heap.size,0,none⟩ (.int .i64 K)).setCell ⟨w.heap.size,1,none⟩ (.string X)).setCell ⟨w.heap.size,2,none⟩ (.int .i64 Z)).setCell ⟨w.heap.size,3,none⟩ (.slice A m c)).setCell ⟨w.heap.size+1,0,none⟩ (.int .i64 K3)).setCell ⟨w.heap.size+1,1,none⟩ (.string X3)).setCell ⟨w.heap.size+1,2,none⟩ (.int .i64 Z3)).setCell ⟨w.heap.size+1,3,none⟩ (.slice A3 m3 c3)).drew=F:=⟨_,rfl⟩;rw[hF]
     obtain⟨hf1,hf2,hf3,hf4,hf5'⟩:=zgl w.heap.size (w.heap.size+1) (Nat.succ_ne_self _).symm L04.out L14.out hF;have hf5:Below w.heap.size w F:=hf5' w (LB.out.trans (B4.out.mono (by have:=LS.out;omega))) (Nat.le_succ _);clear hF hf5';refine bodyPost_ret (zdm rfl _ F w.heap.size (w.heap.size+1) 26 29 #[.int .i64 K,.string X,.int .i64 Z,.slice A m c] #[.int .i64 K3,.string X3,.int .i64 Z3,.slice A3 m3 c3] (0,0) (0,0) _ _ rfl rfl hf1 hf2 Tryz.underlying26 Tryz.underlying29 rfl rfl (by kernel_rfl) (by kernel_rfl)) rfl ?_;refine⟨K,X,Z,A,m,c,K3,X3,Z3,A3,m3,c3,rfl,?_,?_,hf5⟩
     ·exact R24.out.keep (λg hg=>by have h:=hg.2;show g<_;omega) (λg hg=>hf3 g (by have h:=hg.1;have:=LS.out;omega) (by have h:=hg.1;have:=LS.out;omega))
     ·exact R4.out.keep (λg hg=>by have h:=hg.2;show g<_;omega) (λg hg=>hf3 g (by have h:=hg.1;have:=HZ2.out.2;omega) (by have h:=hg.1;have:=HZ2.out.2;omega))
  ·have hall:∀k∈L,k<600000:=λk hk=>HALL.out k (by rw[List.take_of_length_le (by rw[HN.out];omega)];exact hk)
   have hq:=HML.out hall;clear hall;by_cases h4:s.size<=400
   ·obtain rfl:Q=true:=by rw[hq,decide_eq_true h4]
    have d4:decide ((s.size:Int)<=400)=true:=decide_eq_true (by omega);clear hq;go_upto_region 9 with fail
    go_region
    all_goals
     go_wp2_with fail
     try simp only[Exit.inBlock,Exit.then]
     obtain⟨F,hF⟩:∃F,((((((((w4.setCell ⟨w.heap.size,0,none⟩ (.int .i64 K)).setCell ⟨w.heap.size,1,none⟩ (.string X)).setCell ⟨w.heap.size,2,none⟩ (.int .i64 Z)).setCell ⟨w.heap.size,3,none⟩ (.slice A m c)).setCell ⟨w.heap.size+1,0,none⟩ (.int .i64 K3)).setCell ⟨w.heap.size+1,1,none⟩ (.string X3)).setCell ⟨w.heap.size+1,2,none⟩ (.int .i64 Z3)).setCell ⟨w.heap.size+1,3,none⟩ (.slice A3 m3 c3)).drew=F:=⟨_,rfl⟩;rw[hF]
     obtain⟨hf1,hf2,hf3,hf4,hf5'⟩:=zgl w.heap.size (w.heap.size+1) (Nat.succ_ne_self _).symm L04.out L14.out hF;have hf5:Below w.heap.size w F:=hf5' w (LB.out.trans (B4.out.mono (by have:=LS.out;omega))) (Nat.le_succ _);clear hF hf5';refine bodyPost_ret (zdm rfl _ F w.heap.size (w.heap.size+1) 26 29 #[.int .i64 K,.string X,.int .i64 Z,.slice A m c] #[.int .i64 K3,.string X3,.int .i64 Z3,.slice A3 m3 c3] (0,0) (0,0) _ _ rfl rfl hf1 hf2 Tryz.underlying26 Tryz.underlying29 rfl rfl (by kernel_rfl) (by kernel_rfl)) rfl ?_;refine⟨K,X,Z,A,m,c,K3,X3,Z3,A3,m3,c3,rfl,?_,?_,hf5⟩
     ·exact R24.out.keep (λg hg=>by have h:=hg.2;show g<_;omega) (λg hg=>hf3 g (by have h:=hg.1;have:=LS.out;omega) (by have h:=hg.1;have:=LS.out;omega))
     ·exact R4.out.keep (λg hg=>by have h:=hg.2;show g<_;omega) (λg hg=>hf3 g (by have h:=hg.1;have:=HZ2.out.2;omega) (by have h:=hg.1;have:=HZ2.out.2;omega))
   ·obtain rfl:Q=false:=by rw[hq,decide_eq_false h4]
    have d4:decide ((s.size:Int)<=400)=false:=decide_eq_false (by omega);clear hq;go_upto_region 9 with fail
    go_region
    all_goals
     go_wp2_with fail
     try simp only[Exit.inBlock,Exit.then]
     obtain⟨F,hF⟩:∃F,((((((((w4.setCell ⟨w.heap.size,0,none⟩ (.int .i64 K)).setCell ⟨w.heap.size,1,none⟩ (.string X)).setCell ⟨w.heap.size,2,none⟩ (.int .i64 Z)).setCell ⟨w.heap.size,3,none⟩ (.slice A m c)).setCell ⟨w.heap.size+1,0,none⟩ (.int .i64 K3)).setCell ⟨w.heap.size+1,1,none⟩ (.string X3)).setCell ⟨w.heap.size+1,2,none⟩ (.int .i64 Z3)).setCell ⟨w.heap.size+1,3,none⟩ (.slice A3 m3 c3)).drew=F:=⟨_,rfl⟩;rw[hF]
     obtain⟨hf1,hf2,hf3,hf4,hf5'⟩:=zgl w.heap.size (w.heap.size+1) (Nat.succ_ne_self _).symm L04.out L14.out hF;have hf5:Below w.heap.size w F:=hf5' w (LB.out.trans (B4.out.mono (by have:=LS.out;omega))) (Nat.le_succ _);clear hF hf5';refine bodyPost_ret (zdm rfl _ F w.heap.size (w.heap.size+1) 26 29 #[.int .i64 K,.string X,.int .i64 Z,.slice A m c] #[.int .i64 K3,.string X3,.int .i64 Z3,.slice A3 m3 c3] (0,0) (0,0) _ _ rfl rfl hf1 hf2 Tryz.underlying26 Tryz.underlying29 rfl rfl (by kernel_rfl) (by kernel_rfl)) rfl ?_;refine⟨K,X,Z,A,m,c,K3,X3,Z3,A3,m3,c3,rfl,?_,?_,hf5⟩
     ·exact R24.out.keep (λg hg=>by have h:=hg.2;show g<_;omega) (λg hg=>hf3 g (by have h:=hg.1;have:=LS.out;omega) (by have h:=hg.1;have:=LS.out;omega))
     ·exact R4.out.keep (λg hg=>by have h:=hg.2;show g<_;omega) (λg hg=>hf3 g (by have h:=hg.1;have:=HZ2.out.2;omega) (by have h:=hg.1;have:=HZ2.out.2;omega))
set_option maxRecDepth 100000
theorem zn4(s:ByteArray)(er:Nat)(hp:parse s.data.toList=.error er)(w:World)(hs:s.size<=maxLen):Calls Tryz.prog 10 #[.string s] w (NoPst w):=by
 have hss:s.size<=9223372036854775807:=by unfold maxLen at hs;omega
 have HP:=hidE (λw=>zkF s w hs);have HR:=hidE (λw=>zgF s w hs);have HPP:=hidE hp;obtain⟨l0,l1,ls,lb⟩:=za8 w (.cells #[.int .i64 0,.string ⟨#[]⟩,.int .i64 0,.slice none 0 0] 26) (.cells #[.int .i64 0,.string ⟨#[]⟩,.int .i64 0,.slice none 0 0] 29);obtain⟨W2,hW2⟩:∃W,(w.alloc (.cells #[.int .i64 0,.string ⟨#[]⟩,.int .i64 0,.slice none 0 0] 26)).alloc (.cells #[.int .i64 0,.string ⟨#[]⟩,.int .i64 0,.slice none 0 0] 29)=W:=⟨_,rfl⟩;rw[hW2]at l0 l1 ls lb
 have L0:Hid (Blk W2 w.heap.size 26 #[.int .i64 0,.string ⟨#[]⟩,.int .i64 0,.slice none 0 0]):=hidE l0;have L1:Hid (Blk W2 (w.heap.size+1) 29 #[.int .i64 0,.string ⟨#[]⟩,.int .i64 0,.slice none 0 0]):=hidE l1;have LS:=hidE ls;have LB:=hidE lb;have HW2:=hidE hW2;clear hp hs l0 l1 ls lb hW2;go_enter Tryz.func10,Tryz.ntmps10
 go_upto_region 1 with fail
 rw[HW2.out]
 go_wp2_with fail
 refine(HP.out W2).mono ?_;rintro e w2 ⟨b2,K,X,Z,A,m,c,hor⟩;obtain⟨k2,hk2,-,rfl⟩:=hor.resolve_right (λh=>by obtain⟨t',ht',-⟩:=h;rw[HPP.out]at ht';cases ht');clear hor;obtain⟨V2,hV2⟩:∃V,w2.alloc (.cells #[.int .i64 K,.string X,.int .i64 Z,.slice A m c] 26)=V:=⟨_,rfl⟩;have hbt:Blk (w2.alloc (.cells #[.int .i64 K,.string X,.int .i64 Z,.slice A m c] 26)) w2.heap.size 26 #[.int .i64 K,.string X,.int .i64 Z,.slice A m c]:=heap_alloc_new _ _;have hb2:Below W2.heap.size W2 (w2.alloc (.cells #[.int .i64 K,.string X,.int .i64 Z,.slice A m c] 26)):=b2.alloc b2.size _;have hz2:W2.heap.size<=w2.heap.size/\(w2.alloc (.cells #[.int .i64 K,.string X,.int .i64 Z,.slice A m c] 26)).heap.size=w2.heap.size+1:=⟨b2.size,by simp⟩;rw[hV2]at hbt hb2 hz2
 have dk:((k2:Int)==0)=false:=kF _ 0 hk2;have HZ2:=hidE hz2;have BT:=hidE hbt;have B2:=hidE hb2;have HV2:=hidE hV2;clear b2 hbt hb2 HP hV2 hz2 hk2;go_upto_region 2 with fail
 rw[HV2.out]
 go_wp2_with fail
 refine(HR.out V2).mono ?_;rintro e w3 ⟨b3,K3,X3,Z3,A3,m3,c3,hor⟩;obtain⟨k3,-,-,rfl⟩:=hor.resolve_right (λh=>by obtain⟨t',ht',-⟩:=h;rw[HPP.out]at ht';cases ht');clear hor;obtain⟨V3,hV3⟩:∃V,w3.alloc (.cells #[.int .i64 0,.string ⟨#[]⟩,.int .i64 0,.slice none 0 0] 29)=V:=⟨_,rfl⟩;have h3:Below V2.heap.size V2 (w3.alloc (.cells #[.int .i64 0,.string ⟨#[]⟩,.int .i64 0,.slice none 0 0] 29)):=b3.alloc b3.size _;have hbk:Blk (w3.alloc (.cells #[.int .i64 0,.string ⟨#[]⟩,.int .i64 0,.slice none 0 0] 29)) w3.heap.size 29 #[.int .i64 0,.string ⟨#[]⟩,.int .i64 0,.slice none 0 0]:=heap_alloc_new _ _;have hs3:(w3.alloc (.cells #[.int .i64 0,.string ⟨#[]⟩,.int .i64 0,.slice none 0 0] 29)).heap.size=w3.heap.size+1:=by simp
 rw[hV3]at h3 hbk hs3
 have BT3:=hidE (BT.out.below h3 BT.out.lt);have BK:=hidE hbk;have B3:=hidE (B2.out.trans (h3.mono B2.out.size));have HV3:=hidE hV3;obtain⟨p0,p1,p2,p3,-⟩:=zaa hbk;have HS3:=hidE hs3;have HZ3:Hid (V2.heap.size<=w3.heap.size):=hidE b3.size;clear b3 h3 hbk hs3 BT HR hV3 HPP;go_upto_region 3 with fail
 rw[HV3.out]
 go_wp2_with fail
 refine(zlg V3).mono ?_;rintro e w4 ⟨rfl,b4⟩;have B4:Hid (Below W2.heap.size W2 w4):=hidE (B3.out.trans (b4.mono B3.out.size));have BT4:=hidE (BT3.out.below b4 BT3.out.lt);have BK4:=hidE (BK.out.below b4 BK.out.lt);have LT4:Hid (w3.heap.size<w4.heap.size):=hidE (by have:=b4.size;have:=HS3.out;omega);clear b4 BT3 BK p0 p1 p2 p3;have L04:=hidE (Blk.below L0.out B4.out (by have:=LS.out;omega));have L14:=hidE (Blk.below L1.out B4.out (by have:=LS.out;omega));go_wp2_with fail
 go_loopg [10] 0 (λgg vi wr=>gg=0/\vi=.int .i64 (0:Nat)/\w4=wr)
 case atStart=>exact⟨rfl,rfl,rfl⟩
 case round =>
  obtain⟨rfl,rfl,rfl⟩:=hrel;obtain⟨x0,x1,x2,x3,-⟩:=zaa BT4.out;obtain⟨y0,y1,y2,y3,-⟩:=zaa BK4.out;obtain⟨z0,z1,z2,z3,r0,r1,r2,r3,hlz⟩:=zaa (show Blk w4 w.heap.size 26 _ from L04.out);obtain⟨u0,u1,u2,u3,s0,s1,s2,s3,hlu⟩:=zaa (show Blk w4 (w.heap.size+1) 29 _ from L14.out);have hle1:w.heap.size+2<=w2.heap.size:=by have:=HZ2.out.1;have:=LS.out;omega
  have hle2:w2.heap.size+1<=w3.heap.size:=by have:=HZ2.out.2;have:=HZ3.out;omega
  have hle3:w3.heap.size+1<=w4.heap.size:=LT4.out;go_upto_region 9 with fail
  go_region
  all_goals
   go_wp2_with fail
   try simp only[Exit.inBlock,Exit.then]
   obtain⟨F,hF⟩:∃F,((((((((w4.setCell ⟨w.heap.size,0,none⟩ (.int .i64 K)).setCell ⟨w.heap.size,1,none⟩ (.string X)).setCell ⟨w.heap.size,2,none⟩ (.int .i64 Z)).setCell ⟨w.heap.size,3,none⟩ (.slice A m c)).setCell ⟨w.heap.size+1,0,none⟩ (.int .i64 0)).setCell ⟨w.heap.size+1,1,none⟩ (.string ⟨#[]⟩)).setCell ⟨w.heap.size+1,2,none⟩ (.int .i64 0)).setCell ⟨w.heap.size+1,3,none⟩ (.slice none 0 0)).drew=F:=⟨_,rfl⟩;rw[hF]
   obtain⟨hf1,hf2,hf3,hf4,hf5'⟩:=zgl w.heap.size (w.heap.size+1) (Nat.succ_ne_self _).symm L04.out L14.out hF;have hf5:Below w.heap.size w F:=hf5' w (LB.out.trans (B4.out.mono (by have:=LS.out;omega))) (Nat.le_succ _);clear hF hf5';refine bodyPost_ret (zdm rfl _ F w.heap.size (w.heap.size+1) 26 29 #[.int .i64 K,.string X,.int .i64 Z,.slice A m c] #[.int .i64 0,.string ⟨#[]⟩,.int .i64 0,.slice none 0 0] (0,0) (0,0) _ _ rfl rfl hf1 hf2 Tryz.underlying26 Tryz.underlying29 rfl rfl (by kernel_rfl) (by kernel_rfl)) rfl ?_;exact⟨K,X,Z,A,m,c,0,⟨#[]⟩,0,none,0,0,rfl,hf5⟩
def readsTo(s:ByteArray)(t:Ty):Prop:=parse s.data.toList=.ok t/\mayB s t=true
def AnyRead(s:ByteArray)(w:World)(e:Ending)(w':World):Prop :=
 ∃K X Z A m c K' X' Z' A' m' c' q,e=.returned (.tuple #[.agg #[.int .i64 K,.string X,.int .i64 Z,.slice A m c],.agg #[.int .i64 K',.string X',.int .i64 Z',.slice A' m' c'],.bool q])/\Below w.heap.size w w' /\
  (q=true->∃t,readsTo s t/\RdN w' t (.agg #[.int .i64 K,.string X,.int .i64 Z,.slice A m c])/\RdN w' t (.agg #[.int .i64 K',.string X',.int .i64 Z',.slice A' m' c']))
theorem zdJ(s:ByteArray)(w:World)(hs:s.size<=maxLen):Calls Tryz.prog 10 #[.string s] w (AnyRead s w):=by
 cases h:parse s.data.toList with
 |error n =>
  refine(zn4 s n h w hs).mono ?_;rintro e w' ⟨K,X,Z,A,m,c,K',X',Z',A',m',c',he,hb⟩;exact⟨K,X,Z,A,m,c,K',X',Z',A',m',c',false,he,hb,λh=>by cases h⟩
 |ok t =>
  refine(zbO s t h w hs).mono ?_;rintro e w' ⟨K,X,Z,A,m,c,K',X',Z',A',m',c',he,h1,h2,hb⟩;exact⟨K,X,Z,A,m,c,K',X',Z',A',m',c',_,he,hb,λhq=>⟨t,⟨h,hq⟩,h1,h2⟩⟩
theorem zcA {s:ByteArray} {t:Ty}(h:readsTo s t):Nm t/\t.size<=400:=by
 obtain⟨h1,h2⟩:=h;obtain⟨hn,-,hsz,-⟩:=zhc _ _ h1;have h4:=(of_decide_eq_true h2).1;have:s.data.toList.length=s.size:=by rw[Array.length_toList];rfl
 exact⟨hn,by omega⟩
end Go.Proofs.YtaomnlcplmkokaaGreatDoor
