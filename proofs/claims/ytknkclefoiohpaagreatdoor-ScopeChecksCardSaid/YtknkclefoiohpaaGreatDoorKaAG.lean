import Derived.Test.YtknkclefoiohpaaGreatDoorKaZ
import Derived.Test.YtknkclefoiohpaaGreatDoorKaV
import Derived.Test.YtknkclefoiohpaaGreatDoorKaAF
set_option maxHeartbeats 12800000
namespace Go.Proofs.YtknkclefoiohpaaGreatDoor
open Go.RowKit Lx Tx Sx Go.Shelf
set_option maxRecDepth 100000
def end0(o:Option (Ex × List Tok)):Except Nat Ex:=match o with|some (e,[])=>.ok e|_=>.error 80
def zbp(s:List UInt8):Except Nat Ex:=match zaX s with|(ts,_,0)=>end0 (rdE (zaJ ts) ts)|(_,_,e)=>.error e
def znM(o:Except Nat Ex):Except Nat Ex:=match o with|.ok e=>if e.tooDeep=true then .error 3 else .ok e|.error n=>.error n
theorem zgq(s:List UInt8):zci s=znM (zbp s):=by
 unfold zci zbp znM;rcases zaX s with⟨ts,a,er⟩;cases er with
 |zero =>
  simp only[end0];rcases rdE (zaJ ts) ts with _|⟨e,r⟩
  ·rfl
  ·cases r <;> rfl
 |succ n=>rfl
theorem zir(s:List UInt8)(ts:List Tok)(a er:Nat)(h:zaX s=(ts,a,er))(he:er≠0):zbp s=.error er:=by
 unfold zbp;rw[h]
 cases er with
 |zero=>exact absurd rfl he
 |succ n=>rfl
theorem zjW(s:List UInt8)(ts:List Tok)(a:Nat)(h:zaX s=(ts,a,0)):zbp s=end0 (rdE (zaJ ts) ts):=by
 unfold zbp;rw[h]
 rfl
def WhE(s:List UInt8)(w:World)(e:Ending)(w':World):Prop :=
 Below w.heap.size w w' /\
  ((∃n,n≠0/\zbp s=.error n/\e=.returned (.tuple #[.agg exZ,.int .i64 (n:Nat)])) \/
   (∃x cs,shE cs/\x.Ok/\x.wt<=4000/\zbp s=.ok x/\e=.returned (.tuple #[.agg cs.toArray,.int .i64 0])/\pcE.Cs (λg=>w.heap.size<=g/\g<w'.heap.size) w' x cs))
theorem za8 {B:Nat} {w w':World} {g:Nat}(h:Below B w w')(hg:B<=g)(b0 b1 b2 b3 b4 b5 b6 b7 b8:Value):Below B w (((((((((w'.setCell ⟨g,0,none⟩ b0).setCell ⟨g,1,none⟩ b1).setCell ⟨g,2,none⟩ b2).setCell ⟨g,3,none⟩ b3).setCell ⟨g,4,none⟩ b4).setCell ⟨g,5,none⟩ b5).setCell ⟨g,6,none⟩ b6).setCell ⟨g,7,none⟩ b7).setCell ⟨g,8,none⟩ b8) :=
 ((((((((h.setCell (p:=⟨g,0,none⟩) hg b0).setCell (p:=⟨g,1,none⟩) hg b1).setCell (p:=⟨g,2,none⟩) hg b2).setCell (p:=⟨g,3,none⟩) hg b3).setCell (p:=⟨g,4,none⟩) hg b4).setCell (p:=⟨g,5,none⟩) hg b5).setCell (p:=⟨g,6,none⟩) hg b6).setCell (p:=⟨g,7,none⟩) hg b7).setCell (p:=⟨g,8,none⟩) hg b8
theorem zlD(s:ByteArray)(gf:Nat)(w:World)(hs:s.size<=maxLen)(hc:w.cell? ⟨gf,0,none⟩=some (.func (.func 42) #[] #[])):Calls Tryz.prog 40 #[.string s,.func (.func 92) #[] #[.pointer (some ⟨gf,0,none⟩)],.int .i64 80] w (WhE s.data.toList w):=by
 have ek:∀args w,(callFunc 92 args).run Tryz.prog w=.ok (.enter 92 args) w:=enters_of Tryz.func92 (by kernel_rfl) rfl;have aV:=zaj hc;obtain⟨W0,ai⟩:∃W,(w.alloc (.cells exZ 39)).alloc (.cells exZ 39)=W:=⟨_,rfl⟩;have rI:Blk W0 w.heap.size 39 exZ:=ai▸Blk.below (tW w _) ((ua _ _).alloc (tV _) _) (by simp);have eW:Blk W0 (w.heap.size+1) 39 exZ:=ai▸zaA _ _ _ _ rfl;have aK:Below w.heap.size w W0:=ai▸((ua _ w).alloc (tV _) _).alloc (by simp) _;have eI:W0.heap.size=w.heap.size+2:=by rw[<-ai];simp
 have HC:Hid (∀V,Below W0.heap.size W0 V->V.cell? ⟨gf,0,none⟩=some (.func (.func 42) #[] #[])):=wJ λV hV =>
  (uV (w:=w) (a:=⟨gf,0,none⟩) ((hV.block gf (by omega)).trans (aK.block gf aV))).trans hc
 have R0:=wJ rI;have N0:=wJ eW;have B0:=wJ aK;unfold exZ at ai;clear rI eW aK hc;go_enter Tryz.func40,Tryz.ntmps40
 go_upto_region 2 with fail
 try rw[ai]
 clear ai;go_wp2_with fail
 refine(zgT s _ hs).mono ?_;rintro e w1 ⟨b1,v,ts,a,er,ix,rfl,ae⟩;have bj:=b1.size;have cN:=R0.out.below b1 (by omega);have mD:=N0.out.below b1 (by omega);replace B0:=wJ (B0.out.trans (b1.mono (by omega)));have l7:=wJ ix;have oR:=wJ (zeT rfl ae);have pG:=HC.out w1 b1;have R1:=wJ cN;have N1:=wJ mD;by_cases he:er=0
 ·subst he
  obtain⟨hG,hL⟩:=zev _ _ _ l7.out;have HR:=wJ (zlA _ gf ts v w1 oR.out (λ_ h=>h) hG (by omega) pG);obtain⟨O,hO⟩:∃O,rdE (zaJ ts) ts=O:=⟨_,rfl⟩;rw[hO]at HR
  have HP:Hid (zbp s.data.toList=end0 O):=wJ (by rw[zjW _ _ _ l7.out,hO]);have tg:Hid (∀x r,O=some (x,r)->x.Ok/\x.wt<=4000):=wJ λx r h=>by
   obtain⟨o1,-,o3⟩:=(rd_facts _).1 ts x r hG (hO.trans h);exact⟨o1,by omega⟩
  clear hO hG cN mD b1 ix ae pG;go_wp2_with fail
  refine HR.out.mono ?_;rintro e w2 ⟨b2,cs,A2,n,c2,q,bA,rfl,bk,bG⟩;obtain⟨ck,cx,ct,cK,cX,cZ,cB,cm,cq,aU,aR,aS,aT,aP,aQ,rfl⟩:=bA;have bo:=b2.size;obtain⟨V,hV⟩:∃V,w2.alloc (.cells #[.int .i64 ck,.string cx,.bool ct,.int .i64 cK,.string cX,.int .i64 cZ,.slice cB cm cq,.slice aU aR aS,.slice aT aP aQ] 39)=V:=⟨_,rfl⟩;have eM:Blk V w2.heap.size 39 #[.int .i64 ck,.string cx,.bool ct,.int .i64 cK,.string cX,.int .i64 cZ,.slice cB cm cq,.slice aU aR aS,.slice aT aP aQ]:=hV▸tW _ _;have aA:Below w1.heap.size w1 V:=hV▸b2.alloc b2.size _;have ie:∀g,g<w2.heap.size->V.heap[g]?=w2.heap[g]?:=λg hg=>hV▸uc _ _ _ hg;have dv:V.heap.size=w2.heap.size+1:=by rw[<-hV];simp
  have cN:=R1.out.below aA (by omega);have mD:=N1.out.below aA (by omega);have R2:=wJ cN;have BW:=wJ (B0.out.trans (aA.mono (by omega)));have p7:=wJ ie;have bP:=wJ bk;have aO:=wJ bG;have HV:=wJ hV;obtain⟨⟨r0,r1,r2,r3,r4,r5,r6,r7,r8⟩,y0,y1,y2,y3,y4,y5,y6,y7,y8⟩:=z9 cN;obtain⟨⟨n0,n1,n2,n3,n4,n5,n6,n7,n8⟩,-⟩:=z9 mD;obtain⟨⟨t0,t1,t2,t3,t4,t5,t6,t7,t8⟩,-,ah⟩:=zab eM;have je:=cN.lt;have br:=mD.lt;clear cN mD eM aA ie b2 bk bG HR hV;cases q with
  |false =>
   have gK:Hid (zbp s.data.toList=.error 80):=wJ (by rw[HP.out,bP.out rfl];rfl);clear bP aO;go_upto_region 6 with fail
   try rw[HV.out]
   clear HV;go_wp2_with fail
   try simp only[Exit.inBlock,Exit.then]
   refine ub (zaa rfl _ _ w.heap.size 39 _ (0,0) _ rfl (zah _ _ _ _ _ _ _ _ _ R2.out) Tryz.underlying39 rfl (by kernel_rfl)) rfl ?_;exact⟨za8 BW.out (tV _) _ _ _ _ _ _ _ _ _,.inl ⟨80,by decide,gK.out,rfl⟩⟩
  |true =>
   obtain⟨x,r,ho,hn,hx⟩:=aO.out rfl;replace hn:=hn.symm;obtain⟨ay,du⟩:=tg.out x r ho;have HX:=wJ hx;have gb:=wJ ay;clear bP aO hx ay;go_upto_region 6 with fail
   try rw[HV.out]
   clear HV;by_cases eW:n=0
   ·subst eW
    obtain rfl:r=[]:=vw.1 hn;have gK:Hid (zbp s.data.toList=.ok x):=wJ (by rw[HP.out,ho];rfl);clear hn ho;go_wp2_with fail
    try simp only[Exit.inBlock,Exit.then]
    refine ub (zaa rfl _ _ w.heap.size 39 _ (0,0) _ rfl (zah _ _ _ _ _ _ _ _ _ R2.out) Tryz.underlying39 rfl (by kernel_rfl)) rfl ?_;exact⟨za8 BW.out (tV _) _ _ _ _ _ _ _ _ _,.inr ⟨x,_,⟨_,_,_,_,_,_,_,_,_,_,_,_,_,_,_,rfl⟩,gb.out,du,gK.out,rfl,pcE.keep (λg hg=>⟨by omega,by rw[zak];omega⟩) (λg hg=>(zaf _ _ _ _ _ _ _ _ _ _ _ _ (by omega)).trans (p7.out g hg.2)) HX.out⟩⟩
   ·have gK:Hid (zbp s.data.toList=.error 80):=wJ (by
     rw[HP.out,ho]
     cases r with
     |nil=>exact absurd hn.symm eW
     |cons a r=>rfl)
    have rN:0<n:=by omega
    clear hn ho eW;go_wp2_with fail
    try simp only[Exit.inBlock,Exit.then]
    refine ub (zaa rfl _ _ w.heap.size 39 _ (0,0) _ rfl (zah _ _ _ _ _ _ _ _ _ R2.out) Tryz.underlying39 rfl (by kernel_rfl)) rfl ?_;exact⟨za8 BW.out (tV _) _ _ _ _ _ _ _ _ _,.inl ⟨80,by decide,gK.out,rfl⟩⟩
 ·have HP:=wJ (zir _ _ _ _ l7.out he)
  have dn:((er:Int) != 0)=true:=neqT _ _ (by omega);have HE:=wJ he;obtain⟨⟨r0,r1,r2,r3,r4,r5,r6,r7,r8⟩,y0,y1,y2,y3,y4,y5,y6,y7,y8⟩:=z9 cN;obtain⟨⟨n0,n1,n2,n3,n4,n5,n6,n7,n8⟩,-⟩:=z9 mD;have je:=cN.lt;have br:=mD.lt;clear he cN mD b1 ix ae pG;go_wp2_with fail
  try simp only[Exit.inBlock,Exit.then]
  refine ub (zaa rfl _ _ w.heap.size 39 _ (0,0) _ rfl (zah _ _ _ _ _ _ _ _ _ R1.out) Tryz.underlying39 rfl (by kernel_rfl)) rfl ?_;exact⟨za8 B0.out (tV _) _ _ _ _ _ _ _ _ _,.inl ⟨er,HE.out,HP.out,rfl⟩⟩
theorem zpF(w:World):Calls Tryz.prog 41 #[.func (.func 42) #[] #[]] w λe w' =>
  e=.returned (.func (.func 92) #[] #[.pointer (some ⟨w.heap.size,0,none⟩)])/\w'=w.alloc (.cells #[.func (.func 42) #[] #[]] 101):=by
 have mk:∀(W:World) (p:Addr),(Instr.makeFunc (.func 92) #[] #[.pointer (some p)]).run Tryz.prog W=.ok (.func (.func 92) #[] #[.pointer (some p)]) W:=λ_ _=>rfl;go_enter Tryz.func41,Tryz.ntmps41
 go_wp2_with fail
 go_ret
 exact⟨rfl,rfl⟩
def XPost(s:List UInt8)(w:World)(e:Ending)(w':World):Prop :=
 Below w.heap.size w w' /\
  ((∃n,n≠0/\zci s=.error n/\e=.returned (.tuple #[.agg exZ,.int .i64 (n:Nat)])) \/
   (∃x cs,shE cs/\x.Ok/\x.wt<=4000/\zci s=.ok x/\e=.returned (.tuple #[.agg cs.toArray,.int .i64 0])/\pcE.Cs (λg=>w.heap.size<=g/\g<w'.heap.size) w' x cs))
theorem zhR(s:ByteArray)(w:World)(hs:s.size<=maxLen):Calls Tryz.prog 12 #[.string s] w (XPost s.data.toList w):=by
 obtain⟨W0,ai⟩:∃W,(w.alloc (.cells exZ 39)).alloc (.cells #[.func (.func 42) #[] #[]] 101)=W:=⟨_,rfl⟩;have eI:W0.heap.size=w.heap.size+2:=by rw[<-ai];simp
 have rI:Blk W0 w.heap.size 39 exZ:=ai▸Blk.below (tW w _) ((ua _ _).alloc (tV _) _) (by simp);have sf:Blk W0 (w.heap.size+1) 101 #[.func (.func 42) #[] #[]]:=ai▸zaA _ _ _ _ rfl;have aK:Below w.heap.size w W0:=ai▸((ua _ w).alloc (tV _) _).alloc (by simp) _;have sX:=wJ (zlD s (w.heap.size+1) W0 hs (sf.cell 0));have R0:=wJ rI;have B0:=wJ aK;unfold exZ at ai;clear rI sf aK;go_enter Tryz.func12,Tryz.ntmps12
 go_wp2_with fail
 refine(zpF _).mono ?_;rintro e w0 ⟨rfl,rfl⟩;try rw[ai]
 simp only[World.size_alloc];go_wp2_with fail
 try rw[ai]
 refine sX.out.mono ?_;rintro e w1 ⟨b1,aB⟩;have bj:=b1.size;have R1:=wJ (R0.out.below b1 (by omega));have B1:=wJ (B0.out.trans (b1.mono (by omega)));clear sX b1;try clear ai
 rcases aB with⟨n,hn,hp,rfl⟩|⟨x,cs,bA,ay,du,hp,rfl,hx⟩
 ·have HP:Hid (n≠0/\zci s.data.toList=.error n):=wJ ⟨hn,by rw[zgq,hp];rfl⟩
  obtain⟨V,hV⟩:∃V,w1.alloc (.cells #[.int .i64 0,.string ⟨#[]⟩,.bool false,.int .i64 0,.string ⟨#[]⟩,.int .i64 0,.slice none 0 0,.slice none 0 0,.slice none 0 0] 39)=V:=⟨_,rfl⟩;have eM:Blk V w1.heap.size 39 exZ:=hV▸tW _ _;have aA:Below w1.heap.size w1 V:=hV▸(ua _ w1).alloc (tV _) _;have dv:V.heap.size=w1.heap.size+1:=by rw[<-hV];simp
  have HD:=wJ (zdt V);obtain⟨⟨t0,t1,t2,t3,t4,t5,t6,t7,t8⟩,-⟩:=z9 eM;have ah:=eM.lt;have nW:=wJ eM;have R2:=wJ (R1.out.below aA (by omega));have B2:=wJ (B1.out.trans (aA.mono (by omega)));have HV:=wJ hV;clear hn hp eM aA hV;unfold exZ;go_upto_region 2 with fail
  try rw[HV.out]
  clear HV;go_wp2_with fail
  refine HD.out.mono ?_;rintro e w2 ⟨rfl,b2⟩;have bo:=b2.size;clear t0 t1 t2 t3 t4 t5 t6 t7 t8;obtain⟨⟨t0,t1,t2,t3,t4,t5,t6,t7,t8⟩,-⟩:=z9 (nW.out.below b2 ah);have cg:w1.heap.size<w2.heap.size:=by omega
  have cN:=R2.out.below b2 (by omega);obtain⟨⟨r0,r1,r2,r3,r4,r5,r6,r7,r8⟩,y0,y1,y2,y3,y4,y5,y6,y7,y8⟩:=z9 cN;have je:=cN.lt;have R3:=wJ cN;have B3:=wJ (B2.out.trans (b2.mono (by omega)));clear cN b2 HD;go_wp2_with fail
  try simp only[Exit.inBlock,Exit.then]
  refine ub (zaa rfl _ _ w.heap.size 39 _ (0,0) _ rfl (zah _ _ _ _ _ _ _ _ _ R3.out) Tryz.underlying39 rfl (by kernel_rfl)) rfl ?_;exact⟨za8 B3.out (tV _) _ _ _ _ _ _ _ _ _,.inl ⟨n,HP.out.1,HP.out.2,rfl⟩⟩
 ·obtain⟨ck,cx,ct,cK,cX,cZ,cB,cm,cq,aU,aR,aS,aT,aP,aQ,rfl⟩:=bA
  obtain⟨V,hV⟩:∃V,w1.alloc (.cells #[.int .i64 ck,.string cx,.bool ct,.int .i64 cK,.string cX,.int .i64 cZ,.slice cB cm cq,.slice aU aR aS,.slice aT aP aQ] 39)=V:=⟨_,rfl⟩;have eM:Blk V w1.heap.size 39 #[.int .i64 ck,.string cx,.bool ct,.int .i64 cK,.string cX,.int .i64 cZ,.slice cB cm cq,.slice aU aR aS,.slice aT aP aQ]:=hV▸tW _ _;have aA:Below w1.heap.size w1 V:=hV▸(ua _ w1).alloc (tV _) _;have dv:V.heap.size=w1.heap.size+1:=by rw[<-hV];simp
  have hxV:=pcE.keep (λ_ h=>h) (λg hg=>aA.block g hg.2) hx;have HD:=wJ (zfB x _ _ V (by have:=Sx.size_wt x;omega) (by omega) (zdC.2 hxV) (λg hg=>by have:=hg.2;omega));have HX:=wJ hxV;have HP:Hid (zci s.data.toList=if x.tooDeep=true then .error 3 else .ok x):=wJ (by rw[zgq,hp];rfl);obtain⟨q,hq⟩:∃q,x.tooDeep=q:=⟨_,rfl⟩;rw[hq]at HD HP
  obtain⟨⟨t0,t1,t2,t3,t4,t5,t6,t7,t8⟩,-,ah⟩:=zab eM;have nW:=wJ eM;have gb:=wJ ay;have R2:=wJ (R1.out.below aA (by omega));have B2:=wJ (B1.out.trans (aA.mono (by omega)));clear hp eM aA hx hxV hq ay;go_upto_region 2 with fail
  try rw[hV]
  clear hV;go_wp2_with fail
  refine HD.out.mono ?_;rintro e w2 ⟨rfl,b2⟩;have bo:=b2.size;clear t0 t1 t2 t3 t4 t5 t6 t7 t8;obtain⟨⟨t0,t1,t2,t3,t4,t5,t6,t7,t8⟩,-,cg⟩:=zab (nW.out.below b2 ah);have cN:=R2.out.below b2 (by omega);obtain⟨⟨r0,r1,r2,r3,r4,r5,r6,r7,r8⟩,y0,y1,y2,y3,y4,y5,y6,y7,y8⟩:=z9 cN;have je:=cN.lt;have R3:=wJ cN;have B3:=wJ (B2.out.trans (b2.mono (by omega)));have pU:=wJ (pcE.keep (λ_ h=>h) (λg hg=>b2.block g (by have:=hg.2;omega)) HX.out);clear cN b2 HD;cases q with
  |true =>
   go_wp2_with fail
   try simp only[Exit.inBlock,Exit.then]
   refine ub (zaa rfl _ _ w.heap.size 39 _ (0,0) _ rfl (zah _ _ _ _ _ _ _ _ _ R3.out) Tryz.underlying39 rfl (by kernel_rfl)) rfl ?_;exact⟨za8 B3.out (tV _) _ _ _ _ _ _ _ _ _,.inl ⟨3,by decide,by rw[HP.out];simp,rfl⟩⟩
  |false =>
   go_wp2_with fail
   try simp only[Exit.inBlock,Exit.then]
   refine ub (zaa rfl _ _ w.heap.size 39 _ (0,0) _ rfl (zah _ _ _ _ _ _ _ _ _ R3.out) Tryz.underlying39 rfl (by kernel_rfl)) rfl ?_;exact⟨za8 B3.out (tV _) _ _ _ _ _ _ _ _ _,.inr ⟨x,_,⟨_,_,_,_,_,_,_,_,_,_,_,_,_,_,_,rfl⟩,gb.out,du,by rw[HP.out];simp,rfl,
    pcE.keep (λg hg=>⟨by omega,by rw[zak];omega⟩) (λg hg=>zaf _ _ _ _ _ _ _ _ _ _ _ _ (by omega)) pU.out⟩⟩
end Go.Proofs.YtknkclefoiohpaaGreatDoor
