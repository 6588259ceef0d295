import Derived.Test.YtknkclefoiohpaaGreatDoorKaU
import Derived.Laws.Tables
import Derived.Laws.CopyRow
set_option maxHeartbeats 12800000
namespace Go.Proofs.YtknkclefoiohpaaGreatDoor
open Go.RowKit Lx Tx Sx
set_option maxRecDepth 100000
theorem zcm(k0:Int)(s:ByteArray)(V:Option Addr)(vm vq:Nat)(G:Option Addr)(gm gq:Nat)(K0:Int)(X0:ByteArray)(Z0:Int)(B0:Option Addr)(m0 q0:Nat)(k:Int)(x:ByteArray)(t:Bool)(K:Int)(X:ByteArray)(Z:Int)(B:Option Addr)(m q:Nat)(KA:Option Addr)(kn kc:Nat)(LA:Option Addr)(ln lc:Nat):(#[.int .i64 k0,.string s,.slice V vm vq,.slice G gm gq,.int .i64 K0,.string X0,.int .i64 Z0,.slice B0 m0 q0,.int .i64 k,.string x,.bool t,.int .i64 K,.string X,.int .i64 Z,.slice B m q,.slice KA kn kc,.slice LA ln lc]:Array Value).all (·.oneCell')=true:=by
 simp[Value.oneCell']
theorem zlz {α:Type} {p:List Tok->Option (α × List Tok)}(hp:∀(l:List Tok)(x:α)(r:List Tok),AllG l->p l=some (x,r)->AllG r/\r.length<l.length)(f:Nat):∀(g:Nat) (l:List Tok),AllG l->l.length<f->l.length<g->zaC semB List.tail (λ_=>p) f l=zaC semB List.tail (λ_=>p) g l:=by
 induction f with
 |zero=>intro g l _ h;omega
 |succ f ih =>
  intro g l hG hf hg;obtain⟨g,rfl⟩:∃k,g=k+1:=⟨g-1,by omega⟩;by_cases h:semB l=true
  ·obtain⟨t0,r,e,-,-⟩:=zaB l 6 [59] (by decide) h
   cases ho:p l.tail with
   |none=>rw[zbj (rd:=λ_=>p) f l h ho,zbj (rd:=λ_=>p) g l h ho]
   |some y =>
    obtain⟨x,r1⟩:=y;rw[za6 (rd:=λ_=>p) f l h x r1 ho,za6 (rd:=λ_=>p) g l h x r1 ho]
    subst e;obtain⟨g1,l1⟩:=hp _ x r1 (AllG.tail' hG) ho;simp only[vR]at l1;simp only[ui]at hf hg;rw[ih g r1 g1 (by omega) (by omega)]
  ·rw[zaZ f l (by simpa using h),zaZ g l (by simpa using h)]
theorem zgo {α:Type} {p:List Tok->Option (α × List Tok)}(hp:∀(l:List Tok)(x:α)(r:List Tok),AllG l->p l=some (x,r)->AllG r/\r.length<l.length)(f g:Nat)(l:List Tok)(hG:AllG l)(hf:l.length<=f)(hg:l.length<=g):sepM (λ_=>p) f l=sepM (λ_=>p) g l:=by
 rw[sepM,sepM]
 cases ho:p l with
 |none=>rfl
 |some y =>
  obtain⟨x,r⟩:=y;obtain⟨g1,l1⟩:=hp l x r hG ho;simp only;rw[zlz hp f g r g1 (by omega) (by omega)]
theorem znp {α:Type} {p:List Tok->Option (α × List Tok)}(hp:∀(l:List Tok)(x:α)(r:List Tok),AllG l->p l=some (x,r)->AllG r/\r.length<l.length)(f g:Nat)(l:List Tok)(hG:AllG l)(hf:l.tail.length<=f)(hg:l.tail.length<=g):brF (λ_=>p) f l=brF (λ_=>p) g l:=by
 rw[zc0,zc0,brG,brG,zgo hp f g l.tail (AllG.tail' hG) hf hg]
def datG(x:Nm)(o:List Nm × List Tok):Option (De × List Tok):=(brF (λ_=>rdCon) (3*o.2.length) o.2).map λy=>(.data x o.1 y.1,y.2)
theorem zhQ(l:List Tok)(hG:AllG l):rdData l=if(hd l).kind=2 then datG (hd l).text (vars l.tail) else none:=by
 rw[zge,zgN]
 by_cases h:(hd l).kind=2
 ·rw[ud h,ud h,datG]
  obtain⟨-,v2,-⟩:=zbD l.tail (AllG.tail' hG);rw[znp zcF ((vars l.tail).2.tail.length+1) (3*(vars l.tail).2.length) _ v2 (by omega) (by simp;omega)]
 ·rw[ue h,ue h]
theorem zoV(S:Nat->Prop)(b:Nat)(l:List Tok)(w:World)(h:RdrS S w b l)(hS:∀g,S g->g≠b/\g<w.heap.size)(hG:AllG l)(hl:l.length<=100000):Calls Tryz.prog 126 #[.pointer (some ⟨b,0,none⟩)] w (GPost pcD shD S b w (rdData l)):=by
 have aC:=h.lt;have hV:=zcy S b l 2 2 rfl (w.alloc (.cells #[.int .i64 1,.string ⟨#[]⟩,.slice none 0 0,.slice none 0 0,.int .i64 0,.string ⟨#[]⟩,.int .i64 0,.slice none 0 0,.int .i64 0,.string ⟨#[]⟩,.bool false,.int .i64 0,.string ⟨#[]⟩,.int .i64 0,.slice none 0 0,.slice none 0 0,.slice none 0 0] 59)) (h.alloc _ (λg hg=>(hS g hg).2)) (λg hg=>⟨(hS g hg).1,by have:=(hS g hg).2;simp;omega⟩) hl (by decide);obtain⟨M,hM⟩:∃M,rdData l=M:=⟨_,rfl⟩;rw[hM]
 rw[zhQ l hG]at hM
 obtain⟨q,hq⟩:∃q,((hd l).kind==2)=q:=⟨_,rfl⟩;rw[hq]at hV
 obtain⟨X,hX⟩:∃X,anyT l 2=X:=⟨_,rfl⟩;obtain⟨r2,aw⟩:∃x,anyR l 2=x:=⟨_,rfl⟩;rw[hX,aw]at hV
 obtain⟨⟨ns,r3⟩,nF⟩:∃o,vars r2=o:=⟨_,rfl⟩;have HV:=wJ hV;have HS:=wJ hS;have ja:Hid (q=false/\M=none\/q=true/\M=datG X.data.toList (ns,r3)/\AllG r3/\r2.length<=100000/\ns.length+r3.length=r2.length):=wJ (by
  cases q with
  |false =>
   have hk:¬(hd l).kind=2:=by simpa using hq
   rw[ue hk]at hM
   exact .inl ⟨rfl,hM.symm⟩
  |true =>
   have hk:(hd l).kind=2:=by simpa using hq
   have dQ:(hd l).text=X.data.toList:=by rw[<-hX,anyT,ud hk]
   have aD:l.tail=r2:=by rw[<-aw,anyR,ud hk]
   rw[ud hk,dQ,aD,nF]at hM
   have:r2.length<=l.length:=by rw[<-aD];simp
   obtain⟨-,v2,v3⟩:=zbD r2 (by rw[<-aD];exact AllG.tail' hG);rw[nF]at v2 v3
   exact .inr ⟨rfl,hM.symm,v2,by omega,v3⟩)
 have HV2:=wJ nF;clear h hS hV hM hq hG hl hX aw nF;go_enter Tryz.func126,Tryz.ntmps126
 go_wp2_with fail
 refine HV.out.mono ?_;rintro e w1 ⟨rfl,r1,c1⟩;have bj:=c1.size;simp at bj;have aa:Blk w1 w.heap.size 59 #[.int .i64 1,.string ⟨#[]⟩,.slice none 0 0,.slice none 0 0,.int .i64 0,.string ⟨#[]⟩,.int .i64 0,.slice none 0 0,.int .i64 0,.string ⟨#[]⟩,.bool false,.int .i64 0,.string ⟨#[]⟩,.int .i64 0,.slice none 0 0,.slice none 0 0,.slice none 0 0]:=Blk.chgR (tW _ _) c1 (by unfold only;omega);obtain⟨⟨g0,g1,g2,g3,g4,g5,g6,g7,g8,g9,g10,g11,g12,g13,g14,g15,g16⟩,⟨z0,z1,z2,z3,z4,z5,z6,z7,z8,z9,eG,gU,z12,gT,gS,gR,gQ⟩,bB⟩:=zay aa;obtain⟨W1,aL⟩:∃W,w1.setCell ⟨w.heap.size,1,none⟩ (.string X)=W:=⟨_,rfl⟩;have kq:W1.heap.size=w1.heap.size:=by rw[<-aL];simp
 have aJ:Hid (Blk W1 w.heap.size 59 #[.int .i64 1,.string X,.slice none 0 0,.slice none 0 0,.int .i64 0,.string ⟨#[]⟩,.int .i64 0,.slice none 0 0,.int .i64 0,.string ⟨#[]⟩,.bool false,.int .i64 0,.string ⟨#[]⟩,.int .i64 0,.slice none 0 0,.slice none 0 0,.slice none 0 0]):=wJ (aL▸uk _ _ 1 _ _ _ aa);have gO:Hid (ChR b w W1):=wJ (aL▸c1.pre.setCell (.inl (tV _)) _);have dA:=wJ (show RdrS S W1 b r2 from aL▸r1.keep (tY _ ⟨w.heap.size,1,none⟩ _ b (by intro e;simp at e;omega)) (λg hg=>tY _ ⟨w.heap.size,1,none⟩ _ g (by intro e;simp at e;have:=(HS.out g hg).2;omega)));clear aa c1 r1 HV;go_upto_region 3 with fail
 try rw[aL]
 clear aL g0 g1 g2 g3 g4 g5 g6 g7 g8 g9 g10 g11 g12 g13 g14 g15 g16 z0 z1 z2 z3 z4 z5 z6 z7 z8 z9 eG gU z12 gT gS gR gQ;rcases ja.out with⟨rfl,hM⟩|⟨rfl,hM,hG3,fS,sI⟩
 ·have HM:=wJ hM
  obtain⟨⟨g0,g1,g2,g3,g4,g5,g6,g7,g8,g9,g10,g11,g12,g13,g14,g15,g16⟩,⟨z0,z1,z2,z3,z4,z5,z6,z7,z8,z9,eG,gU,z12,gT,gS,gR,gQ⟩,bB⟩:=zay aJ.out;clear hM;have bc:=aJ;have av:Hid (W1.heap[w.heap.size]?=some (.cells #[.int .i64 1,.string X,.slice none 0 0,.slice none 0 0,.int .i64 0,.string ⟨#[]⟩,.int .i64 0,.slice none 0 0,.int .i64 0,.string ⟨#[]⟩,.bool false,.int .i64 0,.string ⟨#[]⟩,.int .i64 0,.slice none 0 0,.slice none 0 0,.slice none 0 0] 59 (0,0))):=wJ bc.out;go_wp2_with (first|((with_reducible refine wpList_load_row ?_ 59 (.tmp 2) ?_ w.heap.size ?_ 59 _ (0,0) _ av.out Tryz.underlying59 ?_ ?_ ?_);(exact rfl);(exact rfl);(exact rfl);(exact rfl);(exact(by kernel_rfl)))|((with_reducible refine wpList_store_row ?_ 59 (.tmp 2) (.tmp 15) ?_ w.heap.size #[.int .i64 1,.string X,.slice none 0 0,.slice none 0 0,.int .i64 0,.string ⟨#[]⟩,.int .i64 0,.slice none 0 0,.int .i64 0,.string ⟨#[]⟩,.bool false,.int .i64 0,.string ⟨#[]⟩,.int .i64 0,.slice none 0 0,.slice none 0 0,.slice none 0 0] ?_ ?_ 59 #[.int .i64 1,.string X,.slice none 0 0,.slice none 0 0,.int .i64 0,.string ⟨#[]⟩,.int .i64 0,.slice none 0 0,.int .i64 0,.string ⟨#[]⟩,.bool false,.int .i64 0,.string ⟨#[]⟩,.int .i64 0,.slice none 0 0,.slice none 0 0,.slice none 0 0] av.out ?_ ?_ ?_ ?_);(exact rfl);(exact rfl);(exact rfl);(exact rfl);(exact(by kernel_rfl));(exact(by kernel_rfl));(exact(zcm _ _ _ _ _ _ _ _ _ _ _ _ _ _ _ _ _ _ _ _ _ _ _ _ _ _ _ _ _));rw[setRow_self _ _ _ _ _ av.out]))
  try simp only[Exit.inBlock,Exit.then]
  refine ub (zaa rfl _ _ w.heap.size 59 _ (0,0) _ rfl aJ.out Tryz.underlying59 rfl (by kernel_rfl)) rfl ?_;exact⟨gO.out,_,⟨_,_,_,_,_,_,_,_,_,_,_,_,_,_,_,_,_,_,_,_,_,_,_,_,_,_,_,_,_,rfl⟩,.inl ⟨HM.out,rfl⟩⟩
 ·have fE:=wJ hM
  have h2:=zd8 S b r2 W1 dA.out (λg hg=>⟨(HS.out g hg).1,by have:=(HS.out g hg).2;omega⟩) fS;rw[HV2.out]at h2
  have H2:=wJ h2;have bw:=wJ hG3;have qQ:=wJ (And.intro fS sI);have nt:b<W1.heap.size:=by omega
  clear h2 hM hG3 fS sI dA HV2;go_wp2_with fail
  refine H2.out.mono ?_;rintro e w2 ⟨V,c,rfl,ae,aw,c2⟩;have bo:=c2.size;try simp only at ae
  obtain⟨n,hn⟩:∃n,ns.length=n:=⟨_,rfl⟩;rw[hn]at ae
  have HN:=wJ hn;have qd:Hid (ns.length<=c):=wJ (by rw[hn];exact zhP ae);have aA:=aJ.out.chgR c2 (by unfold only;omega);obtain⟨⟨g0,g1,g2,g3,g4,g5,g6,g7,g8,g9,g10,g11,g12,g13,g14,g15,g16⟩,⟨z0,z1,z2,z3,z4,z5,z6,z7,z8,z9,eG,gU,z12,gT,gS,gR,gQ⟩,bB⟩:=zay aA;obtain⟨W2,bL⟩:∃W,w2.setCell ⟨w.heap.size,2,none⟩ (.slice V n c)=W:=⟨_,rfl⟩;have iI:W2.heap.size=w2.heap.size:=by rw[<-bL];simp
  have ar:Hid (Blk W2 w.heap.size 59 #[.int .i64 1,.string X,.slice V n c,.slice none 0 0,.int .i64 0,.string ⟨#[]⟩,.int .i64 0,.slice none 0 0,.int .i64 0,.string ⟨#[]⟩,.bool false,.int .i64 0,.string ⟨#[]⟩,.int .i64 0,.slice none 0 0,.slice none 0 0,.slice none 0 0]):=wJ (bL▸uk _ _ 2 _ _ _ aA);have cH:Hid (ChR b w W2):=wJ (bL▸(gO.out.trans c2).setCell (.inl (tV _)) _);have lf:RdrS S W2 b r3:=bL▸aw.keep (tY _ ⟨w.heap.size,2,none⟩ _ b (by intro e;simp at e;omega)) (λg hg=>tY _ ⟨w.heap.size,2,none⟩ _ g (by intro e;simp at e;have:=(HS.out g hg).2;omega));have e7:Hid (NmsIn (λg=>w.heap.size<g/\g<w2.heap.size) W2 ns V):=wJ ((zgl ae).keep (λg hg=>⟨by omega,hg.2⟩) (λg hg=>bL▸tY _ ⟨w.heap.size,2,none⟩ _ g (by intro e;simp at e;omega)));have hP:=zhO (3*r3.length) S b r3 W2 lf (λg hg=>⟨(HS.out g hg).1,by have:=(HS.out g hg).2;omega⟩) bw.out (by have:=qQ.out;omega) (by omega) (λ_ _ W l1 hr hs hG hl _=>zpE S b l1 W hr hs hG hl) (λ_=>zcF) (λl x r hG h=>Nat.le_of_lt (zfP (rd:=λ_=>rdCon) (λ_=>zcF) _ l x r hG h).2);have bN:Hid (M=(brF (λ_=>rdCon) (3*r3.length) r3).map λy=>(De.data X.data.toList ns y.1,y.2)):=wJ (by rw[fE.out,datG]);obtain⟨O,hO⟩:∃O,brF (λ_=>rdCon) (3*r3.length) r3=O:=⟨_,rfl⟩;rw[hO]at hP bN
  have HP:=wJ hP;clear aA c2 aw lf ae hn hO hP H2;go_upto_region 6 with fail
  rw[HN.out]
  try rw[bL]
  clear bL g0 g1 g2 g3 g4 g5 g6 g7 g8 g9 g10 g11 g12 g13 g14 g15 g16 z0 z1 z2 z3 z4 z5 z6 z7 z8 z9 eG gU z12 gT gS gR gQ;go_wp2_with fail
  refine HP.out.mono ?_;rintro e w3 ⟨c3,A,m,d,au⟩;have eA:=c3.size;have eS:=ar.out.chgR c3 (by unfold only;omega);obtain⟨⟨g0,g1,g2,g3,g4,g5,g6,g7,g8,g9,g10,g11,g12,g13,g14,g15,g16⟩,⟨z0,z1,z2,z3,z4,z5,z6,z7,z8,z9,eG,gU,z12,gT,gS,gR,gQ⟩,bB⟩:=zay eS;obtain⟨W3,cO⟩:∃W,w3.setCell ⟨w.heap.size,3,none⟩ (.slice A m d)=W:=⟨_,rfl⟩;have hs3':W3.heap.size=w3.heap.size:=by rw[<-cO];simp
  have cL:Hid (∀k,k≠w.heap.size->W3.heap[k]?=w3.heap[k]?):=wJ λk hk=>cO▸tY _ ⟨w.heap.size,3,none⟩ _ k hk;have bU:Hid (Blk W3 w.heap.size 59 #[.int .i64 1,.string X,.slice V n c,.slice A m d,.int .i64 0,.string ⟨#[]⟩,.int .i64 0,.slice none 0 0,.int .i64 0,.string ⟨#[]⟩,.bool false,.int .i64 0,.string ⟨#[]⟩,.int .i64 0,.slice none 0 0,.slice none 0 0,.slice none 0 0]):=wJ (cO▸uk _ _ 3 _ _ _ eS);have dF:Hid (ChR b w W3):=wJ (cO▸(cH.out.trans c3).setCell (.inl (tV _)) _);have e7:=wJ (e7.out.keep (S':=λg=>w.heap.size<g/\g<w2.heap.size) (λg hg=>hg) (λg hg=>(cL.out g (by omega)).trans (c3.block g (by omega) (by unfold only;omega))));have hU:∃ok,e=.returned (.tuple #[.slice A m d,.bool ok])/\((ok=false/\M=none)\/(ok=true/\∃xs r,M=some (.data X.data.toList ns xs,r)/\m=xs.length/\LstG pcC (λg=>w.heap.size<g/\g<w3.heap.size) W3 xs A/\RdrS S W3 b r)):=by
   rcases au with⟨ho,he⟩|⟨xs,r,ho,he,hm,hx,hr⟩
   ·exact⟨false,he,.inl ⟨rfl,by rw[bN.out,ho];rfl⟩⟩
   ·exact⟨true,he,.inr ⟨rfl,xs,r,by rw[bN.out,ho];rfl,hm,hx.keep (λg hg=>⟨by omega,hg.2⟩) (λg hg=>cL.out g (by omega)),hr.keep (cL.out b (by omega)) (λk hk=>cL.out k (by have:=(HS.out k hk).2;omega))⟩⟩
  obtain⟨ok,rfl,hU⟩:=hU;have HU:=wJ hU;clear eS c3 HP au hU;go_upto_region 9 with fail
  try rw[cO]
  clear cO g0 g1 g2 g3 g4 g5 g6 g7 g8 g9 g10 g11 g12 g13 g14 g15 g16 z0 z1 z2 z3 z4 z5 z6 z7 z8 z9 eG gU z12 gT gS gR gQ;obtain⟨⟨g0,g1,g2,g3,g4,g5,g6,g7,g8,g9,g10,g11,g12,g13,g14,g15,g16⟩,⟨z0,z1,z2,z3,z4,z5,z6,z7,z8,z9,eG,gU,z12,gT,gS,gR,gQ⟩,bB⟩:=zay bU.out;have bc:=bU;have av:Hid (W3.heap[w.heap.size]?=some (.cells #[.int .i64 1,.string X,.slice V n c,.slice A m d,.int .i64 0,.string ⟨#[]⟩,.int .i64 0,.slice none 0 0,.int .i64 0,.string ⟨#[]⟩,.bool false,.int .i64 0,.string ⟨#[]⟩,.int .i64 0,.slice none 0 0,.slice none 0 0,.slice none 0 0] 59 (0,0))):=wJ bc.out;go_wp2_with (first|((with_reducible refine wpList_load_row ?_ 59 (.tmp 2) ?_ w.heap.size ?_ 59 _ (0,0) _ av.out Tryz.underlying59 ?_ ?_ ?_);(exact rfl);(exact rfl);(exact rfl);(exact rfl);(exact(by kernel_rfl)))|((with_reducible refine wpList_store_row ?_ 59 (.tmp 2) (.tmp 37) ?_ w.heap.size #[.int .i64 1,.string X,.slice V n c,.slice A m d,.int .i64 0,.string ⟨#[]⟩,.int .i64 0,.slice none 0 0,.int .i64 0,.string ⟨#[]⟩,.bool false,.int .i64 0,.string ⟨#[]⟩,.int .i64 0,.slice none 0 0,.slice none 0 0,.slice none 0 0] ?_ ?_ 59 #[.int .i64 1,.string X,.slice V n c,.slice A m d,.int .i64 0,.string ⟨#[]⟩,.int .i64 0,.slice none 0 0,.int .i64 0,.string ⟨#[]⟩,.bool false,.int .i64 0,.string ⟨#[]⟩,.int .i64 0,.slice none 0 0,.slice none 0 0,.slice none 0 0] av.out ?_ ?_ ?_ ?_);(exact rfl);(exact rfl);(exact rfl);(exact rfl);(exact(by kernel_rfl));(exact(by kernel_rfl));(exact(zcm _ _ _ _ _ _ _ _ _ _ _ _ _ _ _ _ _ _ _ _ _ _ _ _ _ _ _ _ _));rw[setRow_self _ _ _ _ _ av.out]))
  try simp only[Exit.inBlock,Exit.then]
  refine ub (zaa rfl _ _ w.heap.size 59 _ (0,0) _ rfl bU.out Tryz.underlying59 rfl (by kernel_rfl)) rfl ?_;refine⟨dF.out,[.int .i64 1,.string X,.slice V n c,.slice A m d,.int .i64 0,.string ⟨#[]⟩,.int .i64 0,.slice none 0 0,.int .i64 0,.string ⟨#[]⟩,.bool false,.int .i64 0,.string ⟨#[]⟩,.int .i64 0,.slice none 0 0,.slice none 0 0,.slice none 0 0],⟨_,_,_,_,_,_,_,_,_,_,_,_,_,_,_,_,_,_,_,_,_,_,_,_,_,_,_,_,_,rfl⟩,?_⟩;rcases HU.out with⟨rfl,hM⟩|⟨rfl,xs,r,hM,hm,hx,hr⟩
  ·exact .inl ⟨hM,rfl⟩
  ·refine .inr ⟨_,r,hM,rfl,?_,hr⟩
   exact⟨V,⟨c,qd.out⟩,A,d,by show _=[.int .i64 1,Sx.strV _,.slice V ns.length c,.slice A _ d]++tyZl++exZl;rw[HN.out,hm];simp[tyZl,exZl,Sx.strV],e7.out.keep (λg hg=>⟨by omega,by omega⟩) (λ_ _=>rfl),hx.keep (λg hg=>⟨by omega,by omega⟩) (λ_ _=>rfl)⟩
set_option maxRecDepth 100000
theorem ChR.setRow {b:Nat} {a w:World}(h:ChR b a w) {g:Nat}(hg:a.heap.size<=g)(cs:Array Value):ChR b a (w.setRow g cs) :=
 ⟨⟨h.c.os,h.c.tape,h.c.output,by rw[setRow_size];exact h.size,λk hk hn=>(setRow_other w g k cs (by omega)).trans (h.block k hk hn)⟩,λx=>(h.r x).same (setRow_other w g b cs (by have:=x.lt;omega))⟩
def decH(x:Nm)(r:List Tok):Option (De × List Tok):=if isHd r 6 [61]=true then(rdE (zaJ r.tail) r.tail).map λy=>(.bind x y.1,y.2) else none
def decG(x:Nm)(r:List Tok):Option (De × List Tok):=if isHd r 6 [58]=true then(typ r.tail).map λy=>(.sig x y.1,y.2) else decH x r
def decN(l:List Tok):Option (De × List Tok):=if(hd l).kind=1 then decG (hd l).text l.tail else none
theorem zdX(l:List Tok):rdDecl l=if isHd l 3 wData=true then rdData l.tail else decN l:=zln l
theorem zoW(S:Nat->Prop)(b:Nat)(l:List Tok)(w:World)(h:RdrS S w b l)(hS:∀g,S g->g≠b/\g<w.heap.size)(hG:AllG l)(hl:l.length<=100000):Calls Tryz.prog 75 #[.pointer (some ⟨b,0,none⟩)] w (GPost pcD shD S b w (rdDecl l)):=by
 have aC:=h.lt;obtain⟨M,hM⟩:∃M,rdDecl l=M:=⟨_,rfl⟩;rw[hM]
 rw[zdX]at hM
 have HM:=wJ hM;have HS:=wJ hS;have HG:=wJ hG;have HL:=wJ hl;obtain⟨w0,dH⟩:∃W,w.alloc (.cells #[.int .i64 0,.string ⟨#[]⟩,.slice none 0 0,.slice none 0 0,.int .i64 0,.string ⟨#[]⟩,.int .i64 0,.slice none 0 0,.int .i64 0,.string ⟨#[]⟩,.bool false,.int .i64 0,.string ⟨#[]⟩,.int .i64 0,.slice none 0 0,.slice none 0 0,.slice none 0 0] 59)=W:=⟨_,rfl⟩;have eI:w0.heap.size=w.heap.size+1:=by rw[<-dH];simp
 have aE:Hid (Blk w0 w.heap.size 59 #[.int .i64 0,.string ⟨#[]⟩,.slice none 0 0,.slice none 0 0,.int .i64 0,.string ⟨#[]⟩,.int .i64 0,.slice none 0 0,.int .i64 0,.string ⟨#[]⟩,.bool false,.int .i64 0,.string ⟨#[]⟩,.int .i64 0,.slice none 0 0,.slice none 0 0,.slice none 0 0]):=wJ (dH▸tW _ _);have HC:Hid (ChR b w w0):=wJ (dH▸(ChR.refl _ _).alloc _);have HR:Hid (RdrS S w0 b l):=wJ (dH▸h.alloc _ (λg hg=>(hS g hg).2));clear h hS hM hG hl;go_enter Tryz.func75,Tryz.ntmps75
 go_upto_region 1 with fail
 try rw[dH]
 clear dH;have ht:=zcs S b l ⟨#[100,97,116,97]⟩ w0 HR.out (λg hg=>⟨(HS.out g hg).1,by have:=(HS.out g hg).2;omega⟩) HL.out;rw[show(⟨#[100,97,116,97]⟩:ByteArray).data.toList=wData from rfl,took]at ht
 obtain⟨q1,hq⟩:∃q,isHd l 3 wData=q:=⟨_,rfl⟩;rw[hq]at ht
 have nM:=wJ ht;have oV:=wJ hq;clear ht hq;go_wp2_with fail
 refine nM.out.mono ?_;rintro e w1 ⟨rfl,cF,c1⟩;have bj:=c1.size;have aE:=wJ (aE.out.chgR c1 (by unfold only;omega));have HC:=wJ (HC.out.trans c1);clear c1 nM;cases q1 with
 |true =>
  rw[ud rfl]at cF
  have hP:=zoV S b l.tail w1 cF (λg hg=>⟨(HS.out g hg).1,by have:=(HS.out g hg).2;omega⟩) (AllG.tail' HG.out) (by have:=HL.out;simp;omega);have bN:Hid (M=rdData l.tail):=wJ (by rw[<-HM.out,oV.out,ud rfl]);obtain⟨O,hO⟩:∃O,rdData l.tail=O:=⟨_,rfl⟩;rw[hO]at hP bN
  have HP:=wJ hP;clear hP hO cF;go_wp2_with fail
  refine HP.out.mono ?_;rintro e w2 ⟨c2,cs,bA,au⟩;obtain⟨mM,ds,dV,mJ,mI,dG,mO,mN,mR,mQ,mP,mT,mL,mK,dk,dx,dt,dK,dX,dZ,dB,dm,dq,dp,df,dh,dj,cY,dc,rfl⟩:=bA;have bo:=c2.size;have bc:=wJ (aE.out.chgR c2 (by unfold only;omega));have cH:=wJ (HC.out.trans c2);have hU:∃ok,e=.returned (.tuple #[.agg #[.int .i64 mM,.string ds,.slice dV mJ mI,.slice dG mO mN,.int .i64 mR,.string mQ,.int .i64 mP,.slice mT mL mK,.int .i64 dk,.string dx,.bool dt,.int .i64 dK,.string dX,.int .i64 dZ,.slice dB dm dq,.slice dp df dh,.slice dj cY dc],.bool ok])/\((ok=false/\M=none)\/(ok=true/\∃y r,M=some (y,r)/\pcD.Cs (λg=>w1.heap.size<=g/\g<w2.heap.size) w2 y [.int .i64 mM,.string ds,.slice dV mJ mI,.slice dG mO mN,.int .i64 mR,.string mQ,.int .i64 mP,.slice mT mL mK,.int .i64 dk,.string dx,.bool dt,.int .i64 dK,.string dX,.int .i64 dZ,.slice dB dm dq,.slice dp df dh,.slice dj cY dc]/\RdrS S w2 b r)):=by
   rcases au with⟨ho,he⟩|⟨y,r,ho,he,hx,hr⟩
   ·exact⟨false,he,.inl ⟨rfl,by rw[bN.out,ho]⟩⟩
   ·exact⟨true,he,.inr ⟨rfl,y,r,by rw[bN.out,ho],hx,hr⟩⟩
  obtain⟨ok,rfl,hU⟩:=hU;have HU:=wJ hU;have av:Hid (w2.heap[w.heap.size]?=some (.cells #[.int .i64 0,.string ⟨#[]⟩,.slice none 0 0,.slice none 0 0,.int .i64 0,.string ⟨#[]⟩,.int .i64 0,.slice none 0 0,.int .i64 0,.string ⟨#[]⟩,.bool false,.int .i64 0,.string ⟨#[]⟩,.int .i64 0,.slice none 0 0,.slice none 0 0,.slice none 0 0] 59 (0,0))):=wJ bc.out;clear c2 HP au hU;go_wp2_with ((with_reducible refine wpList_store_row ?_ 59 (.tmp 2) (.tmp 10) ?_ w.heap.size #[.int .i64 mM,.string ds,.slice dV mJ mI,.slice dG mO mN,.int .i64 mR,.string mQ,.int .i64 mP,.slice mT mL mK,.int .i64 dk,.string dx,.bool dt,.int .i64 dK,.string dX,.int .i64 dZ,.slice dB dm dq,.slice dp df dh,.slice dj cY dc] ?_ ?_ 59 #[.int .i64 0,.string ⟨#[]⟩,.slice none 0 0,.slice none 0 0,.int .i64 0,.string ⟨#[]⟩,.int .i64 0,.slice none 0 0,.int .i64 0,.string ⟨#[]⟩,.bool false,.int .i64 0,.string ⟨#[]⟩,.int .i64 0,.slice none 0 0,.slice none 0 0,.slice none 0 0] av.out ?_ ?_ ?_ ?_);(exact rfl);(exact rfl);(exact rfl);(exact rfl);(exact(by kernel_rfl));(exact(by kernel_rfl));(exact(zcm _ _ _ _ _ _ _ _ _ _ _ _ _ _ _ _ _ _ _ _ _ _ _ _ _ _ _ _ _)))
  try simp only[Exit.inBlock,Exit.then]
  refine ub (zaa rfl _ _ w.heap.size 59 _ (0,0) _ rfl (setRow_heap _ _ _ _ _ _ av.out) Tryz.underlying59 rfl (by kernel_rfl)) rfl ?_;refine⟨cH.out.setRow (tV _) _,[.int .i64 mM,.string ds,.slice dV mJ mI,.slice dG mO mN,.int .i64 mR,.string mQ,.int .i64 mP,.slice mT mL mK,.int .i64 dk,.string dx,.bool dt,.int .i64 dK,.string dX,.int .i64 dZ,.slice dB dm dq,.slice dp df dh,.slice dj cY dc],⟨_,_,_,_,_,_,_,_,_,_,_,_,_,_,_,_,_,_,_,_,_,_,_,_,_,_,_,_,_,rfl⟩,?_⟩;rcases HU.out with⟨rfl,hM⟩|⟨rfl,y,r,hM,hx,hr⟩
  ·exact .inl ⟨hM,rfl⟩
  ·exact .inr ⟨y,r,hM,rfl,pcD.keep (λg hg=>⟨by omega,by rw[setRow_size];exact hg.2⟩) (λg hg=>setRow_other _ _ _ _ (by omega)) hx,hr.keep (setRow_other _ _ _ _ (by omega)) (λk hk=>setRow_other _ _ _ _ (by have:=(HS.out k hk).2;omega))⟩
 |false =>
  rw[ue (by decide)]at cF
  have hV:=zcl S b l w1 cF (λg hg=>⟨(HS.out g hg).1,by have:=(HS.out g hg).2;omega⟩) HL.out;have qD:decN l=M:=by rw[<-HM.out,oV.out,ue (by decide)]
  rw[decN]at qD
  obtain⟨q2,hq⟩:∃q,((hd l).kind==1)=q:=⟨_,rfl⟩;rw[hq]at hV
  obtain⟨X,hX⟩:∃X,anyT l 1=X:=⟨_,rfl⟩;obtain⟨r2,aw⟩:∃x,anyR l 1=x:=⟨_,rfl⟩;rw[hX,aw]at hV
  have HV:=wJ hV;have ja:Hid (q2=false/\M=none\/q2=true/\M=decG X.data.toList r2/\AllG r2/\r2.length<=100000):=wJ (by
   cases q2 with
   |false =>
    have hk:¬(hd l).kind=1:=by simpa using hq
    rw[ue hk]at qD
    exact .inl ⟨rfl,qD.symm⟩
   |true =>
    have hk:(hd l).kind=1:=by simpa using hq
    have dQ:(hd l).text=X.data.toList:=by rw[<-hX,anyT,ud hk]
    have aD:l.tail=r2:=by rw[<-aw,anyR,ud hk]
    rw[ud hk,dQ,aD]at qD
    have:r2.length<=l.length:=by rw[<-aD];simp
    have:=HL.out;exact .inr ⟨rfl,qD.symm,by rw[<-aD];exact AllG.tail' HG.out,by omega⟩)
  clear cF hV qD hq hX aw HR HG HL;have hlb1:b<w1.heap.size:=by omega
  go_wp2_with fail
  refine HV.out.mono ?_;rintro e w2 ⟨rfl,r1,c2⟩;have bo:=c2.size;have aa:=aE.out.chgR c2 (by unfold only;omega);obtain⟨⟨g0,g1,g2,g3,g4,g5,g6,g7,g8,g9,g10,g11,g12,g13,g14,g15,g16⟩,⟨z0,z1,z2,z3,z4,z5,z6,z7,z8,z9,eG,gU,z12,gT,gS,gR,gQ⟩,bB⟩:=zay aa;obtain⟨W2,bL⟩:∃W,w2.setCell ⟨w.heap.size,1,none⟩ (.string X)=W:=⟨_,rfl⟩;have iI:W2.heap.size=w2.heap.size:=by rw[<-bL];simp
  have aE:Hid (Blk W2 w.heap.size 59 #[.int .i64 0,.string X,.slice none 0 0,.slice none 0 0,.int .i64 0,.string ⟨#[]⟩,.int .i64 0,.slice none 0 0,.int .i64 0,.string ⟨#[]⟩,.bool false,.int .i64 0,.string ⟨#[]⟩,.int .i64 0,.slice none 0 0,.slice none 0 0,.slice none 0 0]):=wJ (bL▸uk _ _ 1 _ _ _ aa);have HC:Hid (ChR b w W2):=wJ (bL▸(HC.out.trans c2).setCell (.inl (tV _)) _);have HR:=wJ (show RdrS S W2 b r2 from bL▸r1.keep (tY _ ⟨w.heap.size,1,none⟩ _ b (by intro e;simp at e;omega)) (λg hg=>tY _ ⟨w.heap.size,1,none⟩ _ g (by intro e;simp at e;have:=(HS.out g hg).2;omega)));clear aa c2 r1 HV;go_upto_region 5 with fail
  try rw[bL]
  clear bL g0 g1 g2 g3 g4 g5 g6 g7 g8 g9 g10 g11 g12 g13 g14 g15 g16 z0 z1 z2 z3 z4 z5 z6 z7 z8 z9 eG gU z12 gT gS gR gQ;rcases ja.out with⟨rfl,hM⟩|⟨rfl,hM,fw,fS⟩
  ·have bN:=wJ hM
   clear hM;have bc:=aE;have av:Hid (W2.heap[w.heap.size]?=some (.cells #[.int .i64 0,.string X,.slice none 0 0,.slice none 0 0,.int .i64 0,.string ⟨#[]⟩,.int .i64 0,.slice none 0 0,.int .i64 0,.string ⟨#[]⟩,.bool false,.int .i64 0,.string ⟨#[]⟩,.int .i64 0,.slice none 0 0,.slice none 0 0,.slice none 0 0] 59 (0,0))):=wJ bc.out;go_wp2_with (first|((with_reducible refine wpList_load_row ?_ 59 (.tmp 2) ?_ w.heap.size ?_ 59 _ (0,0) _ av.out Tryz.underlying59 ?_ ?_ ?_);(exact rfl);(exact rfl);(exact rfl);(exact rfl);(exact(by kernel_rfl)))|((with_reducible refine wpList_store_row ?_ 59 (.tmp 2) (.tmp 47) ?_ w.heap.size #[.int .i64 0,.string X,.slice none 0 0,.slice none 0 0,.int .i64 0,.string ⟨#[]⟩,.int .i64 0,.slice none 0 0,.int .i64 0,.string ⟨#[]⟩,.bool false,.int .i64 0,.string ⟨#[]⟩,.int .i64 0,.slice none 0 0,.slice none 0 0,.slice none 0 0] ?_ ?_ 59 #[.int .i64 0,.string X,.slice none 0 0,.slice none 0 0,.int .i64 0,.string ⟨#[]⟩,.int .i64 0,.slice none 0 0,.int .i64 0,.string ⟨#[]⟩,.bool false,.int .i64 0,.string ⟨#[]⟩,.int .i64 0,.slice none 0 0,.slice none 0 0,.slice none 0 0] av.out ?_ ?_ ?_ ?_);(exact rfl);(exact rfl);(exact rfl);(exact rfl);(exact(by kernel_rfl));(exact(by kernel_rfl));(exact(zcm _ _ _ _ _ _ _ _ _ _ _ _ _ _ _ _ _ _ _ _ _ _ _ _ _ _ _ _ _));rw[setRow_self _ _ _ _ _ av.out]))
   try simp only[Exit.inBlock,Exit.then]
   refine ub (zaa rfl _ _ w.heap.size 59 _ (0,0) _ rfl bc.out Tryz.underlying59 rfl (by kernel_rfl)) rfl ?_;exact⟨HC.out,_,⟨_,_,_,_,_,_,_,_,_,_,_,_,_,_,_,_,_,_,_,_,_,_,_,_,_,_,_,_,_,rfl⟩,.inl ⟨bN.out,rfl⟩⟩
  ·have fE:=wJ hM
   have HG:=wJ fw;have HL:=wJ fS;clear hM fw fS;have ht:=zaE S b r2 ⟨#[58]⟩ W2 HR.out (λg hg=>⟨(HS.out g hg).1,by have:=(HS.out g hg).2;omega⟩) HL.out;rw[show(⟨#[58]⟩:ByteArray).data.toList=[58] from rfl,took]at ht
   obtain⟨q3,hq⟩:∃q,isHd r2 6 [58]=q:=⟨_,rfl⟩;rw[hq]at ht
   have jr:=wJ ht;have km:=wJ hq;clear ht hq;go_wp2_with fail
   refine jr.out.mono ?_;rintro e w3 ⟨rfl,aD,c3⟩;have eA:=c3.size;have aE:=wJ (aE.out.chgR c3 (by unfold only;omega));have HC:=wJ (HC.out.trans c3);clear c3 jr;cases q3 with
   |true =>
    rw[ud rfl]at aD
    obtain⟨⟨g0,g1,g2,g3,g4,g5,g6,g7,g8,g9,g10,g11,g12,g13,g14,g15,g16⟩,⟨z0,z1,z2,z3,z4,z5,z6,z7,z8,z9,eG,gU,z12,gT,gS,gR,gQ⟩,bB⟩:=zay aE.out;obtain⟨W3,cO⟩:∃W,w3.setCell ⟨w.heap.size,0,none⟩ (.int .i64 2)=W:=⟨_,rfl⟩;have hs3':W3.heap.size=w3.heap.size:=by rw[<-cO];simp
    have aE:Hid (Blk W3 w.heap.size 59 #[.int .i64 2,.string X,.slice none 0 0,.slice none 0 0,.int .i64 0,.string ⟨#[]⟩,.int .i64 0,.slice none 0 0,.int .i64 0,.string ⟨#[]⟩,.bool false,.int .i64 0,.string ⟨#[]⟩,.int .i64 0,.slice none 0 0,.slice none 0 0,.slice none 0 0]):=wJ (cO▸uk _ _ 0 _ _ _ aE.out);have HC:Hid (ChR b w W3):=wJ (cO▸HC.out.setCell (.inl (tV _)) _);have hT:=zdV S b r2.tail W3 (show RdrS S W3 b r2.tail from cO▸aD.keep (tY _ ⟨w.heap.size,0,none⟩ _ b (by intro e;simp at e;omega)) (λg hg=>tY _ ⟨w.heap.size,0,none⟩ _ g (by intro e;simp at e;have:=(HS.out g hg).2;omega))) (λg hg=>⟨(HS.out g hg).1,by have:=(HS.out g hg).2;omega⟩) (AllG.tail' HG.out) (by have:=HL.out;simp;omega);obtain⟨O9,jn⟩:∃O,typ r2.tail=O:=⟨_,rfl⟩;have mg:Hid (M=O9.map λy=>(De.sig X.data.toList y.1,y.2)):=wJ (by rw[fE.out,decG,km.out,ud rfl,jn]);rw[jn]at hT
    have HT:=wJ hT;clear aD hT jn;go_upto_region 8 with fail
    try rw[cO]
    clear cO g0 g1 g2 g3 g4 g5 g6 g7 g8 g9 g10 g11 g12 g13 g14 g15 g16 z0 z1 z2 z3 z4 z5 z6 z7 z8 z9 eG gU z12 gT gS gR gQ;go_wp2_with fail
    refine HT.out.mono ?_;rintro e w4 ⟨c4,tK,tX,tZ,tA,tm,tc,au⟩;have kp:=c4.size;have aa:=aE.out.chgR c4 (by unfold only;omega);obtain⟨⟨g0,g1,g2,g3,g4,g5,g6,g7,g8,g9,g10,g11,g12,g13,g14,g15,g16⟩,⟨z0,z1,z2,z3,z4,z5,z6,z7,z8,z9,eG,gU,z12,gT,gS,gR,gQ⟩,bB⟩:=zay aa;obtain⟨W4,gI⟩:∃W,(((w4.setCell ⟨w.heap.size,4,none⟩ (.int .i64 tK)).setCell ⟨w.heap.size,5,none⟩ (.string tX)).setCell ⟨w.heap.size,6,none⟩ (.int .i64 tZ)).setCell ⟨w.heap.size,7,none⟩ (.slice tA tm tc)=W:=⟨_,rfl⟩;have hsW4:W4.heap.size=w4.heap.size:=gI▸zim w4 w.heap.size _ _ _ _;have cL:Hid (∀k,k≠w.heap.size->W4.heap[k]?=w4.heap[k]?):=wJ λk hk=>gI▸zjG w4 w.heap.size k _ _ _ _ hk;have bc:Hid (Blk W4 w.heap.size 59 #[.int .i64 2,.string X,.slice none 0 0,.slice none 0 0,.int .i64 tK,.string tX,.int .i64 tZ,.slice tA tm tc,.int .i64 0,.string ⟨#[]⟩,.bool false,.int .i64 0,.string ⟨#[]⟩,.int .i64 0,.slice none 0 0,.slice none 0 0,.slice none 0 0]):=wJ (gI▸zjF _ _ _ _ aa);have o9:Hid (ChR b w W4):=wJ (gI▸(HC.out.trans c4).so17_4 _ _ _ _ (tV _));have hU:∃ok,e=.returned (.tuple #[.agg #[.int .i64 tK,.string tX,.int .i64 tZ,.slice tA tm tc],.bool ok])/\((ok=false/\M=none)\/(ok=true/\∃t r,M=some (.sig X.data.toList t,r)/\tyV t tA tc=[.int .i64 tK,.string tX,.int .i64 tZ,.slice tA tm tc]/\Args (λg=>w.heap.size<g/\g<w4.heap.size) W4 t tA/\RdrS S W4 b r)):=by
     rcases au with⟨ho,he⟩|⟨t,r,ho,he,aq,hr⟩
     ·exact⟨false,he,.inl ⟨rfl,by rw[mg.out,ho];rfl⟩⟩
     ·obtain⟨A',a',cd,jK⟩:=aq
      injection cd with cd;have cd:=uC Array.toList cd;simp only[vH,Value.int.injEq,Value.string.injEq,Value.slice.injEq,wz,wj]at cd;obtain⟨rfl,rfl,rfl,rfl,rfl,rfl⟩:=cd;exact⟨true,he,.inr ⟨rfl,t,r,by rw[mg.out,ho];rfl,rfl,Args.keep (λg hg=>⟨by omega,hg.2⟩) (λg hg=>cL.out g (by omega)) _ _ jK,hr.keep (cL.out b (by omega)) (λk hk=>cL.out k (by have:=(HS.out k hk).2;omega))⟩⟩
    obtain⟨ok,rfl,hU⟩:=hU;have HU:=wJ hU;clear aa c4 HT au hU;go_upto_region 12 with fail
    try rw[gI]
    clear gI g0 g1 g2 g3 g4 g5 g6 g7 g8 g9 g10 g11 g12 g13 g14 g15 g16 z0 z1 z2 z3 z4 z5 z6 z7 z8 z9 eG gU z12 gT gS gR gQ;have av:Hid (W4.heap[w.heap.size]?=some (.cells #[.int .i64 2,.string X,.slice none 0 0,.slice none 0 0,.int .i64 tK,.string tX,.int .i64 tZ,.slice tA tm tc,.int .i64 0,.string ⟨#[]⟩,.bool false,.int .i64 0,.string ⟨#[]⟩,.int .i64 0,.slice none 0 0,.slice none 0 0,.slice none 0 0] 59 (0,0))):=wJ bc.out;go_wp2_with (first|((with_reducible refine wpList_load_row ?_ 59 (.tmp 2) ?_ w.heap.size ?_ 59 _ (0,0) _ av.out Tryz.underlying59 ?_ ?_ ?_);(exact rfl);(exact rfl);(exact rfl);(exact rfl);(exact(by kernel_rfl)))|((with_reducible refine wpList_store_row ?_ 59 (.tmp 2) (.tmp 47) ?_ w.heap.size #[.int .i64 2,.string X,.slice none 0 0,.slice none 0 0,.int .i64 tK,.string tX,.int .i64 tZ,.slice tA tm tc,.int .i64 0,.string ⟨#[]⟩,.bool false,.int .i64 0,.string ⟨#[]⟩,.int .i64 0,.slice none 0 0,.slice none 0 0,.slice none 0 0] ?_ ?_ 59 #[.int .i64 2,.string X,.slice none 0 0,.slice none 0 0,.int .i64 tK,.string tX,.int .i64 tZ,.slice tA tm tc,.int .i64 0,.string ⟨#[]⟩,.bool false,.int .i64 0,.string ⟨#[]⟩,.int .i64 0,.slice none 0 0,.slice none 0 0,.slice none 0 0] av.out ?_ ?_ ?_ ?_);(exact rfl);(exact rfl);(exact rfl);(exact rfl);(exact(by kernel_rfl));(exact(by kernel_rfl));(exact(zcm _ _ _ _ _ _ _ _ _ _ _ _ _ _ _ _ _ _ _ _ _ _ _ _ _ _ _ _ _));rw[setRow_self _ _ _ _ _ av.out]))
    try simp only[Exit.inBlock,Exit.then]
    refine ub (zaa rfl _ _ w.heap.size 59 _ (0,0) _ rfl bc.out Tryz.underlying59 rfl (by kernel_rfl)) rfl ?_;refine⟨o9.out,[.int .i64 2,.string X,.slice none 0 0,.slice none 0 0,.int .i64 tK,.string tX,.int .i64 tZ,.slice tA tm tc,.int .i64 0,.string ⟨#[]⟩,.bool false,.int .i64 0,.string ⟨#[]⟩,.int .i64 0,.slice none 0 0,.slice none 0 0,.slice none 0 0],⟨_,_,_,_,_,_,_,_,_,_,_,_,_,_,_,_,_,_,_,_,_,_,_,_,_,_,_,_,_,rfl⟩,?_⟩;rcases HU.out with⟨rfl,hM⟩|⟨rfl,t,r,hM,ht,hx,hr⟩
    ·exact .inl ⟨hM,rfl⟩
    ·refine .inr ⟨_,r,hM,rfl,⟨tA,tc,by rw[ht];simp[exZl,Sx.strV],Args.keep (λg hg=>⟨by omega,by omega⟩) (λ_ _=>rfl) _ _ hx⟩,hr⟩
   |false =>
    rw[ue (by decide)]at aD
    have HR:=wJ aD;have lq:Hid (M=decH X.data.toList r2):=wJ (by rw[fE.out,decG,km.out,ue (by decide)]);clear aD;have ht:=zaE S b r2 ⟨#[61]⟩ w3 HR.out (λg hg=>⟨(HS.out g hg).1,by have:=(HS.out g hg).2;omega⟩) HL.out;rw[show(⟨#[61]⟩:ByteArray).data.toList=[61] from rfl,took]at ht
    obtain⟨q5,hq⟩:∃q,isHd r2 6 [61]=q:=⟨_,rfl⟩;rw[hq]at ht
    have fZ:=wJ ht;have HQ5:=wJ hq;clear ht hq;go_wp2_with fail
    refine fZ.out.mono ?_;rintro e w5 ⟨rfl,iK,c5⟩;have ee:=c5.size;have aE:=wJ (aE.out.chgR c5 (by unfold only;omega));have HC:=wJ (HC.out.trans c5);clear c5 fZ;cases q5 with
    |false =>
     have nQ:Hid (M=none):=wJ (by rw[lq.out,decH,HQ5.out,ue (by decide)]);clear iK;go_upto_region 12 with fail
     have bc:=aE;have av:Hid (w5.heap[w.heap.size]?=some (.cells #[.int .i64 0,.string X,.slice none 0 0,.slice none 0 0,.int .i64 0,.string ⟨#[]⟩,.int .i64 0,.slice none 0 0,.int .i64 0,.string ⟨#[]⟩,.bool false,.int .i64 0,.string ⟨#[]⟩,.int .i64 0,.slice none 0 0,.slice none 0 0,.slice none 0 0] 59 (0,0))):=wJ bc.out;go_wp2_with (first|((with_reducible refine wpList_load_row ?_ 59 (.tmp 2) ?_ w.heap.size ?_ 59 _ (0,0) _ av.out Tryz.underlying59 ?_ ?_ ?_);(exact rfl);(exact rfl);(exact rfl);(exact rfl);(exact(by kernel_rfl)))|((with_reducible refine wpList_store_row ?_ 59 (.tmp 2) (.tmp 47) ?_ w.heap.size #[.int .i64 0,.string X,.slice none 0 0,.slice none 0 0,.int .i64 0,.string ⟨#[]⟩,.int .i64 0,.slice none 0 0,.int .i64 0,.string ⟨#[]⟩,.bool false,.int .i64 0,.string ⟨#[]⟩,.int .i64 0,.slice none 0 0,.slice none 0 0,.slice none 0 0] ?_ ?_ 59 #[.int .i64 0,.string X,.slice none 0 0,.slice none 0 0,.int .i64 0,.string ⟨#[]⟩,.int .i64 0,.slice none 0 0,.int .i64 0,.string ⟨#[]⟩,.bool false,.int .i64 0,.string ⟨#[]⟩,.int .i64 0,.slice none 0 0,.slice none 0 0,.slice none 0 0] av.out ?_ ?_ ?_ ?_);(exact rfl);(exact rfl);(exact rfl);(exact rfl);(exact(by kernel_rfl));(exact(by kernel_rfl));(exact(zcm _ _ _ _ _ _ _ _ _ _ _ _ _ _ _ _ _ _ _ _ _ _ _ _ _ _ _ _ _));rw[setRow_self _ _ _ _ _ av.out]))
     try simp only[Exit.inBlock,Exit.then]
     refine ub (zaa rfl _ _ w.heap.size 59 _ (0,0) _ rfl bc.out Tryz.underlying59 rfl (by kernel_rfl)) rfl ?_;exact⟨HC.out,_,⟨_,_,_,_,_,_,_,_,_,_,_,_,_,_,_,_,_,_,_,_,_,_,_,_,_,_,_,_,_,rfl⟩,.inl ⟨nQ.out,rfl⟩⟩
    |true =>
     rw[ud rfl]at iK
     obtain⟨⟨g0,g1,g2,g3,g4,g5,g6,g7,g8,g9,g10,g11,g12,g13,g14,g15,g16⟩,⟨z0,z1,z2,z3,z4,z5,z6,z7,z8,z9,eG,gU,z12,gT,gS,gR,gQ⟩,bB⟩:=zay aE.out;obtain⟨W5,cW⟩:∃W,w5.setCell ⟨w.heap.size,0,none⟩ (.int .i64 3)=W:=⟨_,rfl⟩;have hs5':W5.heap.size=w5.heap.size:=by rw[<-cW];simp
     have aE:Hid (Blk W5 w.heap.size 59 #[.int .i64 3,.string X,.slice none 0 0,.slice none 0 0,.int .i64 0,.string ⟨#[]⟩,.int .i64 0,.slice none 0 0,.int .i64 0,.string ⟨#[]⟩,.bool false,.int .i64 0,.string ⟨#[]⟩,.int .i64 0,.slice none 0 0,.slice none 0 0,.slice none 0 0]):=wJ (cW▸uk _ _ 0 _ _ _ aE.out);have HC:Hid (ChR b w W5):=wJ (cW▸HC.out.setCell (.inl (tV _)) _);have hE:=zi6 S b (zaJ r2.tail) W5 r2.tail (show RdrS S W5 b r2.tail from cW▸iK.keep (tY _ ⟨w.heap.size,0,none⟩ _ b (by intro e;simp at e;omega)) (λg hg=>tY _ ⟨w.heap.size,0,none⟩ _ g (by intro e;simp at e;have:=(HS.out g hg).2;omega))) (λg hg=>⟨(HS.out g hg).1,by have:=(HS.out g hg).2;omega⟩) (AllG.tail' HG.out) (by have:=HL.out;simp;omega) (by unfold zaJ;omega);obtain⟨O9,jn⟩:∃O,rdE (zaJ r2.tail) r2.tail=O:=⟨_,rfl⟩;have mg:Hid (M=O9.map λy=>(De.bind X.data.toList y.1,y.2)):=wJ (by rw[lq.out,decH,HQ5.out,ud rfl,jn]);rw[jn]at hE
     have HE:=wJ hE;clear iK hE jn;go_upto_region 11 with fail
     try rw[cW]
     clear cW g0 g1 g2 g3 g4 g5 g6 g7 g8 g9 g10 g11 g12 g13 g14 g15 g16 z0 z1 z2 z3 z4 z5 z6 z7 z8 z9 eG gU z12 gT gS gR gQ;go_wp2_with fail
     refine HE.out.mono ?_;rintro e w6 ⟨c6,cs,bA,au⟩;obtain⟨ck,cx,ct,cK,cX,cZ,cB,cm,cq,aU,aR,aS,aT,aP,aQ,rfl⟩:=bA;have pj:=c6.size;have aa:=aE.out.chgR c6 (by unfold only;omega);obtain⟨⟨g0,g1,g2,g3,g4,g5,g6,g7,g8,g9,g10,g11,g12,g13,g14,g15,g16⟩,⟨z0,z1,z2,z3,z4,z5,z6,z7,z8,z9,eG,gU,z12,gT,gS,gR,gQ⟩,bB⟩:=zay aa;obtain⟨W6,fo⟩:∃W,(((((((((w6.setCell ⟨w.heap.size,8,none⟩ (.int .i64 ck)).setCell ⟨w.heap.size,9,none⟩ (.string cx)).setCell ⟨w.heap.size,10,none⟩ (.bool ct)).setCell ⟨w.heap.size,11,none⟩ (.int .i64 cK)).setCell ⟨w.heap.size,12,none⟩ (.string cX)).setCell ⟨w.heap.size,13,none⟩ (.int .i64 cZ)).setCell ⟨w.heap.size,14,none⟩ (.slice cB cm cq)).setCell ⟨w.heap.size,15,none⟩ (.slice aU aR aS)).setCell ⟨w.heap.size,16,none⟩ (.slice aT aP aQ))=W:=⟨_,rfl⟩;have hsW6:W6.heap.size=w6.heap.size:=fo▸zil w6 w.heap.size _ _ _ _ _ _ _ _ _;have cL:Hid (∀k,k≠w.heap.size->W6.heap[k]?=w6.heap[k]?):=wJ λk hk=>fo▸zjE w6 w.heap.size k _ _ _ _ _ _ _ _ _ hk;have bc:Hid (Blk W6 w.heap.size 59 #[.int .i64 3,.string X,.slice none 0 0,.slice none 0 0,.int .i64 0,.string ⟨#[]⟩,.int .i64 0,.slice none 0 0,.int .i64 ck,.string cx,.bool ct,.int .i64 cK,.string cX,.int .i64 cZ,.slice cB cm cq,.slice aU aR aS,.slice aT aP aQ]):=wJ (fo▸zjD _ _ _ _ _ _ _ _ _ aa);have kS:Hid (ChR b w W6):=wJ (fo▸(HC.out.trans c6).so17_8 _ _ _ _ _ _ _ _ _ (tV _));have hU:∃ok,e=.returned (.tuple #[.agg #[.int .i64 ck,.string cx,.bool ct,.int .i64 cK,.string cX,.int .i64 cZ,.slice cB cm cq,.slice aU aR aS,.slice aT aP aQ],.bool ok])/\((ok=false/\M=none)\/(ok=true/\∃y r,M=some (.bind X.data.toList y,r)/\pcE.Cs (λg=>w.heap.size<g/\g<w6.heap.size) W6 y [.int .i64 ck,.string cx,.bool ct,.int .i64 cK,.string cX,.int .i64 cZ,.slice cB cm cq,.slice aU aR aS,.slice aT aP aQ]/\RdrS S W6 b r)):=by
      rcases au with⟨ho,he⟩|⟨y,r,ho,he,hx,hr⟩
      ·exact⟨false,he,.inl ⟨rfl,by rw[mg.out,ho];rfl⟩⟩
      ·exact⟨true,he,.inr ⟨rfl,y,r,by rw[mg.out,ho];rfl,pcE.keep (λg hg=>⟨by omega,hg.2⟩) (λg hg=>cL.out g (by omega)) hx,hr.keep (cL.out b (by omega)) (λk hk=>cL.out k (by have:=(HS.out k hk).2;omega))⟩⟩
     obtain⟨ok,rfl,hU⟩:=hU;have HU:=wJ hU;clear aa c6 HE au hU;go_upto_region 12 with fail
     try rw[fo]
     clear fo g0 g1 g2 g3 g4 g5 g6 g7 g8 g9 g10 g11 g12 g13 g14 g15 g16 z0 z1 z2 z3 z4 z5 z6 z7 z8 z9 eG gU z12 gT gS gR gQ;have av:Hid (W6.heap[w.heap.size]?=some (.cells #[.int .i64 3,.string X,.slice none 0 0,.slice none 0 0,.int .i64 0,.string ⟨#[]⟩,.int .i64 0,.slice none 0 0,.int .i64 ck,.string cx,.bool ct,.int .i64 cK,.string cX,.int .i64 cZ,.slice cB cm cq,.slice aU aR aS,.slice aT aP aQ] 59 (0,0))):=wJ bc.out;go_wp2_with (first|((with_reducible refine wpList_load_row ?_ 59 (.tmp 2) ?_ w.heap.size ?_ 59 _ (0,0) _ av.out Tryz.underlying59 ?_ ?_ ?_);(exact rfl);(exact rfl);(exact rfl);(exact rfl);(exact(by kernel_rfl)))|((with_reducible refine wpList_store_row ?_ 59 (.tmp 2) (.tmp 47) ?_ w.heap.size #[.int .i64 3,.string X,.slice none 0 0,.slice none 0 0,.int .i64 0,.string ⟨#[]⟩,.int .i64 0,.slice none 0 0,.int .i64 ck,.string cx,.bool ct,.int .i64 cK,.string cX,.int .i64 cZ,.slice cB cm cq,.slice aU aR aS,.slice aT aP aQ] ?_ ?_ 59 #[.int .i64 3,.string X,.slice none 0 0,.slice none 0 0,.int .i64 0,.string ⟨#[]⟩,.int .i64 0,.slice none 0 0,.int .i64 ck,.string cx,.bool ct,.int .i64 cK,.string cX,.int .i64 cZ,.slice cB cm cq,.slice aU aR aS,.slice aT aP aQ] av.out ?_ ?_ ?_ ?_);(exact rfl);(exact rfl);(exact rfl);(exact rfl);(exact(by kernel_rfl));(exact(by kernel_rfl));(exact(zcm _ _ _ _ _ _ _ _ _ _ _ _ _ _ _ _ _ _ _ _ _ _ _ _ _ _ _ _ _));rw[setRow_self _ _ _ _ _ av.out]))
     try simp only[Exit.inBlock,Exit.then]
     refine ub (zaa rfl _ _ w.heap.size 59 _ (0,0) _ rfl bc.out Tryz.underlying59 rfl (by kernel_rfl)) rfl ?_;refine⟨kS.out,[.int .i64 3,.string X,.slice none 0 0,.slice none 0 0,.int .i64 0,.string ⟨#[]⟩,.int .i64 0,.slice none 0 0,.int .i64 ck,.string cx,.bool ct,.int .i64 cK,.string cX,.int .i64 cZ,.slice cB cm cq,.slice aU aR aS,.slice aT aP aQ],⟨_,_,_,_,_,_,_,_,_,_,_,_,_,_,_,_,_,_,_,_,_,_,_,_,_,_,_,_,_,rfl⟩,?_⟩;rcases HU.out with⟨rfl,hM⟩|⟨rfl,y,r,hM,hx,hr⟩
     ·exact .inl ⟨hM,rfl⟩
     ·obtain⟨P,hP,h2,h3⟩:=pcE.keep (S':=λg=>w.heap.size<=g/\g<W6.heap.size) (λg hg=>⟨by omega,by omega⟩) (λ_ _=>rfl) hx
      exact .inr ⟨_,r,hM,rfl,⟨P,by rw[<-hP];simp[tyZl,Sx.strV],h2,h3⟩,hr⟩
end Go.Proofs.YtknkclefoiohpaaGreatDoor
