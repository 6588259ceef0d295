import Derived.Test.YtknkclefoiohpaaGreatDoorKcB
import Derived.Test.YtknkclefoiohpaaGreatDoorKbE
import Derived.Deep.MidRow
set_option maxHeartbeats 12800000
namespace Go.Proofs.YtknkclefoiohpaaGreatDoor
open Go.RowKit Lx Tx Sx
set_option maxRecDepth 100000
theorem decl8_info:(Tryz.prog.info? 81).map (λi=>(i.zero,i.size,i.bytes))=some (some (.agg #[.int .i64 0,.string ⟨#[]⟩,.slice none 0 0,.slice none 0 0,.int .i64 0,.string ⟨#[]⟩,.int .i64 0,.slice none 0 0,.int .i64 0,.string ⟨#[]⟩,.bool false,.int .i64 0,.string ⟨#[]⟩,.int .i64 0,.slice none 0 0,.slice none 0 0,.slice none 0 0]),17,264):=by kernel_rfl
def sepD(f:Nat)(l:List Tok):Option (List De × List Tok):=sepM (λ_=>rdDecl) f l
def HdP(ts:List Tok)(SO:Option (List De × List Tok))(w1:World)(gg:Nat)(vo vi vm:Value)(wr:World):Prop :=
 ∃(P:Option (List Tok)) (z:Int) (qm:Bool) (A:Option Addr) (n c:Nat),gg=(if qm=true then P.elim 0 List.length+1 else 0)/\vo=.slice A n c/\vi=.int .i64 z/\vm=.bool qm/\PAt ts P z/\Hid (Below w1.heap.size w1 wr) /\
  Hid (qm=true->∃r f' done,P=some r/\r.length+1<=f'/\n=done.length/\done.length+r.length<=ts.length/\0<ts.length/\SO=(sepD f' r).map (λy=>(done++y.1,y.2))/\BuiltG pcD w1.heap.size 81 wr done (.slice A n c)) /\
  Hid (qm=false->SO.map (·.2)=P/\n<=100001/\∀l rl,SO=some (l,rl)->n=l.length/\BuiltG pcD w1.heap.size 81 wr l (.slice A n c))
theorem parseP_ok(s:List UInt8)(ts:List Tok)(a:Nat)(h:scanS s=(ts,a,0)):parseP s=match rdProg ts with
  |some (l,[])=>if l.any De.tooDeep then .error 3 else .ok l
  |_=>.error 80:=by
 rw[parseP,h]
 rfl
theorem parseP_er(s:List UInt8)(ts:List Tok)(a er:Nat)(h:scanS s=(ts,a,er))(he:er≠0):parseP s=.error er:=by
 rw[parseP,h]
 cases er with
 |zero=>exact absurd rfl he
 |succ n=>rfl
theorem any_takeD(l:List De)(i:Nat)(x:De)(h:l[i]?=some x):(l.take (i+1)).any De.tooDeep=((l.take i).any De.tooDeep||x.tooDeep):=by
 rw[List.take_add_one,h,List.any_append]
 simp
set_option maxRecDepth 10000000 in
theorem r8_parse(s:ByteArray)(w:World)(hs:s.size<=maxLen):Calls Tryz.prog 9 #[.string s] w (QPost s.data.toList w):=by
 obtain⟨i0,hi0,hz0,hz1,hz2⟩:=info_parts decl8_info;have HINF:Hid ((Tryz.prog.info? 81).map (·.size)=some 17):=hidE (by kernel_rfl);have HSCN:=hidE (ref_any s w hs);go_enter Tryz.func9,Tryz.ntmps9
 go_wp2_with fail
 refine HSCN.out.mono ?_;rintro e w1 ⟨b1,v,ts,a,er,hsc,rfl,hown⟩;have hs1:=b1.size;have HB1:=hidE b1;have HSC:=hidE hsc;have HRD:=hidE (RdT.of_own hown);obtain⟨A1,c1,rfl⟩:∃P c,v=.slice P ts.length c:=own_shape hown;clear b1 hsc hown HSCN;by_cases he:er=0
 ·subst he
  obtain⟨hG,hL⟩:=scan_good _ _ _ HSC.out;have hPA:=parseP_ok _ _ _ HSC.out;obtain⟨SO,hSO⟩:∃O,rdProg ts=O:=⟨_,rfl⟩;rw[hSO]at hPA
  have hSO2:=hSO;rw[rdProg_eq ts hG]at hSO2
  have hpos:0<ts.length->0<w1.heap.size:=λh=>by
   obtain⟨g,c',hvs,-,h1,-⟩:=HRD.out.at_ 0 h;have:=lt_cell h1;omega
  obtain⟨N0,hN0⟩:∃n,ts.length=n:=⟨_,rfl⟩;obtain⟨q0,hq0⟩:∃q,decide (0<N0)=q:=⟨_,rfl⟩;have d0:decide ((0:Int)<(N0:Int))=q0:=by rw[<-hq0];exact decide_eq_decide.2 (by omega)
  have hN9:N0<=100000:=by omega
  have HST:Hid (HdP ts SO w1 (if q0=true then N0+1 else 0) (.slice none 0 0) (.int .i64 0) (.bool q0) w1):=hidE (by
   refine⟨some ts,0,q0,none,0,0,by rw[<-hN0];rfl,rfl,rfl,rfl,PAt.some_ ts 0 (Nat.zero_le _),hidE (Below.refl _ _),hidE (λh=>?_),hidE (λh=>?_)⟩
   ·have h0:0<N0:=of_decide_eq_true (hq0.trans h)
    refine⟨ts,3*ts.length,[],rfl,by omega,rfl,by simp,by omega,?_,BuiltG.nil _ _ _ _⟩;rw[if_neg (by omega)]at hSO2
    rw[<-hSO2,sepD]
    cases sepM (λ_=>rdDecl) (3*ts.length) ts <;> simp
   ·have h0:¬0<N0:=of_decide_eq_false (hq0.trans h)
    rw[if_pos (by omega)]at hSO2
    have htn:ts=[]:=List.length_eq_zero_iff.1 (by omega);rw[<-hSO2]
    refine⟨by rw[htn];rfl,by omega,λl rl h=>?_⟩;injection h with h;injection h with h _;subst h;exact⟨rfl,BuiltG.nil _ _ _ _⟩)
  have HPA:=hidE hPA;have HSO:=hidE hSO;have HG:=hidE hG;have HN0:=hidE hN0;have HPOS:=hidE hpos;rw[hN0]at HRD hL ⊢
  obtain⟨g0,hg0⟩:∃x,(if q0=true then N0+1 else 0)=x:=⟨_,rfl⟩;rw[hg0]at HST
  clear hSO hSO2 hPA hN0 hG hpos hg0;go_wp2_with fail
  go_loopg [7,8,9] g0 (λgg vo vi vm wr=>HdP ts SO w1 gg vo vi vm wr)
  case atStart=>exact HST.out
  case round =>
   obtain⟨P,z,qm,A,n,c,rfl,rfl,rfl,rfl,hpz,hB,hT,hF⟩:=hrel;have hsr:=hB.out.size;have hlz:=hpz.lo;cases qm with
   |true =>
    obtain⟨r,f',done,rfl,hfr,hnd,hdl,hps,hSS,hBT⟩:=hT.out rfl;obtain⟨f1,rfl⟩:∃f1,f'=f1+1:=⟨f'-1,by omega⟩;rcases hpz with⟨h,-⟩|⟨k,hk,rfl,hrk⟩
    ·cases h
    ·injection hrk with hrk
     subst hrk;have h0w:=HPOS.out hps;obtain⟨vs,hown,hrow⟩:=hBT;rw[<-hnd]at hown
     replace hown:wr.ownsRow w1.heap.size 81 17 (.slice A n c) n vs:=hown;have hn9:n<=100000:=by have:=HN0.out;omega
     have HOWN:=hidE hown;have HROW:=hidE hrow;have HSS:=hidE hSS;have HDN:=hidE (And.intro hnd (And.intro hdl hfr));have HDC:=hidE (r8_decl ts _ HG.out (by have:=HN0.out;omega) wr k hk (HRD.out.below hB.out));obtain⟨O,hO⟩:∃O,rdDecl (ts.drop k)=O:=⟨_,rfl⟩;rw[hO]at HDC
     have HO:=hidE hO;have hkN:k<=N0:=by rw[<-HN0.out];exact hk
     have HLB:Hid (∀y rb,O=some (y,rb)->rb.length+1<=(ts.drop k).length):=hidE λy rb ho=>(rdDecl_len (ts.drop k) y rb (λx hx=>HG.out x (List.mem_of_mem_drop hx)) (HO.out.trans ho)).2;clear hown hrow hSS hnd hdl hfr hO hT hF hk;go_wp2_with fail
     refine HDC.out.mono ?_;rintro e w2 ⟨b2,cs,z2,⟨dk0,ds,dV,dvm,dvq,dG,dgm,dgq,dK0,dX0,dZ0,dB0,dm0,dq0,dk,dx,dt,dK,dX,dZ,dB,dm,dq,dKA,dkn,dkc,dLA,dln,dlc,rfl⟩,rfl,hp2,hcs⟩;have hs2:=b2.size;have hl2:=hp2.lo;have HP2:=hidE hp2;have HCS:=hidE hcs;have hbA:Below wr.heap.size wr (w2.alloc (.cells #[.int .i64 dk0,.string ds,.slice dV dvm dvq,.slice dG dgm dgq,.int .i64 dK0,.string dX0,.int .i64 dZ0,.slice dB0 dm0 dq0,.int .i64 dk,.string dx,.bool dt,.int .i64 dK,.string dX,.int .i64 dZ,.slice dB dm dq,.slice dKA dkn dkc,.slice dLA dln dlc] 81)):=b2.alloc hs2 _;have HBA:=hidE hbA;have HOW:=hidE ((own_below HOWN.out hbA).alloc (.cells #[.int .i64 dk0,.string ds,.slice dV dvm dvq,.slice dG dgm dgq,.int .i64 dK0,.string dX0,.int .i64 dZ0,.slice dB0 dm0 dq0,.int .i64 dk,.string dx,.bool dt,.int .i64 dK,.string dX,.int .i64 dZ,.slice dB dm dq,.slice dKA dkn dkc,.slice dLA dln dlc] 81));clear b2 hp2 hcs hbA HDC;go_wp2_with (first
      |((with_reducible refine wpList_store_row ?_ 81 (.tmp 10) (.tmp 31) ?_ w2.heap.size #[.int .i64 dk0,.string ds,.slice dV dvm dvq,.slice dG dgm dgq,.int .i64 dK0,.string dX0,.int .i64 dZ0,.slice dB0 dm0 dq0,.int .i64 dk,.string dx,.bool dt,.int .i64 dK,.string dX,.int .i64 dZ,.slice dB dm dq,.slice dKA dkn dkc,.slice dLA dln dlc] ?_ ?_ 81 #[.int .i64 0,.string ⟨#[]⟩,.slice none 0 0,.slice none 0 0,.int .i64 0,.string ⟨#[]⟩,.int .i64 0,.slice none 0 0,.int .i64 0,.string ⟨#[]⟩,.bool false,.int .i64 0,.string ⟨#[]⟩,.int .i64 0,.slice none 0 0,.slice none 0 0,.slice none 0 0] (heap_alloc_new w2 _) ?_ ?_ ?_ ?_);(exact rfl);(exact rfl);(exact rfl);(exact rfl);(exact(by kernel_rfl));(exact(by kernel_rfl));(exact(one17 _ _ _ _ _ _ _ _ _ _ _ _ _ _ _ _ _ _ _ _ _ _ _ _ _ _ _ _ _));rw[World.setRow_alloc_new])
      |((with_reducible refine wpList_load_row ?_ 81 (.tmp 10) ?_ w2.heap.size ?_ 81 _ (0,0) _ (heap_alloc_new w2 _) Tryz.underlying81 ?_ ?_ ?_);(exact rfl);(exact rfl);(exact rfl);(exact rfl);(exact(by kernel_rfl)))
      |(at_builtin;refine wpList_append_own_at _ rfl (.tmp 33) (.tmp 35) 27 rfl w1.heap.size 81 i0 _ 17 264 Tryz.underlying27 hi0 hz0 hz1 hz2 rfl (by decide) _ n vs rfl HOW.out ⟨w2.heap.size+1,0,none⟩ 1 1 [.int .i64 dk0,.string ds,.slice dV dvm dvq,.slice dG dgm dgq,.int .i64 dK0,.string dX0,.int .i64 dZ0,.slice dB0 dm0 dq0,.int .i64 dk,.string dx,.bool dt,.int .i64 dK,.string dX,.int .i64 dZ,.slice dB dm dq,.slice dKA dkn dkc,.slice dLA dln dlc] rfl rfl (new_cells' _ _ _ _ (by simp)) (by intro u hu;simp at hu;rcases hu with rfl|rfl|rfl|rfl|rfl|rfl|rfl|rfl|rfl|rfl|rfl|rfl|rfl|rfl|rfl|rfl|rfl <;> rfl) (by unfold maxLen;omega) (by omega) (by simp;omega) ?_;intro v2 w5 hown5 hgrow _ hat5;obtain⟨A2,c2,rfl⟩:=own_shape hown5;have HO5:=hidE hown5;have HG5:=hidE hgrow;have HT5:=hidE hat5;clear hown5 hgrow hat5))
     have hs5:=HG5.out.size;simp at hs5;have hHL:=HOWN.out.lt;have HBT5:Hid (∀y rb,O=some (y,rb)->BuiltG pcD w1.heap.size 81 w5 (done++[y]) (.slice A2 (n+1) c2)):=hidE λy rb ho =>
      BuiltG.next (P:=pcD) (b:=0) (w:=wr) (w1:=w2.alloc (.cells #[.int .i64 dk0,.string ds,.slice dV dvm dvq,.slice dG dgm dgq,.int .i64 dK0,.string dX0,.int .i64 dZ0,.slice dB0 dm0 dq0,.int .i64 dk,.string dx,.bool dt,.int .i64 dK,.string dX,.int .i64 dZ,.slice dB dm dq,.slice dKA dkn dkc,.slice dLA dln dlc] 81)) (by omega) (by omega) (by rw[<-HDN.out.1];exact HOWN.out) HROW.out (ChR.of_below HBA.out) (pcD.keep (λg hg=>⟨hg.1,by simp;omega⟩) (λg hg=>Below.heap_alloc _ _ _ hg.2) (HCS.out y rb ho)) ((Below.refl _ _).alloc (Nat.le_refl _) _) (by rw[<-HDN.out.1];exact HO5.out) HG5.out HT5.out
     have hB5:Below w1.heap.size w1 w5:=(hB.out.trans (HBA.out.mono hsr)).trans (((Below.refl w1.heap.size _).alloc (by simp;omega) _).grown HG5.out (by simp;omega) (λj hj=>by have:=hHL j hj;omega));have HB5:=hidE hB5;have HIZ:=hidE (r8_is _ ts _ z2 6 ⟨#[59]⟩ 6 rfl (by decide) w5 (HRD.out.below hB5) HP2.out);obtain⟨qs,hqs⟩:∃q,isO 6 [59] (O.map (·.2))=q:=⟨_,rfl⟩;rw[show(⟨#[59]⟩:ByteArray).data.toList=[59] from rfl,hqs]at HIZ
     have HQS:=hidE hqs;clear hqs hB5 hHL;go_wp2_with fail
     refine HIZ.out.mono ?_;rintro e w7 ⟨rfl,rfl⟩;clear HIZ;cases qs with
     |true =>
      obtain⟨hpn,hz0',hz1'⟩:=pat_next (by decide) HP2.out HQS.out;obtain⟨⟨y,rb⟩,hB2⟩:∃u,O=some u:=by
       cases hB2:O with
       |none=>have:=HQS.out;rw[hB2]at this;cases this
       |some u=>exact⟨u,rfl⟩
      have hnx:nxO 6 [59] (O.map (·.2))=some rb.tail:=by
       have:=HQS.out;rw[hB2]at this ⊢
       rw[nxO,this,if_pos rfl];rfl
      rw[hnx]at hpn
      have hlb:=HLB.out y rb hB2;have hz9:z2<=100000:=by rw[HN0.out]at hz1';omega
      have htl:rb.tail.length<=rb.length:=by simp
      have hdl:(ts.drop k).length=N0-k:=by rw[List.length_drop,HN0.out]
      rw[hdl]at hlb
      have HPN:=hidE hpn;have HNEW:Hid (∃r' f' done',some rb.tail=some r'/\r'.length+1<=f'/\n+1=done'.length/\done'.length+r'.length<=ts.length/\0<ts.length/\SO=(sepD f' r').map (λy=>(done'++y.1,y.2))/\BuiltG pcD w1.heap.size 81 w5 done' (.slice A2 (n+1) c2)):=hidE (by
       have hd2:=HDN.out.2.1;have hd3:=HDN.out.2.2;rw[hdl]at hd2 hd3
       refine⟨rb.tail,f1,done++[y],rfl,by omega,by rw[List.length_append,<-HDN.out.1];rfl,by rw[List.length_append,List.length_singleton];omega,hps,?_,HBT5.out y rb hB2⟩;rw[HSS.out,sepD,sepM_step,HO.out,hB2]
       have h59:isO 6 [59] (some rb)=true:=by have:=HQS.out;rw[hB2]at this;exact this
       simp only[h59,if_true,Option.map_map];rw[sepD]
       congr 1
       funext z
       simp)
      clear hpn hB2 hnx;go_wp2_with fail
      go_roundg (rb.tail.length+1)
      case measure=>first|(rw[hdl];omega)|(simp only[Option.elim_some];rw[hdl];omega)|(simp;rw[hdl];omega)|(simp;omega)
      case rel=>exact⟨some rb.tail,z2+1,true,A2,n+1,c2,rfl,rfl,by go_num,rfl,HPN.out,HB5,hidE (λ_=>HNEW.out),hidE (λh=>by cases h)⟩
     |false =>
      have HNEW:Hid (SO.map (·.2)=O.map (·.2)/\n+1<=100001/\∀l rl,SO=some (l,rl)->n+1=l.length/\BuiltG pcD w1.heap.size 81 w5 l (.slice A2 (n+1) c2)):=hidE (by
       have h1:=HSS.out;rw[sepD,sepM_step,HO.out]at h1
       cases hB2:O with
       |none=>rw[hB2]at h1;rw[h1];exact⟨rfl,by omega,λl rl h=>by cases h⟩
       |some u =>
        rw[hB2]at h1
        have h59:¬isO 6 [59] (some u.2)=true:=by have:=HQS.out;rw[hB2]at this;rw[show isO 6 [59] (some u.2)=false from this];decide
        simp only[if_neg h59,Option.map_some]at h1;rw[h1]
        refine⟨rfl,by omega,λl rl h=>?_⟩;injection h with h;injection h with h _;subst h;exact⟨by rw[List.length_append,<-HDN.out.1];rfl,HBT5.out u.1 u.2 hB2⟩)
      go_wp2_with fail
      go_roundg 0
      case measure=>simp
      case rel=>exact⟨O.map (·.2),z2,false,A2,n+1,c2,rfl,rfl,rfl,rfl,HP2.out,HB5,hidE (λh=>by cases h),hidE (λ_=>HNEW.out)⟩
   |false =>
    obtain⟨hs1',hn9,hs2'⟩:=hF.out rfl;have HS1:=hidE hs1';have HS2:=hidE hs2';have HPZ:=hidE hpz;clear hs1' hs2' hT hF hpz;by_cases hz:z=(N0:Int)
    ·have HX:Hid (∃l,SO=some (l,[])):=hidE (by
      rcases HPZ.out with⟨-,h⟩|⟨k,hk,h1,h2⟩
      ·omega
      ·cases hO:SO with
       |none=>have:=HS1.out;rw[hO,h2]at this;cases this
       |some u =>
        have h3:=HS1.out;rw[hO,h2]at h3
        replace h3:u.2=ts.drop k:=by injection h3
        exact⟨u.1,by rw[show u=(u.1,u.2) from rfl,h3,List.drop_eq_nil_of_le (by rw[HN0.out];omega)]⟩)
     obtain⟨l,hl⟩:=HX.out;obtain⟨hnl,hbt⟩:=HS2.out l [] hl;obtain⟨-,hlst⟩:=hbt.lst;obtain⟨hok,-,hwt⟩:=rdProg_facts HG.out (HSO.out.trans hl);simp only[List.length_nil,Nat.add_zero]at hwt;have hwt4:desW l<=4000:=by have:=HN0.out;have:=hwt;omega
     have HP:Hid (parseP s.data.toList=if l.any De.tooDeep=true then .error 3 else .ok l):=hidE (by rw[HPA.out,hl]);have HL:=hidE hlst;have HOK:=hidE hok;have HWT:=hidE hwt4;have HNL:=hidE hnl;have dz:(z !=(N0:Int))=false:=by rw[hz];simp
     clear hl hnl hbt hlst hok hwt hwt4 hz HX;obtain⟨wq,hwq⟩:∃y,y=wr:=⟨_,rfl⟩;subst hwq;go_wp2_with fail
     go_loopg [12] n (λgg vi wy=>∃k:Nat,gg=n-k/\vi=.int .i64 (k:Nat)/\k<=n/\Hid ((l.take k).any De.tooDeep=false)/\Hid (Below wq.heap.size wq wy))
     case atStart=>exact⟨0,rfl,rfl,by omega,hidE rfl,hidE (Below.refl _ _)⟩
     case round =>
      obtain⟨k,rfl,rfl,hk,hU,hBy⟩:=hrel;have hsy:=hBy.out.size;by_cases hlt:k<n
      ·obtain⟨x,hx⟩:∃x,l[k]?=some x:=⟨_,List.getElem?_eq_getElem (by rw[<-HNL.out];exact hlt)⟩
       obtain⟨g,cs,rfl,hSg,hcs,hrow⟩:=HL.out.row k x hx;have hlen:cs.length=17:=pcD.len hcs;have HROW:Hid (wr.rangeAt g (k*17) cs):=hidE (Lie.keep (w:=wq) hrow (hBy.out.block g hSg.2));have HLEN:Hid ((Tryz.prog.info? 81).map (·.size)=some cs.length):=hidE (by rw[hlen];exact HINF.out);have hgl:g<wr.heap.size:=by have:=hSg.2;omega
       have hwx:x.wt<=4000:=by have:=desW_mem l x (List.mem_of_getElem? hx);have:=HWT.out;omega
       have hd:=r8_deep x _ cs wr (pcD.keep (λ_ h=>h) (λg hg=>hBy.out.block g hg.2) hcs) (λg hg=>by have:=hg.2;omega) hwx;obtain⟨q,hq⟩:∃q,x.tooDeep=q:=⟨_,rfl⟩;have HYES:Hid (q=true->l.any De.tooDeep=true):=hidE λh=>List.any_eq_true.2 ⟨x,List.mem_of_getElem? hx,hq.trans h⟩;have HNO:Hid (q=false->(l.take (k+1)).any De.tooDeep=false):=hidE λh=>by rw[any_takeD l k x hx,hU.out,hq,h];rfl
       rw[hq]at hd
       have HCALL:=hidE hd;have kk0:(0:Int)<=(k:Int):=by omega
       have kk1:(k:Int)<(n:Int):=by omega
       clear hx hSg hcs hrow hlen hwx hd hq;go_wp2_with ((with_reducible refine wpList_load_mid ?_ 81 (.tmp 56) ?_ g (k*17) ?_ cs _ HROW.out Tryz.underlying81 ?_ HLEN.out ?_);(exact rfl);(exact rfl);(exact rfl);(exact rfl))
       refine HCALL.out.mono ?_;rintro e w8 ⟨rfl,b8⟩;have HB8:=hidE (hBy.out.trans (b8.mono hsy));clear b8 HCALL;cases q with
       |true =>
        have hr:=hidE (HYES.out rfl);go_wp2_with fail
        go_ret2
        exact⟨(HB1.out.trans (hB.out.mono hs1)).trans (HB8.out.mono (by omega)),.inl ⟨3,by decide,by rw[HP.out,if_pos hr.out],rfl⟩⟩
       |false =>
        have hr:=hidE (HNO.out rfl);go_wp2_with fail
        go_roundg (n-(k+1))
        case measure=>omega
        case rel=>exact⟨k+1,rfl,by go_num,by omega,hr,HB8⟩
      ·have hkn:k=n:=by omega
       subst hkn;have hr:Hid (¬l.any De.tooDeep=true):=hidE (by
        have:=hU.out;rw[List.take_of_length_le (by rw[<-HNL.out];exact Nat.le_refl _)]at this
        rw[this];decide)
       go_wp2_with fail
       go_ret2
       exact⟨(HB1.out.trans (hB.out.mono hs1)).trans (hBy.out.mono (by omega)),.inr ⟨l,A,k,c,HOK.out,HWT.out,by rw[HP.out,if_neg hr.out],rfl,HNL.out,HL.out.keep (λg hg=>⟨by omega,by have:=hg.2;omega⟩) (λg hg=>hBy.out.block g hg.2)⟩⟩
    ·have dz:(z !=(N0:Int))=true:=by simpa using hz
     have HP:Hid (parseP s.data.toList=.error 80):=hidE (by
      rw[HPA.out]
      cases hO:SO with
      |none=>rfl
      |some u =>
       obtain⟨y,r⟩:=u;cases r with
       |cons t r=>rfl
       |nil =>
        exfalso
        have h3:=HS1.out;rw[hO]at h3
        rcases HPZ.out with⟨h,-⟩|⟨k,hk,h1,h2⟩
        ·rw[h]at h3;cases h3
        ·rw[h2]at h3
         replace h3:([]:List Tok)=ts.drop k:=by injection h3
         have:=congrArg List.length h3;rw[List.length_drop,HN0.out]at this
         simp only[List.length_nil]at this;rw[HN0.out]at hk
         omega)
     clear hz;go_wp2_with fail
     go_ret2
     exact⟨HB1.out.trans (hB.out.mono hs1),.inl ⟨80,by decide,HP.out,rfl⟩⟩
 ·have de:=neqT (er:Int) 0 (by omega)
  have HP:Hid (er≠0/\parseP s.data.toList=.error er):=hidE ⟨he,parseP_er _ _ _ _ HSC.out he⟩;clear he;go_wp2_with fail
  go_ret2
  exact⟨HB1.out,.inl ⟨er,HP.out.1,HP.out.2,rfl⟩⟩
end Go.Proofs.YtknkclefoiohpaaGreatDoor
