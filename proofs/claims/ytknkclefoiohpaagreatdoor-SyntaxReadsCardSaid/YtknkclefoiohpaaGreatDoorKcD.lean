import Derived.Test.YtknkclefoiohpaaGreatDoorKbAL
import Derived.Test.YtknkclefoiohpaaGreatDoorKcA
import Derived.Deep.MidRow
import Derived.Deep.WholeRow
set_option maxHeartbeats 12800000
namespace Go.Proofs.YtknkclefoiohpaaGreatDoor
open Go.RowKit Lx Tx Sx
set_option maxRecDepth 100000
theorem d8_printP(l:List De)(S:Nat->Prop)(A:Option Addr)(m c:Nat)(w:World)(hl:LstG pcD S w l A)(hm:l.length=m)(hok:∀d∈l,d.Ok)(hwt:desW l<=9000)(hS:∀g,S g->g<w.heap.size):Calls Tryz.prog 11 #[.slice A m c] w λen w'=>en=.returned (.string ⟨(printP l).toArray⟩)/\Below w.heap.size w w':=by
 have HL:=hidE hl;have HM:=hidE hm;have HS:=hidE hS;have HOK:=hidE hok;have HTOT:Hid (∀i,(sepS ((l.take i).map De.print)).length<=2000000):=hidE λi=>by have h1:=sepS_len l De.print i;have h2:=printP_len l hok;unfold printP at h2;omega
 have HDW:Hid (∀d∈l,d.wt<=9000):=hidE λd hd=>by have:=(desW_memb l d hd).1;omega
 have hm9:m<=9000:=by
  rcases Nat.eq_zero_or_pos m with h|h
  ·omega
  ·obtain⟨d,hd⟩:=List.exists_mem_of_length_pos (l:=l) (by omega)
   have:=(desW_memb l d hd).2;omega
 obtain⟨RR,hRR⟩:∃R:ByteArray,⟨(printP l).toArray⟩=R:=⟨_,rfl⟩;have HEND:Hid (∀X:ByteArray,X.data.toList=sepS (l.map De.print)->X=RR):=hidE λX hX=>by rw[<-hRR];apply ByteArray.ext;apply Array.ext';rw[hX];rfl
 have HINF:Hid ((Tryz.prog.info? 81).map (·.size)=some 17):=hidE (by kernel_rfl);rw[hRR]
 clear hl hm hok hwt hS hRR;go_enter Tryz.func11,Tryz.ntmps11
 go_wp2_with fail
 go_loopg [3,4] m (λgg vs vi wr=>∃(i:Nat) (XX:ByteArray),gg=m-i/\vs=.string XX/\vi=.int .i64 (i:Nat)/\i<=m/\XX.size<=2000000/\Hid (XX.data.toList=sepS ((l.take i).map De.print))/\Hid (Below w.heap.size w wr))
 case atStart=>exact⟨0,_,rfl,rfl,rfl,by omega,by decide,hidE (by simp[sepS]),hidE (Below.refl _ _)⟩
 case round =>
  obtain⟨i,XX,rfl,rfl,rfl,hi,hXs,hX,hB⟩:=hrel;obtain⟨wq,hwq⟩:∃y,y=wr:=⟨_,rfl⟩;subst hwq;have hsq:=hB.out.size;by_cases hlt:i<m
  ·obtain⟨d,hd⟩:∃x,l[i]?=some x:=⟨_,List.getElem?_eq_getElem (by rw[HM.out];exact hlt)⟩
   obtain⟨g,cs,rfl,hSg,hcs,hrow⟩:=HL.out.row i d hd;have hgw:=HS.out g hSg;have hkS:∀k,S k->wq.heap[k]?=w.heap[k]?:=λk hk=>hB.out.block k (HS.out k hk);obtain⟨hlen1,hone⟩:=deCs_one2 hcs;have HROW:Hid (wq.rangeAt g (i*17) cs):=hidE (Lie.keep hrow (hkS g hSg));have HLEN:Hid ((Tryz.prog.info? 81).map (·.size)=some cs.length):=hidE (by rw[hlen1];exact HINF.out);have HLEN2:Hid ((Tryz.prog.info? 81).map (·.size)=some cs.toArray.size):=hidE (by rw[List.size_toArray,hlen1];exact HINF.out);have HZ:Hid ((#[.int .i64 0,.string ⟨#[]⟩,.slice none 0 0,.slice none 0 0,.int .i64 0,.string ⟨#[]⟩,.int .i64 0,.slice none 0 0,.int .i64 0,.string ⟨#[]⟩,.bool false,.int .i64 0,.string ⟨#[]⟩,.int .i64 0,.slice none 0 0,.slice none 0 0,.slice none 0 0]:Array Value).size=cs.toArray.size):=hidE (by rw[show cs.toArray.size=17 by rw[List.size_toArray,hlen1]];rfl);have HONE:=hidE hone;have hgl:g<wq.heap.size:=by omega
   have hmem:=List.mem_of_getElem? hd;have hdok:=HOK.out d hmem;have hdw:=HDW.out d hmem;have hst:=sepS_take l De.print i d hd;have htot:=HTOT.out (i+1);rw[hst]at htot
   obtain⟨sm,hsm⟩:∃z:List UInt8,(if i=0 then[] else sSem)=z:=⟨_,rfl⟩;rw[hsm]at htot hst
   have hXl:XX.size=(sepS ((l.take i).map De.print)).length:=by rw[Lib.size_eq,hX.out]
   simp only[List.length_append]at htot;have HB1:Hid (XX.size+sm.length+d.print.length<=2000000):=hidE (by omega);have HST:=hidE hst;have HSM:=hidE hsm;have ii0:(0:Int)<=(i:Int):=by omega
   have ii1:(i:Int)<(m:Int):=by omega
   obtain⟨Wx,hWx⟩:∃y,wq.alloc (.cells cs.toArray 81)=y:=⟨_,rfl⟩;have hbx:Below wq.heap.size wq Wx:=hWx▸(Below.refl _ wq).alloc (Nat.le_refl _) _;have hsx:Wx.heap.size=wq.heap.size+1:=by rw[<-hWx];simp
   have HBX:Hid (Blk Wx wq.heap.size 81 cs.toArray):=hidE (hWx▸heap_alloc_new wq _);have HBW:=hidE (hB.out.trans (hbx.mono hsq));have HBD:=hidE hbx;have hcs2:DeCs S w d cs:=hcs;clear hd hSg hrow hkS hlen1 hone hbx hmem hst htot hsm hXl hcs;go_upto_region 6 with(first|((with_reducible refine wpList_load_mid ?_ 81 (.tmp 16) ?_ g (i*17) ?_ cs _ HROW.out Tryz.underlying81 ?_ HLEN.out ?_);(exact rfl);(exact rfl);(exact rfl);(exact rfl))|((with_reducible refine wpList_store_row ?_ 81 (.tmp 5) (.tmp 17) ?_ wq.heap.size cs.toArray ?_ ?_ 81 #[.int .i64 0,.string ⟨#[]⟩,.slice none 0 0,.slice none 0 0,.int .i64 0,.string ⟨#[]⟩,.int .i64 0,.slice none 0 0,.int .i64 0,.string ⟨#[]⟩,.bool false,.int .i64 0,.string ⟨#[]⟩,.int .i64 0,.slice none 0 0,.slice none 0 0,.slice none 0 0] (heap_alloc_new wq _) HLEN2.out HZ.out HONE.out ?_);(exact rfl);(exact rfl);(exact rfl);(exact rfl);rw[World.setRow_alloc_new]))
   try rw[hWx]
   clear hWx HROW HLEN HLEN2 HZ HONE;have hlx:wq.heap.size<Wx.heap.size:=by omega
   have BZ:Hid (Below Wx.heap.size Wx Wx):=hidE (Below.refl _ _);have B0:Hid (Below Wx.heap.size Wx Wx.drew):=hidE (Below.refl _ _).drew;have HUP:Hid (∀W,Below Wx.heap.size Wx W->Below w.heap.size w W):=hidE λW hW=>HBW.out.trans (hW.mono HBW.out.size);have HKS:Hid (∀W,Below Wx.heap.size Wx W->(∀k,S k->W.heap[k]?=w.heap[k]?)/\∀k,S k->k<W.heap.size):=hidE λW hW=>⟨λk hk=>(HUP.out W hW).block k (HS.out k hk),λk hk=>by have h1:=HS.out k hk;have h2:=(HUP.out W hW).size;omega⟩;cases d with
   |data n ps cl =>
    obtain⟨V,⟨v,hv⟩,CA,ca,rfl,hV,hG⟩:=hcs2;obtain⟨Y,hY⟩:∃Y:ByteArray,⟨n.toArray⟩=Y:=⟨_,rfl⟩;have hYx:Y.data.toList=n:=by rw[<-hY]
    have hYs:Y.size=n.length:=by rw[<-hY];rfl
    obtain⟨vn,hvn⟩:∃k,ps.length=k:=⟨_,rfl⟩;obtain⟨cn,hcn⟩:∃k,cl.length=k:=⟨_,rfl⟩;have hbk:Blk Wx wq.heap.size 81 #[.int .i64 1,.string Y,.slice V vn v,.slice CA cn ca,.int .i64 0,.string ⟨#[]⟩,.int .i64 0,.slice none 0 0,.int .i64 0,.string ⟨#[]⟩,.bool false,.int .i64 0,.string ⟨#[]⟩,.int .i64 0,.slice none 0 0,.slice none 0 0,.slice none 0 0]:=by have:=HBX.out;rw[<-hY,<-hvn,<-hcn];exact this
    have HBK:=hidE hbk;have HVN:=hidE hvn;have HCN:=hidE hcn;have HYX:=hidE hYx;have hdp:(De.data n ps cl).print=[100,97,116,97,32]++n++spaced ps++[32,123]++sepS (cl.map conS)++[125]:=by rw[De.print];simp[wData]
    have htt:=HB1.out;rw[hdp]at htt
    simp only[List.length_append,List.length_cons,List.length_nil]at htt;have HSX:Hid (XX.size+sm.length+5+Y.size+(spaced ps).length+2+(sepS (cl.map conS)).length+1<=2000000):=hidE (by omega);have HVL:Hid (∀k,(spaced (ps.take k)).length<=(spaced ps).length):=hidE (spaced_len ps);have HCLN:Hid (∀k,(sepS ((cl.take k).map conS)).length<=(sepS (cl.map conS)).length):=hidE (sepS_len cl conS);have HNX:Hid (∀X:ByteArray,X.data.toList=sepS ((l.take i).map De.print)++sm++[100,97,116,97,32]++n++spaced ps++[32,123]++sepS (cl.map conS)->(X++⟨#[125]⟩).data.toList=sepS ((l.take (i+1)).map De.print)):=hidE λX hX=>by
     rw[HST.out,hdp]
     simp[hX]
    have HCO:Hid (∀x∈cl,x.2.size<=1000000/\Tx.Nm x.2):=hidE λx hx=>⟨by have:=consW_mem cl x hx;rw[De.wt]at hdw;omega,(hdok.2.2 x hx).2⟩;have HV:=hidE (hV.keep (λ_ h=>h) (HKS.out Wx BZ.out).1);have HG:=hidE hG;have hvn9:vn<=9000:=by rw[De.wt]at hdw;omega
    have hcn9:cn<=9000:=by have:=consW_len cl;rw[De.wt]at hdw;omega
    have hYs2:Y.size<=2000000:=by omega
    obtain⟨⟨f0,f1,f2,f3,f4,f5,f6,f7,f8,f9,f10,f11,f12,f13,f14,f15,f16⟩,-,-⟩:=blk_facts17 hbk;clear hY hYx hYs hbk hvn hcn hdp htt hdok hdw HBX HB1 HST HOK hV hG;by_cases h0:i=0
    case' pos =>
     have HPX:Hid (XX.data.toList=sepS ((l.take i).map De.print)++sm):=hidE (by rw[hX.out,<-HSM.out,if_pos h0,List.append_nil]);have d0:¬(0:Int)<(i:Int):=by omega
     have d1:¬0<i:=by omega
     have HL9:Hid ((XX++⟨#[100,97,116,97,32]⟩++Y:ByteArray).data.toList=sepS ((l.take i).map De.print)++sm++[100,97,116,97,32]++n):=hidE (by rw[ByteArray.data_append,Array.toList_append,HYX.out,ByteArray.data_append,Array.toList_append,HPX.out]);have HS9:Hid ((XX++⟨#[100,97,116,97,32]⟩++Y:ByteArray).size=XX.size+sm.length+5+Y.size):=hidE (by
      have h1:=congrArg List.length HPX.out;have h2:=congrArg List.length hX.out;simp only[<-Lib.size_eq,List.length_append]at h1 h2;rw[ByteArray.size_append,ByteArray.size_append]
      show(XX:ByteArray).size+5+_=_;omega)
     obtain⟨X9,hX9⟩:∃Z:ByteArray,XX++⟨#[100,97,116,97,32]⟩++Y=Z:=⟨_,rfl⟩;rw[hX9]at HL9 HS9
     have HX9:=hidE hX9;clear h0 hX9 HPX;go_wp2_with fail
     rw[HX9.out]
     clear HX9 d0 d1
    case' neg =>
     have HPX:Hid ((XX++⟨#[59,32]⟩:ByteArray).data.toList=sepS ((l.take i).map De.print)++sm):=hidE (by rw[<-HSM.out,if_neg h0];simp[sSem,hX.out]);have d0:(0:Int)<(i:Int):=by omega
     have d1:0<i:=by omega
     have HL9:Hid ((XX++⟨#[59,32]⟩++⟨#[100,97,116,97,32]⟩++Y:ByteArray).data.toList=sepS ((l.take i).map De.print)++sm++[100,97,116,97,32]++n):=hidE (by rw[ByteArray.data_append,Array.toList_append,HYX.out,ByteArray.data_append,Array.toList_append,HPX.out]);have HS9:Hid ((XX++⟨#[59,32]⟩++⟨#[100,97,116,97,32]⟩++Y:ByteArray).size=XX.size+sm.length+5+Y.size):=hidE (by
      have h1:=congrArg List.length HPX.out;have h2:=congrArg List.length hX.out;simp only[<-Lib.size_eq,List.length_append]at h1 h2;rw[ByteArray.size_append,ByteArray.size_append]
      show(XX++⟨#[59,32]⟩:ByteArray).size+5+_=_;omega)
     obtain⟨X9,hX9⟩:∃Z:ByteArray,XX++⟨#[59,32]⟩++⟨#[100,97,116,97,32]⟩++Y=Z:=⟨_,rfl⟩;rw[hX9]at HL9 HS9
     have HX9:=hidE hX9;clear h0 hX9 HPX;go_wp2_with fail
     rw[HX9.out]
     clear HX9 d0 d1
    all_goals
     go_loopg [3,6] vn (λgg vs' vk wx=>∃(k:Nat) (XK:ByteArray),gg=vn-k/\vs'=.string XK/\vk=.int .i64 (k:Nat)/\k<=vn/\XK.size<=2000000/\Wx=wx/\Hid (XK.data.toList=X9.data.toList++spaced (ps.take k)))
     case atStart=>exact⟨0,X9,rfl,rfl,rfl,by omega,by have:=HS9.out;have:=HSX.out;omega,rfl,hidE (by simp[spaced])⟩
     case round =>
      obtain⟨k,XK,rfl,rfl,rfl,hk,hKs,rfl,hKL⟩:=hrel;by_cases hlk:k<vn
      ·obtain⟨x,hx⟩:∃x,ps[k]?=some x:=⟨_,List.getElem?_eq_getElem (by rw[HVN.out];exact hlk)⟩
       obtain⟨gv,rfl,hgv,y0⟩:=nms_rowU HV.out hx;have hgvl:=lt_cell y0;have kk0:(0:Int)<=(k:Int):=by omega
       have kk1:(k:Int)<(vn:Int):=by omega
       obtain⟨N,hN⟩:∃N:ByteArray,⟨x.toArray⟩=N:=⟨_,rfl⟩;rw[hN]at y0
       have hsk:spaced (ps.take (k+1))=spaced (ps.take k)++(32::x):=by rw[spaced_take ps k x hx];simp
       have hlb:=HVL.out (k+1);rw[hsk]at hlb
       have HKL2:Hid ((XK++⟨#[32]⟩++N:ByteArray).data.toList=X9.data.toList++spaced (ps.take (k+1))):=hidE (by rw[hsk,<-hN];simp[hKL.out]);have HKS2:Hid ((XK++⟨#[32]⟩++N:ByteArray).size<=2000000):=hidE (by rw[Lib.size_eq,HKL2.out,hsk];have h1:=HS9.out;have h2:=HSX.out;simp only[List.length_append,List.length_cons,<-Lib.size_eq]at hlb ⊢;omega);have hNs:N.size<=2000000:=by rw[<-hN];show x.length<=_;simp only[List.length_append,List.length_cons]at hlb;have h2:=HSX.out;omega
       clear hx hN hsk hlb hgv;go_wp2_with fail
       go_roundg (vn-(k+1))
       case measure=>omega
       case rel=>exact⟨k+1,_,rfl,rfl,by go_num,by omega,HKS2.out,rfl,HKL2⟩
      ·have hkv:k=vn:=by omega
       subst hkv;have HLB:Hid ((XK++⟨#[32,123]⟩:ByteArray).data.toList=sepS ((l.take i).map De.print)++sm++[100,97,116,97,32]++n++spaced ps++[32,123]):=hidE (by
        have h1:=hKL.out;rw[List.take_of_length_le (by rw[HVN.out];exact Nat.le_refl _),HL9.out]at h1
        rw[ByteArray.data_append,Array.toList_append,h1])
       have HSB:Hid ((XK++⟨#[32,123]⟩:ByteArray).size=XX.size+sm.length+5+Y.size+(spaced ps).length+2):=hidE (by
        have h1:=congrArg List.length hKL.out;rw[List.take_of_length_le (by rw[HVN.out];exact Nat.le_refl _)]at h1
        simp only[<-Lib.size_eq,List.length_append]at h1;rw[ByteArray.size_append,h1,HS9.out]
        rfl)
       obtain⟨XB,hXB⟩:∃Z:ByteArray,XK++⟨#[32,123]⟩=Z:=⟨_,rfl⟩;rw[hXB]at HLB HSB
       have HXB:=hidE hXB;clear hXB hKL;go_wp2_with fail
       rw[HXB.out]
       clear HXB;go_loopg [3,7] cn (λgg vs' vk wx=>∃(j:Nat) (XK:ByteArray),gg=cn-j/\vs'=.string XK/\vk=.int .i64 (j:Nat)/\j<=cn/\XK.size<=2000000/\Hid (XK.data.toList=XB.data.toList++sepS ((cl.take j).map conS))/\Hid (Below Wx.heap.size Wx wx))
       case atStart=>exact⟨0,XB,rfl,rfl,rfl,by omega,by have:=HSB.out;have:=HSX.out;omega,hidE (by simp[sepS]),BZ⟩
       case round =>
        clear f0 f1 f2 f3 f4 f5 f6 f7 f8 f9 f10 f11 f12 f13 f14 f15 f16;obtain⟨j,XJ,rfl,rfl,rfl,hj,hJs,hJL,hBJ⟩:=hrel;obtain⟨wz,hwz⟩:∃y,y=wr:=⟨_,rfl⟩;subst hwz;have hsz:=hBJ.out.size;obtain⟨⟨f0,f1,f2,f3,f4,f5,f6,f7,f8,f9,f10,f11,f12,f13,f14,f15,f16⟩,-,hltz⟩:=blk_facts17 (HBK.out.below hBJ.out hlx);by_cases hlj:j<cn
        ·obtain⟨x,hx⟩:∃x,cl[j]?=some x:=⟨_,List.getElem?_eq_getElem (by rw[HCN.out];exact hlj)⟩
         obtain⟨gc,cs2,rfl,hSc,hcs3,hrow2⟩:=HG.out.row j x hx;obtain⟨TA,ta,rfl,hTA⟩:=hcs3;have hgcw:=HS.out gc hSc;have hxm:=HCO.out x (List.mem_of_getElem? hx);have hsk:=sepS_take cl conS j x hx;have hlb:=HCLN.out (j+1);rw[hsk]at hlb
         obtain⟨cx,t⟩:=x;obtain⟨N,hN⟩:∃N:ByteArray,⟨cx.toArray⟩=N:=⟨_,rfl⟩;obtain⟨PT,hPT⟩:∃P:ByteArray,⟨t.print.toArray⟩=P:=⟨_,rfl⟩;have hNs:N.size=cx.length:=by rw[<-hN];rfl
         have hPs:PT.size=t.print.length:=by rw[<-hPT];rfl
         have hJl:=congrArg List.length hJL.out;simp only[<-Lib.size_eq,List.length_append]at hJl;obtain⟨s2,hs2⟩:∃z:List UInt8,(if j=0 then[] else sSem)=z:=⟨_,rfl⟩;rw[hs2]at hsk hlb
         simp only[conS,sCol,List.length_append,List.length_cons,List.length_nil]at hlb;have hbig:XJ.size+s2.length+N.size+3+PT.size<=2000000:=by have h1:=HSB.out;have h2:=HSX.out;omega
         have HKEEP:Hid (∀W,Below wz.heap.size wz W->Below Wx.heap.size Wx W):=hidE λW hW=>hBJ.out.trans (hW.mono hsz);have CT:Hid (∀W,Below wz.heap.size wz W->Calls Tryz.prog 39 #[.agg #[.int .i64 (kd t:Nat),.string (nmB t),.int .i64 (nn t:Nat),.slice TA (kids t).length ta]] W λen w'=>en=.returned (.string PT)/\Below W.heap.size W w'):=hidE λW hW=>by
          have h:=ref2_print t S _ W hxm.1 hxm.2 (by omega) ⟨TA,ta,rfl,Args.keep (λ_ h=>h) (HKS.out W (HKEEP.out W hW)).1 _ _ hTA⟩ (HKS.out W (HKEEP.out W hW)).2;rw[hPT]at h
          exact h
         have SOF:Hid (∀W,Below wz.heap.size wz W->W.cell? ⟨wq.heap.size,3,none⟩=some (.slice (some ⟨gc,0,none⟩) cn ca)/\W.cell? ⟨gc,j*5,none⟩=some (.string N)/\W.cell? ⟨gc,j*5+1,none⟩=some (.int .i64 (kd t:Nat))/\W.cell? ⟨gc,j*5+2,none⟩=some (.string (nmB t))/\W.cell? ⟨gc,j*5+3,none⟩=some (.int .i64 (nn t:Nat))/\W.cell? ⟨gc,j*5+4,none⟩=some (.slice TA (kids t).length ta)):=hidE λW hW=>by
          have hb:=HBK.out.below (HKEEP.out W hW) hlx;have hli:=Lie.keep hrow2 ((HKS.out W (HKEEP.out W hW)).1 gc hSc);exact⟨hb.cell 3,by have:=hli 0 _ rfl;rw[<-hN];exact this,hli 1 _ rfl,hli 2 _ rfl,hli 3 _ rfl,hli 4 _ rfl⟩
         have HNJ:Hid (∀X:ByteArray,X.data.toList=XB.data.toList++sepS ((cl.take j).map conS)++s2->(X++N++⟨#[32,58,32]⟩++PT).data.toList=XB.data.toList++sepS ((cl.take (j+1)).map conS)):=hidE λX hX=>by
          rw[hsk,<-hN,<-hPT]
          simp[hX,conS,sCol]
         have HS2:=hidE hs2;have Bz0:Hid (Below wz.heap.size wz wz.drew):=hidE (Below.refl _ _).drew;have kk0:(0:Int)<=(j:Int):=by omega
         have kk1:(j:Int)<(cn:Int):=by omega
         obtain⟨z3,y0,y1,y2,y3,y4⟩:=SOF.out wz (Below.refl _ _);have hgcl:=lt_cell y0;have hNs2:N.size<=2000000:=by omega
         have hPs2:PT.size<=2000000:=by omega
         have HBG:=hidE hbig;clear hx hSc hrow2 hTA hxm hsk hlb hN hPT hNs hPs hJl hs2 hbig hgcw z3;by_cases h0:j=0
         ·have HQX:Hid (XJ.data.toList=XB.data.toList++sepS ((cl.take j).map conS)++s2):=hidE (by rw[hJL.out,<-HS2.out,if_pos h0,List.append_nil])
          have HQS:Hid (XJ.size=XJ.size+s2.length):=hidE (by rw[<-HS2.out,if_pos h0];rfl);have e0:¬(0:Int)<(j:Int):=by omega
          have e1:¬0<j:=by omega
          clear h0;have HJS:Hid ((XJ++N++⟨#[32,58,32]⟩++PT:ByteArray).size<=2000000):=hidE (by simp only[ByteArray.size_append];rw[HQS.out];exact HBG.out);have HJV:=hidE (HNJ.out _ HQX.out);have hxj:XJ.size<=2000000:=by have h1:=HQS.out;have h2:=HBG.out;omega
          have o1:¬9223372036854775807<XJ.size+N.size:=by omega
          have o2:¬9223372036854775807<XJ.size+N.size+3:=by omega
          have o3:¬9223372036854775807<XJ.size+N.size+3+PT.size:=by omega
          go_upto_region 20 with fail
          go_region_held3 (λw'=>w'.cell? ⟨wq.heap.size,3,none⟩=some (.slice (some ⟨gc,0,none⟩) cn ca)/\w'.cell? ⟨gc,j*5,none⟩=some (.string N)/\w'.cell? ⟨gc,j*5+1,none⟩=some (.int .i64 (kd t:Nat))/\w'.cell? ⟨gc,j*5+2,none⟩=some (.string (nmB t))/\w'.cell? ⟨gc,j*5+3,none⟩=some (.int .i64 (nn t:Nat))/\w'.cell? ⟨gc,j*5+4,none⟩=some (.slice TA (kids t).length ta)) (first|exact SOF.out _ Bz1.out|exact SOF.out _ Bz0.out) (first|((with_reducible refine(CT.out _ (by first|exact Bz1.out|exact Bz0.out)).mono ?_);rintro e w1 ⟨rfl,b1⟩;have Bz1:=hidE (bnext Bz0.out b1 (by first|omega|simp));clear b1))
          all_goals
           go_wp2_with fail
           go_roundg (cn-(j+1))
           case measure=>omega
           case rel=>exact⟨j+1,_,rfl,rfl,by go_num,by omega,HJS.out,HJV,hidE (HKEEP.out _ Bz1.out)⟩
         ·have HQX:Hid ((XJ++⟨#[59,32]⟩:ByteArray).data.toList=XB.data.toList++sepS ((cl.take j).map conS)++s2):=hidE (by rw[<-HS2.out,if_neg h0];simp[sSem,hJL.out])
          have HQS:Hid ((XJ++⟨#[59,32]⟩:ByteArray).size=XJ.size+s2.length):=hidE (by rw[<-HS2.out,if_neg h0,ByteArray.size_append];rfl);obtain⟨XQ,hXQ⟩:∃Z:ByteArray,XJ++⟨#[59,32]⟩=Z:=⟨_,rfl⟩;rw[hXQ]at HQX HQS
          have HXQ:=hidE hXQ;have e0:(0:Int)<(j:Int):=by omega
          have e1:0<j:=by omega
          clear h0 hXQ;have HJS:Hid ((XQ++N++⟨#[32,58,32]⟩++PT:ByteArray).size<=2000000):=hidE (by simp only[ByteArray.size_append];rw[HQS.out];exact HBG.out);have HJV:=hidE (HNJ.out _ HQX.out);have hxj:XQ.size<=2000000:=by have h1:=HQS.out;have h2:=HBG.out;omega
          have o1:¬9223372036854775807<XQ.size+N.size:=by omega
          have o2:¬9223372036854775807<XQ.size+N.size+3:=by omega
          have o3:¬9223372036854775807<XQ.size+N.size+3+PT.size:=by omega
          go_upto_region 20 with fail
          rw[HXQ.out]
          clear HXQ;go_region_held3 (λw'=>w'.cell? ⟨wq.heap.size,3,none⟩=some (.slice (some ⟨gc,0,none⟩) cn ca)/\w'.cell? ⟨gc,j*5,none⟩=some (.string N)/\w'.cell? ⟨gc,j*5+1,none⟩=some (.int .i64 (kd t:Nat))/\w'.cell? ⟨gc,j*5+2,none⟩=some (.string (nmB t))/\w'.cell? ⟨gc,j*5+3,none⟩=some (.int .i64 (nn t:Nat))/\w'.cell? ⟨gc,j*5+4,none⟩=some (.slice TA (kids t).length ta)) (first|exact SOF.out _ Bz1.out|exact SOF.out _ Bz0.out) (first|((with_reducible refine(CT.out _ (by first|exact Bz1.out|exact Bz0.out)).mono ?_);rintro e w1 ⟨rfl,b1⟩;have Bz1:=hidE (bnext Bz0.out b1 (by first|omega|simp));clear b1))
          all_goals
           go_wp2_with fail
           go_roundg (cn-(j+1))
           case measure=>omega
           case rel=>exact⟨j+1,_,rfl,rfl,by go_num,by omega,HJS.out,HJV,hidE (HKEEP.out _ Bz1.out)⟩
        ·have hjc:j=cn:=by omega
         subst hjc;have HZ1:Hid ((XJ++⟨#[125]⟩:ByteArray).data.toList=sepS ((l.take (i+1)).map De.print)):=hidE (HNX.out XJ (by
          have h1:=hJL.out;rw[List.take_of_length_le (by rw[HCN.out];exact Nat.le_refl _),HLB.out]at h1
          exact h1))
         have HZ2:Hid ((XJ++⟨#[125]⟩:ByteArray).size<=2000000):=hidE (by rw[Lib.size_eq,HZ1.out];exact HTOT.out _);go_wp2_with fail
         go_roundg (m-(i+1))
         case measure=>omega
         case rel=>exact⟨i+1,_,rfl,rfl,by go_num,by omega,HZ2.out,HZ1,hidE (HUP.out _ hBJ.out)⟩
   |sig x t =>
    obtain⟨TA,ta,rfl,hTA⟩:=hcs2;obtain⟨Y,hY⟩:∃Y:ByteArray,⟨x.toArray⟩=Y:=⟨_,rfl⟩;have hYx:Y.data.toList=x:=by rw[<-hY]
    have hYs:Y.size=x.length:=by rw[<-hY];rfl
    have hbk:Blk Wx wq.heap.size 81 #[.int .i64 2,.string Y,.slice none 0 0,.slice none 0 0,.int .i64 (kd t:Nat),.string (nmB t),.int .i64 (nn t:Nat),.slice TA (kids t).length ta,.int .i64 0,.string ⟨#[]⟩,.bool false,.int .i64 0,.string ⟨#[]⟩,.int .i64 0,.slice none 0 0,.slice none 0 0,.slice none 0 0]:=by have:=HBX.out;rw[<-hY];exact this
    obtain⟨PT,hPT⟩:∃P:ByteArray,⟨(t).print.toArray⟩=P:=⟨_,rfl⟩;have hPs:PT.size=(t).print.length:=by rw[<-hPT];rfl
    have hPx:PT.data.toList=(t).print:=by rw[<-hPT]
    have CT:Hid (∀W,Below Wx.heap.size Wx W->Calls Tryz.prog 39 #[.agg #[.int .i64 (kd t:Nat),.string (nmB t),.int .i64 (nn t:Nat),.slice TA (kids t).length ta]] W λen w'=>en=.returned (.string PT)/\Below W.heap.size W w'):=hidE λW hW=>by
     have h:=ref2_print t S _ W (by rw[De.wt]at hdw;omega) hdok.2 (by have:=HB1.out;rw[De.print]at this;simp only[List.length_append]at this;omega) ⟨TA,ta,rfl,Args.keep (λ_ h=>h) (HKS.out W hW).1 _ _ hTA⟩ (HKS.out W hW).2;rw[hPT]at h
     exact h
    have SOF:Hid (∀W,Below Wx.heap.size Wx W->W.cell? ⟨wq.heap.size,1,none⟩=some (.string Y)/\W.cell? ⟨wq.heap.size,4,none⟩=some (.int .i64 (kd t:Nat))/\W.cell? ⟨wq.heap.size,5,none⟩=some (.string (nmB t))/\W.cell? ⟨wq.heap.size,6,none⟩=some (.int .i64 (nn t:Nat))/\W.cell? ⟨wq.heap.size,7,none⟩=some (.slice TA (kids t).length ta)):=hidE λW hW=>by
     have hb:=hbk.below hW hlx;exact⟨hb.cell 1,hb.cell 4,hb.cell 5,hb.cell 6,hb.cell 7⟩
    have hdp:(De.sig x t).print=x++[32,58,32]++(t).print:=by rw[De.print];rfl
    have htt:=HB1.out;rw[hdp]at htt
    simp only[List.length_append,List.length_cons,List.length_nil]at htt;have hYs2:Y.size<=2000000:=by omega
    have hPs2:PT.size<=2000000:=by omega
    have HNX:Hid (∀X:ByteArray,X.data.toList=sepS ((l.take i).map De.print)++sm->(X++Y++⟨#[32,58,32]⟩++PT).data.toList=sepS ((l.take (i+1)).map De.print)):=hidE λX hX=>by
     rw[HST.out,hdp]
     simp[hX,hYx,hPx]
    have HSX:Hid (XX.size+sm.length+Y.size+3+PT.size<=2000000):=hidE (by omega);obtain⟨⟨f0,f1,f2,f3,f4,f5,f6,f7,f8,f9,f10,f11,f12,f13,f14,f15,f16⟩,-,-⟩:=blk_facts17 hbk;clear hY hYx hYs hbk hPT hPs hPx hdp htt hdok hdw HBX HB1 HST HOK hTA;by_cases h0:i=0
    case' pos =>
     obtain⟨XP,hXP⟩:∃Z:ByteArray,XX=Z:=⟨_,rfl⟩;have HPX:Hid (XP.data.toList=sepS ((l.take i).map De.print)++sm):=hidE (by rw[<-hXP,hX.out,<-HSM.out,if_pos h0,List.append_nil]);have HPS:Hid (XP.size=XX.size+sm.length):=hidE (by rw[<-hXP,<-HSM.out,if_pos h0];rfl);have HXP:=hidE hXP;have d0:¬(0:Int)<(i:Int):=by omega
     have d1:¬0<i:=by omega
     clear h0 hXP;go_upto_region 23 with fail
     rw[HXP.out]
     clear HXP
    case' neg =>
     obtain⟨XP,hXP⟩:∃Z:ByteArray,XX++⟨#[59,32]⟩=Z:=⟨_,rfl⟩;have HPX:Hid (XP.data.toList=sepS ((l.take i).map De.print)++sm):=hidE (by rw[<-hXP,<-HSM.out,if_neg h0];simp[sSem,hX.out]);have HPS:Hid (XP.size=XX.size+sm.length):=hidE (by rw[<-hXP,<-HSM.out,if_neg h0,ByteArray.size_append];rfl);have HXP:=hidE hXP;have d0:(0:Int)<(i:Int):=by omega
     have d1:0<i:=by omega
     clear h0 hXP;go_upto_region 23 with fail
     rw[HXP.out]
     clear HXP
    all_goals
     have HXS:Hid ((XP++Y++⟨#[32,58,32]⟩++PT:ByteArray).size<=2000000):=hidE (by simp only[ByteArray.size_append];rw[HPS.out];exact HSX.out);have HXV:=hidE (HNX.out _ HPX.out);have hxp:XP.size<=2000000:=by have h1:=HPS.out;have h2:=HSX.out;omega
     have o1:¬9223372036854775807<XP.size+Y.size:=by omega
     have o2:¬9223372036854775807<XP.size+Y.size+3:=by omega
     have o3:¬9223372036854775807<XP.size+Y.size+3+PT.size:=by omega
     go_region_held3 (λw'=>w'.cell? ⟨wq.heap.size,1,none⟩=some (.string Y)/\w'.cell? ⟨wq.heap.size,4,none⟩=some (.int .i64 (kd t:Nat))/\w'.cell? ⟨wq.heap.size,5,none⟩=some (.string (nmB t))/\w'.cell? ⟨wq.heap.size,6,none⟩=some (.int .i64 (nn t:Nat))/\w'.cell? ⟨wq.heap.size,7,none⟩=some (.slice TA (kids t).length ta)) (first|exact SOF.out _ B1.out|exact SOF.out _ B0.out) (first|((with_reducible refine(CT.out _ (by first|exact B1.out|exact B0.out)).mono ?_);rintro e w1 ⟨rfl,b1⟩;have B1:=hidE (bnext B0.out b1 (by first|omega|simp));clear b1))
     all_goals
      go_wp2_with fail
      go_roundg (m-(i+1))
      case measure=>omega
      case rel=>exact⟨i+1,_,rfl,rfl,by go_num,by omega,HXS.out,HXV,hidE (HUP.out _ B1.out)⟩
   |bind x e =>
    obtain⟨P,rfl,hT1,hT2⟩:=hcs2;obtain⟨k1,x1,t1,K1,X1,Z1,D1,m1,q1,KA1,kn1,kc1,LA1,ln1,lc1,hs⟩:=exC_shp e P;rw[hs]at HBX
    have hrd:RdX S w e (.agg #[.int .i64 k1,.string x1,.bool t1,.int .i64 K1,.string X1,.int .i64 Z1,.slice D1 m1 q1,.slice KA1 kn1 kc1,.slice LA1 ln1 lc1]):=⟨P,by rw[hs],hT1,hT2⟩;obtain⟨Y,hY⟩:∃Y:ByteArray,⟨x.toArray⟩=Y:=⟨_,rfl⟩;have hYx:Y.data.toList=x:=by rw[<-hY]
    have hYs:Y.size=x.length:=by rw[<-hY];rfl
    have hbk:Blk Wx wq.heap.size 81 #[.int .i64 3,.string Y,.slice none 0 0,.slice none 0 0,.int .i64 0,.string ⟨#[]⟩,.int .i64 0,.slice none 0 0,.int .i64 k1,.string x1,.bool t1,.int .i64 K1,.string X1,.int .i64 Z1,.slice D1 m1 q1,.slice KA1 kn1 kc1,.slice LA1 ln1 lc1]:=by have:=HBX.out;rw[<-hY];exact this
    obtain⟨PT,hPT⟩:∃P:ByteArray,⟨(e).print.toArray⟩=P:=⟨_,rfl⟩;have hPs:PT.size=(e).print.length:=by rw[<-hPT];rfl
    have hPx:PT.data.toList=(e).print:=by rw[<-hPT]
    have CT:Hid (∀W,Below Wx.heap.size Wx W->Calls Tryz.prog 17 #[.agg #[.int .i64 k1,.string x1,.bool t1,.int .i64 K1,.string X1,.int .i64 Z1,.slice D1 m1 q1,.slice KA1 kn1 kc1,.slice LA1 ln1 lc1]] W λen w'=>en=.returned (.string PT)/\Below W.heap.size W w'):=hidE λW hW=>by
     have h:=d8_printE e S _ W hdok.2 (by rw[De.wt]at hdw;omega) (hrd.keep (λ_ h=>h) (HKS.out W hW).1) (HKS.out W hW).2;rw[hPT]at h
     exact h
    have SOF:Hid (∀W,Below Wx.heap.size Wx W->W.cell? ⟨wq.heap.size,1,none⟩=some (.string Y)/\W.cell? ⟨wq.heap.size,8,none⟩=some (.int .i64 k1)/\W.cell? ⟨wq.heap.size,9,none⟩=some (.string x1)/\W.cell? ⟨wq.heap.size,10,none⟩=some (.bool t1)/\W.cell? ⟨wq.heap.size,11,none⟩=some (.int .i64 K1)/\W.cell? ⟨wq.heap.size,12,none⟩=some (.string X1)/\W.cell? ⟨wq.heap.size,13,none⟩=some (.int .i64 Z1)/\W.cell? ⟨wq.heap.size,14,none⟩=some (.slice D1 m1 q1)/\W.cell? ⟨wq.heap.size,15,none⟩=some (.slice KA1 kn1 kc1)/\W.cell? ⟨wq.heap.size,16,none⟩=some (.slice LA1 ln1 lc1)):=hidE λW hW=>by
     have hb:=hbk.below hW hlx;exact⟨hb.cell 1,hb.cell 8,hb.cell 9,hb.cell 10,hb.cell 11,hb.cell 12,hb.cell 13,hb.cell 14,hb.cell 15,hb.cell 16⟩
    have hdp:(De.bind x e).print=x++[32,61,32]++(e).print:=by rw[De.print];rfl
    have htt:=HB1.out;rw[hdp]at htt
    simp only[List.length_append,List.length_cons,List.length_nil]at htt;have hYs2:Y.size<=2000000:=by omega
    have hPs2:PT.size<=2000000:=by omega
    have HNX:Hid (∀X:ByteArray,X.data.toList=sepS ((l.take i).map De.print)++sm->(X++Y++⟨#[32,61,32]⟩++PT).data.toList=sepS ((l.take (i+1)).map De.print)):=hidE λX hX=>by
     rw[HST.out,hdp]
     simp[hX,hYx,hPx]
    have HSX:Hid (XX.size+sm.length+Y.size+3+PT.size<=2000000):=hidE (by omega);obtain⟨⟨f0,f1,f2,f3,f4,f5,f6,f7,f8,f9,f10,f11,f12,f13,f14,f15,f16⟩,-,-⟩:=blk_facts17 hbk;clear hY hYx hYs hbk hPT hPs hPx hdp htt hdok hdw HBX HB1 HST HOK hT1 hT2 hs hrd;by_cases h0:i=0
    case' pos =>
     obtain⟨XP,hXP⟩:∃Z:ByteArray,XX=Z:=⟨_,rfl⟩;have HPX:Hid (XP.data.toList=sepS ((l.take i).map De.print)++sm):=hidE (by rw[<-hXP,hX.out,<-HSM.out,if_pos h0,List.append_nil]);have HPS:Hid (XP.size=XX.size+sm.length):=hidE (by rw[<-hXP,<-HSM.out,if_pos h0];rfl);have HXP:=hidE hXP;have d0:¬(0:Int)<(i:Int):=by omega
     have d1:¬0<i:=by omega
     clear h0 hXP;go_upto_region 25 with fail
     rw[HXP.out]
     clear HXP
    case' neg =>
     obtain⟨XP,hXP⟩:∃Z:ByteArray,XX++⟨#[59,32]⟩=Z:=⟨_,rfl⟩;have HPX:Hid (XP.data.toList=sepS ((l.take i).map De.print)++sm):=hidE (by rw[<-hXP,<-HSM.out,if_neg h0];simp[sSem,hX.out]);have HPS:Hid (XP.size=XX.size+sm.length):=hidE (by rw[<-hXP,<-HSM.out,if_neg h0,ByteArray.size_append];rfl);have HXP:=hidE hXP;have d0:(0:Int)<(i:Int):=by omega
     have d1:0<i:=by omega
     clear h0 hXP;go_upto_region 25 with fail
     rw[HXP.out]
     clear HXP
    all_goals
     have HXS:Hid ((XP++Y++⟨#[32,61,32]⟩++PT:ByteArray).size<=2000000):=hidE (by simp only[ByteArray.size_append];rw[HPS.out];exact HSX.out);have HXV:=hidE (HNX.out _ HPX.out);have hxp:XP.size<=2000000:=by have h1:=HPS.out;have h2:=HSX.out;omega
     have o1:¬9223372036854775807<XP.size+Y.size:=by omega
     have o2:¬9223372036854775807<XP.size+Y.size+3:=by omega
     have o3:¬9223372036854775807<XP.size+Y.size+3+PT.size:=by omega
     go_region_held3 (λw'=>w'.cell? ⟨wq.heap.size,1,none⟩=some (.string Y)/\w'.cell? ⟨wq.heap.size,8,none⟩=some (.int .i64 k1)/\w'.cell? ⟨wq.heap.size,9,none⟩=some (.string x1)/\w'.cell? ⟨wq.heap.size,10,none⟩=some (.bool t1)/\w'.cell? ⟨wq.heap.size,11,none⟩=some (.int .i64 K1)/\w'.cell? ⟨wq.heap.size,12,none⟩=some (.string X1)/\w'.cell? ⟨wq.heap.size,13,none⟩=some (.int .i64 Z1)/\w'.cell? ⟨wq.heap.size,14,none⟩=some (.slice D1 m1 q1)/\w'.cell? ⟨wq.heap.size,15,none⟩=some (.slice KA1 kn1 kc1)/\w'.cell? ⟨wq.heap.size,16,none⟩=some (.slice LA1 ln1 lc1)) (first|exact SOF.out _ B1.out|exact SOF.out _ B0.out) (first|((with_reducible refine(CT.out _ (by first|exact B1.out|exact B0.out)).mono ?_);rintro e w1 ⟨rfl,b1⟩;have B1:=hidE (bnext B0.out b1 (by first|omega|simp));clear b1))
     all_goals
      go_wp2_with fail
      go_roundg (m-(i+1))
      case measure=>omega
      case rel=>exact⟨i+1,_,rfl,rfl,by go_num,by omega,HXS.out,HXV,hidE (HUP.out _ B1.out)⟩
  ·have him:i=m:=by omega
   subst him;have HF:=hidE (HEND.out XX (by rw[hX.out,List.take_of_length_le (by rw[HM.out];exact Nat.le_refl _)]));go_wp2_with fail
   go_ret
   exact⟨ret_string HF.out,hB.out⟩
set_option maxRecDepth 100000
theorem wr_String0(b:Nat)(w:World)(h:Blk w b 92 #[.pointer none,.slice none 0 0]):Calls Tryz.prog 38 #[.pointer (some ⟨b,0,none⟩)] w λe w'=>e=.returned (.string ⟨#[]⟩)/\Below w.heap.size w w':=by
 have c1:w.drew.cell? ⟨b,1,none⟩=some (.slice none 0 0):=h.cell 1;have hgl:b<w.heap.size:=h.lt;have hSD:(Builtin.unsafeSliceData_ #[55] 164 #[.slice none 0 0]).run Tryz.prog w.drew=.ok (.pointer none) w.drew:=Lib.run_unsafeSliceData_nil _ _ _ _ _;have hUS:(Builtin.unsafeString_ #[164,3] 9 #[.pointer none,.int .i64 0]).run Tryz.prog w.drew=.ok (.string ⟨#[]⟩) w.drew:=Lib.run_unsafeString_none _ _ _ _ _;have HBG:=hidE (Below.drew (Below.refl w.heap.size w));clear h;have mixed:Tryz.prog.follows Departure.mixedOrders=true:=by kernel_rfl
 go_enter Tryz.func38,Tryz.ntmps38
 go_wp2
 go_region_o
 all_goals
  go_wp2
  go_ret
  exact⟨rfl,HBG.out⟩
theorem wr_Sep0(b:Nat)(A:Option Addr)(c:Nat)(F:Value)(w:World):Calls Tryz.prog 36 #[.pointer (some ⟨b,0,none⟩),.slice A 0 c,F] w λe w'=>e=.returned (.tuple #[])/\w'=w:=by
 go_enter Tryz.func36,Tryz.ntmps36
 go_wp2_with fail
 go_loopg [10] 0 (λgg vi wr=>gg=0/\vi=.int .i64 0/\wr=w)
 case atStart=>exact⟨rfl,rfl,rfl⟩
 case round =>
  obtain⟨rfl,rfl,rfl⟩:=hrel;go_wp2_with fail
  first|go_end0|refine bodyPost_ret (results_none rfl _ _ _) rfl ?_
  exact⟨rfl,rfl⟩
theorem sx_print0(A:Option Addr)(c:Nat)(w:World):Calls Tryz.prog 10 #[.slice A 0 c] w λen w'=>en=.returned (.string ⟨#[]⟩)/\Below w.heap.size w w':=by
 obtain⟨W0,hW0⟩:∃W,w.alloc (.cells #[.pointer none,.slice none 0 0] 92)=W:=⟨_,rfl⟩;have HLW:Hid (Below w.heap.size w W0):=hidE (hW0▸(Below.refl _ w).alloc (Nat.le_refl _) _);have HBK:Hid (Blk W0 w.heap.size 92 #[.pointer none,.slice none 0 0]):=hidE (hW0▸heap_alloc_new _ _);have HSEP:=hidE (λF=>wr_Sep0 w.heap.size A c F W0);go_enter Tryz.func10,Tryz.ntmps10
 go_upto_region 2 with fail
 try rw[hW0]
 clear hW0;go_wp2_with fail
 refine(HSEP.out _).mono ?_;rintro en w2 ⟨rfl,rfl⟩;have HS2:=hidE (wr_String0 w.heap.size w2 HBK.out);clear HSEP;go_wp2_with fail
 refine HS2.out.mono ?_;rintro en w3 ⟨rfl,b3⟩;have H3:=hidE (HLW.out.trans (b3.mono HLW.out.size));clear b3 HS2;go_wp2_with fail
 go_ret
 exact⟨rfl,H3.out⟩
theorem sx_printPA(l:List De)(S:Nat->Prop)(A:Option Addr)(m c:Nat)(w:World)(hl:LstG pcD S w l A)(hm:l.length=m)(hok:∀d∈l,d.Ok)(hwt:desW l<=9000)(hS:∀g,S g->g<w.heap.size)(ht:Tab w):Calls Tryz.prog 10 #[.slice A m c] w λen w'=>en=.returned (.string ⟨(printP l).toArray⟩)/\Below w.heap.size w w':=by
 by_cases hne:l=[]
 ·subst hne
  obtain rfl:0=m:=hm;exact sx_print0 A c w
 ·exact sx_printP l S A m c w hl hm hok hwt hS ht hne
end Go.Proofs.YtknkclefoiohpaaGreatDoor
