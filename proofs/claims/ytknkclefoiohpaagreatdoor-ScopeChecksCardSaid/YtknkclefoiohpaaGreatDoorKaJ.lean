import Derived.Test.YtknkclefoiohpaaGreatDoorKaG
import Derived.Laws.IdiomStrings
import Derived.Deep.RegionWith
import Derived.Deep.RegionHeld3
import Derived.Deep.AppendLies
set_option maxHeartbeats 12800000
namespace Go.Proofs.YtknkclefoiohpaaGreatDoor
open Go.RowKit Lx Tx
set_option maxRecDepth 100000
theorem zd1 {a b:ByteArray}(h:a=b):Ending.returned (.string a)=.returned (.string b):=by rw[h]
theorem zlO(l:List UInt8)(b:UInt8):((⟨l.toArray⟩:ByteArray)++(⟨#[b]⟩:ByteArray))=⟨(l++[b]).toArray⟩:=by
 apply ByteArray.ext
 simp
theorem alloc_at(w:World)(o:Obj)(g:Nat)(hg:g=w.heap.size):(w.alloc o).heap[g]?=some o:=by
 subst hg;exact tW w o
theorem zb4(w:World)(o:Obj)(g:Nat)(x:Obj)(h:w.heap[g]?=some x):(w.alloc o).heap[g]?=some x :=
 (uc w o g (lt_of_block h)).trans h
theorem zcK {w:World} {base b:Nat} {e:TypeId}(h:w.heap[b]?=some (.cells #[] e (0,0)))(hb:base<=b):w.ownsRow base e 1 (.slice (some ⟨b,0,none⟩) 0 0) 0 [] :=
 ⟨rfl,.inr ⟨b,0,#[],rfl,hb,h,tV _,by unfold maxLen;omega,rfl,rfl⟩⟩
theorem znE(l:List (List UInt8)):∀u∈strV l,u.oneCell'=true:=by
 intro u hu;obtain⟨x,_,rfl⟩:=wI.1 hu;rfl
def bnd(t:Ty)(b:List (List UInt8)):List (List UInt8) :=
 match t with
 |.all x _=>b++[x]
 |_=>b
set_option maxRecDepth 100000
theorem zkn(W:World)(x:Int)(b:UInt8)(hx:x=b.toNat):(convert 55 9 (.slice (some ⟨W.heap.size,0,none⟩) 1 1)).run Tryz.prog (W.alloc (.cells #[.int .u8 x] 5))=.ok (.string ⟨#[b]⟩) (W.alloc (.cells #[.int .u8 x] 5)):=by
 subst hx;refine run_convert_bytes_back (W.alloc (.cells #[.int .u8 (b.toNat:Int)] 5)) 55 9 5 ⟨W.heap.size,0,none⟩ 1 [b] Tryz.underlying55 Tryz.underlying5 Tryz.underlying9 ?_;intro j hj;simp at hj;subst hj;rw[show(⟨W.heap.size,0,none⟩:Addr).add 0=⟨W.heap.size,0,none⟩ from rfl,cell_of_row _ _ _ _ 5 (0,0) (tW _ _)]
 rfl
theorem zko(W:World)(g:Nat)(x:Int)(b:UInt8)(hx:x=b.toNat)(hc:W.cell? ⟨g,0,none⟩=some (.int .u8 x)):(convert 55 9 (.slice (some ⟨g,0,none⟩) 1 1)).run Tryz.prog W=.ok (.string ⟨#[b]⟩) W:=by
 subst hx;refine run_convert_bytes_back W 55 9 5 ⟨g,0,none⟩ 1 [b] Tryz.underlying55 Tryz.underlying5 Tryz.underlying9 ?_;intro j hj;simp at hj;subst hj;rw[show(⟨g,0,none⟩:Addr).add 0=⟨g,0,none⟩ from rfl]
 exact hc
theorem zkp(f:Nat):∀(n:Nat)(w:World),n<10 ^ f->n<10 ^ 18->1<=f->f<=20 ->
  Calls Tryz.prog 91 #[.int .i64 n] w λe w'=>e=.returned (.string ⟨(decF f n).toArray⟩)/\Below w.heap.size w w':=by
 induction f with
 |zero=>intro n w _ _ h;omega
 |succ f ih =>
  intro n w hn h18 _ hf20;by_cases gu:n<10
  ·have sk:=λW=>zkn W (48+(n:Int)) (digit n) (by rw[zdr];omega)
   have hd:=wJ (show decF (f+1) n=[digit n] by rw[decF,ud gu]);clear ih hn;go_enter Tryz.func91,Tryz.ntmps91
   go_wp2_with fail
   go_ret
   exact⟨zd1 (by rw[hd.out]),(ua _ _).alloc (tV _) _⟩
  ·obtain⟨m,hm⟩:∃m,n / 10=m:=⟨_,rfl⟩
   obtain⟨d,jC⟩:∃d,n % 10=d:=⟨_,rfl⟩;have hd:=wJ (show decF (f+1) n=decF f m++[digit n] by rw[decF,ue gu,hm]);have hf:1<=f:=by
    rcases Nat.eq_zero_or_pos f with e|e
    ·subst e;simp at hn;omega
    ·exact e
   have sk:=λW g=>zko W g (48+(d:Int)) (digit n) (by rw[zdr,jC];omega);have IH:=λw=>ih m w (by rw[Nat.pow_succ]at hn;omega) (by omega) hf (by omega);have hlen:(decF f m).length<=20:=znJ f 20 m (by omega) (by omega);obtain⟨D,hD⟩:∃D:ByteArray,⟨(decF f m).toArray⟩=D:=⟨_,rfl⟩;have hDz:D.size<=20:=by rw[<-hD];exact hlen
   rw[hD]at IH
   have HD:=wJ hD;have q1:IntKind.i64.wrap ((n:Int) / 10)=(m:Int):=by rw[IntWalk.i64_in _ (by omega)];omega
   have q2:(n:Int).tmod 10=(d:Int):=by rw[Int.tmod_eq_emod_of_nonneg (by omega)];omega
   have q3:IntKind.i64.wrap (48+(d:Int))=48+(d:Int):=IntWalk.i64_in _ (by omega);have q4:IntKind.u8.wrap (48+(d:Int))=48+(d:Int):=by simp[IntKind.wrap,IntKind.signed,IntKind.bits];omega
   have hd9:d<=9:=by omega
   clear ih hn hD hlen hm jC;go_enter Tryz.func91,Tryz.ntmps91
   go_wp2_with fail
   go_region_with (go_at_call 91;(with_reducible refine(IH _).mono ?_);rintro e w1 ⟨rfl,b1⟩;have B1:=wJ b1;(try have hc:w1.cell? ⟨w.heap.size,0,none⟩=some (.int .u8 (48+(d:Int))):=(b1.cell (p:=⟨w.heap.size,0,none⟩) (by simp)).trans (cell_of_row _ _ _ _ _ _ (tW _ _)));clear b1)
   all_goals (go_wp2_with fail;go_ret)
   ·have B:Below w.heap.size w w1:=(ua w.heap.size w).drew.trans B1.out
    exact⟨zd1 (by rw[hd.out,<-HD.out,zlO]),B.alloc B.size _⟩
   all_goals
    have B:Below w.heap.size w w1:=((ua w.heap.size w).alloc (tV _) _).drew.trans (B1.out.mono (by simp));exact⟨zd1 (by rw[hd.out,<-HD.out,zlO]),B⟩
theorem zl5(n:Nat)(w:World)(h:n<10 ^ 18):Calls Tryz.prog 91 #[.int .i64 n] w λe w'=>e=.returned (.string ⟨(dec n).toArray⟩)/\Below w.heap.size w w' :=
 zkp 20 n w (by omega) h (by omega) (by omega)
set_option maxRecDepth 100000
theorem zbE(v:Value)(l:List (List UInt8))(s:ByteArray)(w:World)(h:RowV w v (strV l))(hl:l.length<=1000000):Calls Tryz.prog 67 #[v,.string s] w λe w'=>e=.returned (.bool (decide (s.data.toList∈l)))/\w=w':=by
 obtain⟨A,c,rfl,hp⟩:=h;rw[zaR]at *
 obtain⟨n,hn⟩:∃n,l.length=n:=⟨_,rfl⟩;rw[hn]at hl hp ⊢
 have HP:=wJ hp;obtain⟨R,hR⟩:∃R,decide (s.data.toList∈l)=R:=⟨_,rfl⟩;have HR:=wJ hR;have HN:=wJ hn;rw[hR]
 clear hp hR hn;go_enter Tryz.func67,Tryz.ntmps67
 go_wp2
 go_loopg [5] n (λgg v wr=>∃k:Nat,gg=n-k/\v=.int .i64 k/\wr=w/\k<=n/\Hid (s.data.toList∉l.take k))
 case atStart=>exact⟨0,rfl,rfl,rfl,by omega,wJ (by simp)⟩
 case round =>
  obtain⟨k,rfl,rfl,rfl,hk,hn⟩:=hrel;by_cases ah:k<n
  ·obtain⟨g,rfl,_,hc⟩:=HP.out (by omega)
   have jj:=hc k _ (zja l k (by rw[HN.out];exact ah));clear hc;obtain⟨X,hX⟩:∃X:ByteArray,⟨(l[k]'(by rw[HN.out];exact ah)).toArray⟩=X:=⟨_,rfl⟩;rw[hX]at jj
   have HX:=wJ hX;clear hX;by_cases he:X=s
   ·have hr:=wJ (show R=true by rw[<-HR.out,<-he,<-HX.out];simp)
    have dq:=strT X s he;clear he;go_wp2
    go_ret
    exact⟨zar hr.out.symm,rfl⟩
   ·have hr:=wJ (znA _ l k (by rw[HN.out];exact ah) hn (λe=>he (by rw[<-HX.out,e])))
    have dq:=strF X s he;clear he;go_wp2
    go_roundg (n-(k+1))
    case measure=>omega
    case rel=>exact⟨k+1,rfl,by go_num,rfl,by omega,hr⟩
  ·have hr:=wJ (show R=false by rw[<-HR.out];rw[ur (by rw[HN.out];omega)]at hn;exact ux hn.out)
   go_wp2
   go_ret
   exact⟨zar hr.out.symm,rfl⟩
theorem zcq(v:Value)(ts:List Tok)(i K:Nat)(X:ByteArray)(k:Int)(nw:k=K)(w:World)(h:RdT w v ts):Calls Tryz.prog 85 #[v,.int .i64 i,.int .i64 k,.string X] w λe w'=>e=.returned (.bool (isAt ts i K X.data.toList))/\w=w':=by
 subst nw;obtain⟨R,hR⟩:∃R,isAt ts i K X.data.toList=R:=⟨_,rfl⟩;rw[hR]
 by_cases hi:i<ts.length
 ·obtain⟨g,c,rfl,h0,h1,h2⟩:=h.at_ i hi
  rw[zcS ts i K _ hi]at hR
  obtain⟨T,hT⟩:∃T:ByteArray,⟨ts[i].text.toArray⟩=T:=⟨_,rfl⟩;have oI:ts[i].text=T.data.toList:=by rw[<-hT]
  obtain⟨m,hm⟩:∃m,ts[i].kind=m:=⟨_,rfl⟩;rw[hT]at h1
  rw[hm]at h0 hR
  rw[oI]at hR
  clear h2 hT oI hm h;obtain⟨n,hn⟩:∃n,ts.length=n:=⟨_,rfl⟩;rw[hn]at hi ⊢
  clear hn;by_cases hk:m=K
  ·have dk:=kT m K hk
   by_cases hx:X=⟨#[]⟩
   ·have dx:X.toList.isEmpty=true:=by rw[hx,uK];rfl
    have hr:=wJ (show R=true by rw[<-hR,hx,hk];simp);clear hk hx hR;go_enter Tryz.func85,Tryz.ntmps85
    go_wp2
    go_ret
    exact⟨zar hr.out.symm,rfl⟩
   ·have mx:X.data.toList≠[]:=λe=>hx (ByteArray.ext (by simpa using e))
    have dx:X.toList.isEmpty=false:=by rw[uK];cases hz:X.data.toList with|nil=>exact absurd hz mx|cons a b=>rfl
    by_cases he:T=X
    ·have dt:=strT T X he
     have hr:=wJ (show R=true by rw[<-hR,he,hk];simp);clear hk hx mx he hR;go_enter Tryz.func85,Tryz.ntmps85
     go_wp2
     go_ret
     exact⟨zar hr.out.symm,rfl⟩
    ·have dt:=strF T X he
     have he':¬T.data.toList=X.data.toList:=λe=>he (ByteArray.ext (by simpa using e));have hr:=wJ (show R=false by rw[<-hR,hk,uo.2 mx,uo.2 he'];simp);clear hk hx mx he he' hR;go_enter Tryz.func85,Tryz.ntmps85
     go_wp2
     go_ret
     exact⟨zar hr.out.symm,rfl⟩
  ·have dk:=kF m K hk
   have hr:=wJ (show R=false by rw[<-hR];simp[hk]);clear hk hR;go_enter Tryz.func85,Tryz.ntmps85
   go_wp2
   go_ret
   exact⟨zar hr.out.symm,rfl⟩
 ·rw[zc6 ts i K _ (by omega)]at hR
  obtain⟨A,c,rfl,_⟩:=h;obtain⟨n,hn⟩:∃n,ts.length=n:=⟨_,rfl⟩;rw[hn]at hi ⊢
  clear hn;have hr:=wJ hR;clear hR;go_enter Tryz.func85,Tryz.ntmps85
  go_wp2
  go_ret
  exact⟨zar hr.out,rfl⟩
theorem zh2(s:ByteArray)(w:World)(hd:∀c∈s.data.toList,isDig c=true)(hs:s.size<=6):Calls Tryz.prog 203 #[.string s] w λe w'=>e=.returned (.int .i64 (numOf s.data.toList:Nat))/\w=w':=by
 obtain⟨R,hR⟩:∃R,numOf s.data.toList=R:=⟨_,rfl⟩;have HR:=wJ hR;have HD:=wJ hd;rw[hR]
 clear hR hd;go_enter Tryz.func203,Tryz.ntmps203
 go_wp2
 go_loopg [3,4] s.size (λgg vn v wr=>∃k n:Nat,gg=s.size-k/\vn=.int .i64 n/\v=.int .i64 k/\wr=w/\k<=s.size/\n<1000000/\Hid (numOf (s.data.toList.take k)=n))
 case atStart=>exact⟨0,0,rfl,rfl,rfl,rfl,by omega,by omega,wJ rfl⟩
 case round =>
  obtain⟨k,n,rfl,rfl,rfl,rfl,hk,hn6,hn⟩:=hrel;by_cases ah:k<s.size
  ·have iy:k<s.data.toList.length:=by rw[<-vf];exact ah
   have hdg:isDig s[k]=true:=HD.out _ (by rw[show s[k]=s.data.toList[k] from rfl];exact List.getElem_mem _);have h48:48<=s[k].toNat:=by simp[isDig]at hdg;exact hdg.1
   obtain⟨d,hd⟩:∃d,s[k].toNat-48=d:=⟨_,rfl⟩;have cg:s[k].toNat<256:=s[k].toNat_lt;have q1:IntKind.u8.wrap ((s[k].toNat:Int)-48)=(d:Int):=by simp[IntKind.wrap,IntKind.signed,IntKind.bits];omega
   have hr:Hid (numOf (s.data.toList.take (k+1))=10*n+d):=wJ (by rw[zgw _ k iy,zfF,hn.out,<-hd];rfl);have rQ:10*n+d<1000000:=by
    rw[<-hr.out]
    refine uO (zhZ _ (λc hc=>HD.out c (List.mem_of_mem_take hc))) ?_;rw[vN]
    exact uX (Nat.pow_le_pow_right (by omega) (show min (k+1) s.data.toList.length<=6 by omega)) (by decide)
   have hd8:d<256:=by omega
   clear hdg hd cg;go_wp2
   go_roundg (s.size-(k+1))
   case measure=>omega
   case rel=>exact⟨k+1,10*n+d,rfl,by go_num,by go_num,rfl,by omega,rQ,hr⟩
  ·have hr:=wJ (show n=R by rw[<-HR.out,<-hn.out,ur (by rw[<-vf];omega)])
   go_wp2
   go_ret
   exact⟨zaK (by rw[hr.out]),rfl⟩
set_option maxRecDepth 100000
theorem zdI(n:Nat):∀(t:Ty)(S:Nat->Prop)(v:Value)(w:World),t.size<=n->n<=1000000->RdV S w t v->(∀g,S g->g<w.heap.size) ->
  Calls Tryz.prog 86 #[v] w λe w'=>e=.returned (.int .i64 (t.depth:Nat))/\Below w.heap.size w w':=by
 induction n with
 |zero=>intro t S v w h;rw[zcH]at h;omega
 |succ n ih =>
  intro t S v w hn h5 hv hS;obtain⟨K,X,Z,A,m,c,rfl,-,-,-,hm,ha⟩:=hv.parts;obtain⟨R,hR⟩:∃R,t.depth=R:=⟨_,rfl⟩;have oK:za3 (kids t)+1=R:=by rw[<-zfD];exact hR
  have hm6:m<=n:=by have:=zhV t;omega
  have hR6:R<=n+1:=by have:=zbw t;omega
  have HM:=wJ hm;have HA:=wJ ha;have IH:=wJ ih;have HS:=wJ hS;have HN:=wJ hn;have dA:=wJ oK;rw[hR]
  clear hm hR ha ih hS hn oK hv;go_enter Tryz.func86,Tryz.ntmps86
  go_wp2
  go_loopg [3,4] m (λgg va vi wr=>∃i a:Nat,gg=m-i/\va=.int .i64 a/\vi=.int .i64 i/\i<=m/\Hid (za3 ((kids t).take i)=a)/\Below (w.heap.size+1) (w.alloc (.cells #[.int .i64 K,.string X,.int .i64 Z,.slice A m c] 44)) wr)
  case atStart=>exact⟨0,0,rfl,rfl,rfl,by omega,wJ rfl,ua _ _⟩
  case round =>
   obtain⟨i,a,rfl,rfl,rfl,hi,hd,hb⟩:=hrel;have c3:wr.cell? ⟨w.heap.size,3,none⟩=some (.slice A m c):=(hb.cell (p:=⟨w.heap.size,3,none⟩) (by simp)).trans (cell_of_row _ _ _ _ _ _ (tW _ _));have HB:=wJ hb;clear hb;by_cases ah:i<m
   ·obtain⟨g,u,K1,X1,Z1,A1,n1,c1,rfl,hg,e0,e1,e2,e3,hu,aq,aG⟩:=zgx (w':=wr) HA.out HM.out ah (λg hg=>by rw[HB.out.block g (by have:=HS.out g hg;omega),uc _ _ _ (HS.out g hg)])
    have bC:=IH.out u S _ wr (by have:=HN.out;omega) (by omega) aq (λg hg=>by have:=HB.out.size;have:=HS.out g hg;simp at *;omega);have j8:=wJ (zfE _ _ _ _ hd hu);obtain⟨D,hD⟩:∃D,u.depth=D:=⟨_,rfl⟩;rw[hD]at j8 bC
    clear aq hu hD;go_wp2_with (go_at_call 86;refine bC.mono ?_;rintro e w1 ⟨rfl,b1⟩)
    all_goals
     have ar:=wJ (HB.out.trans (b1.mono (by have:=HB.out.size;simp at this;omega)));go_roundg (m-(i+1))
     case measure=>omega
     case rel=>exact⟨i+1,_,rfl,rfl,by go_num,by omega,wJ (by rw[j8.out];omega),ar.out⟩
   ·have hr:=wJ (show a+1=R by rw[ur (by rw[HM.out];omega)]at hd;rw[hd.out]at dA;exact dA.out)
    have ha6:a<1000001:=by have:=hr.out;omega
    go_wp2_with fail
    go_ret
    exact⟨zaK (by rw[<-hr.out];rfl),((ua _ w).alloc (tV _) _).trans (HB.out.mono (by omega))⟩
set_option maxRecDepth 100000
theorem zkq(f:Nat)(ts:List Tok)(v:Value)(w:World)(i:Nat)(hv:RdT w v ts)(hg:AllG ts)(hn:ts.length<=100000)(hi:i<=ts.length)(hf:4*(ts.length-i)+2<=f+1)
  (IH:∀(w:World)(i:Nat),RdT w v ts->i<=ts.length->4*(ts.length-i)+4<=f->Calls Tryz.prog 133 #[v,.int .i64 i] w (RPost ts i w (read f (ts.drop i)))):Calls Tryz.prog 187 #[v,.int .i64 i] w (RPost ts i w (atom (f+1) (ts.drop i))):=by
 by_cases ah:i<ts.length
 ·have hdr:=zbm ts i ah
  obtain⟨g,c,rfl,h0,h1,h2⟩:=hv.at_ i ah;have iR:=hg _ (List.getElem_mem ah);have aV:=hv.lt (by omega);rw[hdr]
  generalize hT:ts[i]=T at *;obtain⟨m,s,p⟩:=T;obtain⟨X,hX⟩:∃X:ByteArray,⟨s.toArray⟩=X:=⟨_,rfl⟩;obtain⟨n,hN⟩:∃n,ts.length=n:=⟨_,rfl⟩;have HX:=wJ hX;have HN:=wJ hN;simp only at h0 h1 h2;rw[hX]at h1
  rw[hN]at hv ah hn hi hf IH ⊢
  have HV:=wJ hv;have bq:=wJ IH;have HG:=wJ iR;clear h2 hv IH hX hN iR hT hdr hg;obtain⟨O,hO⟩:∃O,atom (f+1) (⟨m,s,p⟩::ts.drop (i+1))=O:=⟨_,rfl⟩;rw[hO]
  rw[atom]at hO
  replace hO:=hO.symm;simp only at hO;by_cases k1:m=1
  ·have HO:=wJ (hO.trans (ud k1))
   subst k1;clear hO;have h0:w.cell? ⟨g,i*3,none⟩=some (.int .i64 1):=h0;go_enter Tryz.func187,Tryz.ntmps187
   go_wp2_with fail
   try simp only[Exit.inBlock,Exit.then]
   refine ub (zaa rfl _ _ w.heap.size 44 _ (0,0) _ rfl (tW _ _) Tryz.underlying44 rfl (by kernel_rfl)) rfl ?_;exact za9 ts i w _ _ _ 1 X 0 none 0 0 (.var s) (i+1) ((ua _ w).alloc (tV _) _) (by omega) (by rw[HN.out];omega) HO.out rfl ⟨none,0,by rw[<-HX.out];rfl,by rw[Args];trivial⟩
  ·have d1:=zbO m 1 1 rfl k1
   rw[ue k1]at hO
   by_cases k2:m=2
   ·have HO:=wJ (hO.trans (ud k2))
    subst k2;clear hO;have h0:w.cell? ⟨g,i*3,none⟩=some (.int .i64 2):=h0;go_enter Tryz.func187,Tryz.ntmps187
    go_wp2_with fail
    try simp only[Exit.inBlock,Exit.then]
    refine ub (zaa rfl _ _ w.heap.size 44 _ (0,0) _ rfl (tW _ _) Tryz.underlying44 rfl (by kernel_rfl)) rfl ?_;exact za9 ts i w _ _ _ 3 X 0 none 0 0 (.con s []) (i+1) ((ua _ w).alloc (tV _) _) (by omega) (by rw[HN.out];omega) HO.out rfl ⟨none,0,by rw[<-HX.out];rfl,by rw[Args];intro h;exact absurd rfl h⟩
   ·have d2:=zbO m 2 2 rfl k2
    rw[ue k2]at hO
    by_cases k5:m=5
    ·have HO:=wJ (hO.trans (ud k5))
     subst k5;clear hO;have h0:w.cell? ⟨g,i*3,none⟩=some (.int .i64 5):=h0;obtain⟨g1,g2,g3⟩:=zgy _ HG.out rfl;have qz:X.data.toList=s:=by rw[<-HX.out]
     have hX1:1<=X.size:=by rw[vf,qz];exact g3
     have hXe:(X.extract 1 X.size).data.toList=s.drop 1:=by rw[Lib.extract_eq,qz];simp only[];rw[ur];rw[uR,<-qz,<-vf];omega
     have kv:=λw=>zh2 (X.extract 1 X.size) w (by rw[hXe];exact g1) (by rw[vf,hXe];exact g2);rw[hXe]at kv
     clear hXe qz g1 g2 g3;obtain⟨N,qC⟩:∃N,numOf (s.drop 1)=N:=⟨_,rfl⟩;rw[qC]at kv HO
     clear qC;go_enter Tryz.func187,Tryz.ntmps187
     go_wp2_with (go_at_call 203;refine(kv _).mono ?_;rintro e w1 ⟨rfl,rfl⟩)
     try simp only[Exit.inBlock,Exit.then]
     refine ub (zaa rfl _ _ w.heap.size 44 _ (0,0) _ rfl (tW _ _) Tryz.underlying44 rfl (by kernel_rfl)) rfl ?_;exact za9 ts i w _ _ _ 2 ⟨#[]⟩ (N:Nat) none 0 0 (.mt N) (i+1) ((ua _ w).alloc (tV _) _) (by omega) (by rw[HN.out];omega) HO.out rfl ⟨none,0,rfl,by rw[Args];trivial⟩
    ·have d5:=zbO m 5 5 rfl k5
     rw[ue k5]at hO
     by_cases k40:s=[40]
     ·have dX:(X.toList==[40])=true:=by rw[uK,<-HX.out,k40];rfl
      have HO:=wJ (hO.trans (ud k40));clear hO k40;go_enter Tryz.func187,Tryz.ntmps187
      go_wp2_with fail
      refine(bq.out _ (i+1) (HV.out.alloc _) (by omega) (by omega)).mono ?_;rintro e w1 ⟨b1,K1,X1,Z1,A1,m1,c1,aB⟩;have cu:Blk w1 w.heap.size 44 #[.int .i64 0,.string ⟨#[]⟩,.int .i64 0,.slice none 0 0]:=Blk.below (tW _ _) b1 (by simp);obtain⟨a0,a1,a2,a3,r0,r1,r2,r3,ax⟩:=zae cu;have dT:=wJ cu;clear cu;rcases aB with⟨ho,rfl⟩|⟨t,k,hk,bg,ho,rfl,hr⟩
      ·have HO:=wJ (HO.out.trans (by rw[ho]))
       have B1:=wJ b1;clear b1 ho;go_wp2_with fail
       try simp only[Exit.inBlock,Exit.then]
       refine ub (zaa rfl _ _ w.heap.size 44 _ (0,0) _ rfl ((zai _ _ _ _ dT.out).alloc _) Tryz.underlying44 rfl (by kernel_rfl)) rfl ?_;exact zaI ts i w _ _ _ 0 ⟨#[]⟩ 0 none 0 0 ((zaq (zaW B1.out (tV _)) _ _ _ _ (tV _)).alloc (by simp;omega) _) HO.out rfl
      ·obtain⟨q,hq⟩:∃q,isAt ts k 6 [41]=q:=⟨_,rfl⟩
       have HO:Hid (O=(eat (isSign · [41]) (ts.drop k)).map λr3=>(t,r3)):=wJ (HO.out.trans (by rw[ho]));have B1:=wJ b1;have HQ:=wJ hq;have lT:∀w,RdT w (.slice (some ⟨g,0,none⟩) n c) ts->Calls Tryz.prog 85 #[.slice (some ⟨g,0,none⟩) n c,.int .i64 k,.int .i64 6,.string ⟨#[41]⟩] w λe w'=>e=.returned (.bool q)/\w=w':=by
        intro w hv;rw[<-hq]
        exact zcq _ ts k 6 ⟨#[41]⟩ 6 rfl w hv
       clear hq;have HR:=wJ hr;clear b1 ho hr;cases q
       ·go_wp2_with (go_at_call 85;refine(lT _ (((HV.out.alloc _).below B1.out).alloc _)).mono ?_;rintro e w2 ⟨rfl,rfl⟩)
        try simp only[Exit.inBlock,Exit.then]
        refine ub (zaa rfl _ _ w.heap.size 44 _ (0,0) _ rfl ((zai _ _ _ _ dT.out).alloc _) Tryz.underlying44 rfl (by kernel_rfl)) rfl ?_;exact zaI ts i w _ _ _ 0 ⟨#[]⟩ 0 none 0 0 ((zaq (zaW B1.out (tV _)) _ _ _ _ (tV _)).alloc (by simp;omega) _) (HO.out.trans (by rw[zc7 _ _ _ (by simp),HQ.out,ue (by simp)];rfl)) rfl
       ·have iy:=zcT _ _ _ _ HQ.out
        have jB:k<100000:=by rw[HN.out]at iy;omega
        go_wp2_with (go_at_call 85;refine(lT _ (((HV.out.alloc _).below B1.out).alloc _)).mono ?_;rintro e w2 ⟨rfl,rfl⟩)
        try simp only[Exit.inBlock,Exit.then]
        refine ub (zaa rfl _ _ w.heap.size 44 _ (0,0) _ rfl ((zai _ _ _ _ dT.out).alloc _) Tryz.underlying44 rfl (by kernel_rfl)) rfl ?_;refine za9 ts i w _ _ _ K1 X1 Z1 A1 m1 c1 t (k+1) ((zaq (zaW B1.out (tV _)) _ _ _ _ (tV _)).alloc (by simp;omega) _) (by omega) (by omega) (HO.out.trans (by rw[zc7 _ _ _ (by simp),HQ.out,ud rfl];rfl)) rfl ?_;exact HR.out.keep (λg hg=>by simp at hg ⊢;omega) (λg hg=>by
         simp at hg;rw[uc _ _ _ (by simp;omega),tY _ _ _ _ (by simp;omega),tY _ _ _ _ (by simp;omega),tY _ _ _ _ (by simp;omega),tY _ _ _ _ (by simp;omega)])
     ·have dX:(X.toList==[40])=false:=by rw[uK,<-HX.out];exact uo.2 k40
      have HO:=wJ (hO.trans (ue k40));clear hO k40;go_enter Tryz.func187,Tryz.ntmps187
      go_wp2_with fail
      try simp only[Exit.inBlock,Exit.then]
      refine ub (zaa rfl _ _ w.heap.size 44 _ (0,0) _ rfl (tW _ _) Tryz.underlying44 rfl (by kernel_rfl)) rfl ?_;exact zaI ts i w _ _ _ 0 ⟨#[]⟩ 0 none 0 0 ((ua _ w).alloc (tV _) _) HO.out rfl
 ·have HO:atom (f+1) (ts.drop i)=none:=by rw[uD (by omega),atom]
  obtain⟨A,c,rfl,_⟩:=hv;obtain⟨n,hN⟩:∃n,ts.length=n:=⟨_,rfl⟩;rw[hN]at ah hn hi ⊢
  rw[HO]
  clear hN IH HO hf hg;go_enter Tryz.func187,Tryz.ntmps187
  go_wp2_with fail
  try simp only[Exit.inBlock,Exit.then]
  refine ub (zaa rfl _ _ w.heap.size 44 _ (0,0) _ rfl (tW _ _) Tryz.underlying44 rfl (by kernel_rfl)) rfl ?_;exact zaI ts i w _ _ _ 0 ⟨#[]⟩ 0 none 0 0 ((ua _ w).alloc (tV _) _) rfl rfl
set_option maxRecDepth 100000
theorem zkr:(Tryz.prog.info? 44).map (λi=>(i.zero,i.size,i.bytes))=some (some (.agg #[.int .i64 0,.string ⟨#[]⟩,.int .i64 0,.slice none 0 0]),4,56):=by kernel_rfl
def zpK(ts:List Tok)(f n i:Nat)(X:ByteArray)(w:World)(g:Nat)(vk:Value)(wr:World):Prop :=
 ∃k f' done v',g=n-k/\vk=.int .i64 k/\i<k/\k<=n/\4*(n-k)+3<=f'/\f'<=f/\Hid (args f (ts.drop (i+1))=(args f' (ts.drop k)).map λy=>(done++y.1,y.2))/\done.length<=k /\
  Built (λ_=>False) (w.heap.size+2) 44 wr done v'/\Blk wr (w.heap.size+1) 44 #[.int .i64 3,.string X,.int .i64 0,v'] /\
  Blk wr w.heap.size 44 #[.int .i64 0,.string ⟨#[]⟩,.int .i64 0,.slice none 0 0]/\Below w.heap.size w wr
theorem zl6(f:Nat)(ts:List Tok)(v:Value)(w:World)(i:Nat)(hv:RdT w v ts)(hn:ts.length<=100000)(hi:i<=ts.length)(hf:4*(ts.length-i)+3<=f+1)
  (IH:∀f1,f1<=f->∀(w:World)(i:Nat),RdT w v ts->i<=ts.length->4*(ts.length-i)+2<=f1->Calls Tryz.prog 187 #[v,.int .i64 i] w (RPost ts i w (atom f1 (ts.drop i)))):Calls Tryz.prog 167 #[v,.int .i64 i] w (RPost ts i w (app (f+1) (ts.drop i))):=by
 obtain⟨q,hq⟩:∃q,isAt ts i 2 []=q:=⟨_,rfl⟩;have HQ:=wJ hq;have lT:∀w,RdT w v ts->Calls Tryz.prog 85 #[v,.int .i64 i,.int .i64 2,.string ⟨#[]⟩] w λe w'=>e=.returned (.bool q)/\w=w':=by
  intro w hv;rw[<-hq]
  exact zcq _ ts i 2 ⟨#[]⟩ 2 rfl w hv
 clear hq;have HV:=wJ hv;have bq:=wJ IH;clear IH;cases q
 ·have HO:Hid (app (f+1) (ts.drop i)=atom f (ts.drop i)):=by
   refine wJ ?_;by_cases ah:i<ts.length
   ·have h2:=HQ.out
    rw[zcS ts i 2 [] ah]at h2
    simp at h2;rw[zbm ts i ah,app]
    simp only[ue h2]
   ·rw[uD (by omega),app]
    obtain⟨f',rfl⟩:∃f',f=f'+1:=⟨f-1,by omega⟩;rw[atom]
  rw[HO.out]
  clear HO hv;go_enter Tryz.func167,Tryz.ntmps167
  go_wp2_with (go_at_call 85;refine(lT _ (HV.out.alloc _)).mono ?_;rintro e w2 ⟨rfl,rfl⟩)
  go_at_call 187
  refine(bq.out f (tV _) _ i (HV.out.alloc _) hi (by omega)).mono ?_;rintro e w1 ⟨b1,K1,X1,Z1,A1,m1,c1,aB⟩;have cu:Blk w1 w.heap.size 44 #[.int .i64 0,.string ⟨#[]⟩,.int .i64 0,.slice none 0 0]:=Blk.below (tW _ _) b1 (by simp);obtain⟨a0,a1,a2,a3,r0,r1,r2,r3,ax⟩:=zae cu;have dT:=wJ cu;have B1:=wJ b1;clear cu b1;rcases aB with⟨ho,rfl⟩|⟨t,k,hk,bg,ho,rfl,hr⟩
  ·have HO:=wJ ho
   clear ho;go_wp2_with fail
   try simp only[Exit.inBlock,Exit.then]
   refine ub (zaa rfl _ _ w.heap.size 44 _ (0,0) _ rfl (zai _ _ _ _ dT.out) Tryz.underlying44 rfl (by kernel_rfl)) rfl ?_;exact zaI ts i w _ _ _ K1 X1 Z1 A1 m1 c1 (zaq (zaW B1.out (tV _)) _ _ _ _ (tV _)) HO.out rfl
  ·have HO:=wJ ho
   have HR:=wJ hr;clear ho hr;go_wp2_with fail
   try simp only[Exit.inBlock,Exit.then]
   refine ub (zaa rfl _ _ w.heap.size 44 _ (0,0) _ rfl (zai _ _ _ _ dT.out) Tryz.underlying44 rfl (by kernel_rfl)) rfl ?_;refine za9 ts i w _ _ _ K1 X1 Z1 A1 m1 c1 t k (zaq (zaW B1.out (tV _)) _ _ _ _ (tV _)) hk bg HO.out rfl ?_;exact HR.out.keep (λg hg=>by simp at hg ⊢;omega) (λg hg=>zan _ _ _ _ _ _ _ (by simp at hg;omega))
 ·have ah:=zcT _ _ _ _ HQ.out
  have ie:=HQ.out;rw[zcS ts i 2 [] ah]at ie
  simp at ie;obtain⟨g,c,rfl,h0,h1,_⟩:=hv.at_ i ah;have aV:=hv.lt (by omega);obtain⟨X,hX⟩:∃X:ByteArray,⟨ts[i].text.toArray⟩=X:=⟨_,rfl⟩;obtain⟨n,hN⟩:∃n,ts.length=n:=⟨_,rfl⟩;have HO:Hid (app (f+1) (ts.drop i)=(args f (ts.drop (i+1))).map λx=>(.con X.data.toList x.1,x.2)):=by
   refine wJ ?_;rw[zbm ts i ah,app,<-hX]
   simp only[ud ie]
  have HN:=wJ hN;rw[hX]at h1
  rw[HO.out]
  clear hX h0 hv HQ ie;have hlt':i<n:=by omega
  obtain⟨i0,bJ,bO,bz,bE⟩:=vz zkr;rw[hN]at hn hi hf bq HV lT ⊢
  clear hN HO;go_enter Tryz.func167,Tryz.ntmps167
  go_wp2_with (go_at_call 85;refine(lT _ (HV.out.alloc _)).mono ?_;rintro e w2 ⟨rfl,rfl⟩)
  go_loopg [8] (n-(i+1)) (λgg vk wr=>zpK ts f n i X w gg vk wr)
  case atStart =>
   refine⟨i+1,f,[],.slice none 0 0,rfl,by go_num,by omega,by omega,by omega,tV _,wJ (by simp),by simp,Built.nil _ _ _ _,?_,?_,((ua _ w).alloc (tV _) _).alloc (by simp) _⟩
   ·exact heap_alloc2_new _ _ _
   ·exact heap_alloc2_old _ _ _
  case round =>
   obtain⟨k,f',done,v',rfl,rfl,jg,bg,iS,pD,hargs,iV,fP,aN,aK,bp⟩:=hrel;obtain⟨f1,rfl⟩:∃f1,f'=f1+1:=⟨f'-1,by omega⟩;obtain⟨vs,ae,ao⟩:=fP;obtain⟨A0,c0,rfl⟩:=zat ae;have rp:=HV.out.below bp;have HVT:=wJ rp;have aM:=wJ ae;have av:=wJ ao;have aJ:=wJ aN;have bT:=wJ aK;have aW:=wJ bp;have aY:=ae.lt;have bY:=wJ aY;obtain⟨a0,a1,a2,a3,r0,r1,r2,r3,ax⟩:=zae aK;obtain⟨p0,p1,p2,p3,s0,s1,s2,s3,ic⟩:=zae aN;by_cases iy:k<n
   ·have kz:k<ts.length:=by rw[HN.out];exact iy
    obtain⟨e0,e1⟩:=rp.cells k kz;obtain⟨Y,hY⟩:∃Y:ByteArray,⟨ts[k].text.toArray⟩=Y:=⟨_,rfl⟩;rw[hY]at e1
    by_cases aH:atomic ts[k]=true
    ·have hw:=zix _ Y hY aH
     have eN:=wJ aH;obtain⟨m,hm⟩:∃m,ts[k].kind=m:=⟨_,rfl⟩;rw[hm]at e0 hw
     have nB:g<wr.heap.size:=by have:=bp.size;omega
     clear hY aH hm rp ae ao aN aK bp aY;rcases hw with d1|⟨d1,d5⟩|⟨d1,d5,d2⟩|⟨d1,d5,d2,dX⟩
     ·go_wp2_with fail
      refine(bq.out f1 (by omega) wr k HVT.out (by omega) (by omega)).mono ?_;rintro e w1 ⟨b1,K1,X1,Z1,A1,m1,c1,aB⟩;have aK:=bT.out.below b1 ax;have aN:=aJ.out.below b1 ic;obtain⟨a0,a1,a2,a3,r0,r1,r2,r3,np⟩:=zae aK;obtain⟨p0,p1,p2,p3,s0,s1,s2,s3,py⟩:=zae aN;have fg:=wJ aK;have gO:=wJ aN;have fi:=wJ b1;clear b1 aK aN;rcases aB with⟨ho,rfl⟩|⟨t,k2,hk,fO,ho,rfl,hr⟩
      ·have HO:Hid (args f (ts.drop (i+1))=none):=wJ (hargs.out.trans (by rw[zdo f1 ts k kz eN.out ho];rfl))
       clear ho;go_wp2_with fail
       try simp only[Exit.inBlock,Exit.then]
       refine ub (zaa rfl _ _ w.heap.size 44 _ (0,0) _ rfl ((zai _ _ _ _ fg.out).alloc _) Tryz.underlying44 rfl (by kernel_rfl)) rfl ?_;exact zaI ts i w _ _ _ 0 ⟨#[]⟩ 0 none 0 0 ((zaq (bnext aW.out fi.out (tV _)) _ _ _ _ (tV _)).alloc (by simp;omega) _) (by rw[HO.out];rfl) rfl
      ·have HO:=wJ (zc8 (hargs.out.trans (by rw[zdp f1 ts k kz eN.out t _ ho])))
       have HR:=wJ hr;have aY:=wJ (((own_below aM.out fi.out).alloc (.cells #[.int .i64 K1,.string X1,.int .i64 Z1,.slice A1 m1 c1] 44)).alloc (.cells #[.int .i64 K1,.string X1,.int .i64 Z1,.slice A1 m1 c1] 44));clear ho hr;go_wp2_with (at_builtin;refine uP _ rfl (.tmp 75) (.tmp 77) 42 rfl (w.heap.size+2) 44 i0 _ 4 56 Tryz.underlying42 bJ bO bz bE rfl (by decide) _ done.length vs rfl aY.out ⟨w1.heap.size+1,0,none⟩ 1 1 [.int .i64 K1,.string X1,.int .i64 Z1,.slice A1 m1 c1] rfl rfl (zao _ _ _ _ (by simp)) (by intro u hu;simp at hu;rcases hu with rfl|rfl|rfl|rfl <;> rfl) (by unfold maxLen;omega) (by omega) (by have:=fi.out.size;have:=aW.out.size;simp;omega) ?_;intro v2 w3 aj ab _ cV;obtain⟨A2,c2,rfl⟩:=zat aj;have dN:=wJ aj;have bw:=wJ ab;have jr:=wJ cV;clear aj ab cV;have fl:=((gO.out.alloc _).alloc _).grown bw.out (λe=>by have:=bY.out _ e.symm;omega);have eL:=((fg.out.alloc _).alloc _).grown bw.out (λe=>by have:=bY.out _ e.symm;omega);obtain⟨y0,y1,y2,y3,z0,z1,z2,z3,nl⟩:=zae fl;have nT:=wJ fl;have kR:=wJ eL;clear fl eL)
       go_roundg (n-k2)
       case measure=>omega
       case rel =>
        have hb:=Built.next (w:=wr) (w1:=w1) (λ_ h=>h.elim) (by omega) aM.out av.out fi.out (HR.out.keep (λ_ h=>.inr h) (λ_ _=>rfl)) (((ua _ w1).alloc (tV _) _).alloc (by simp) _) dN.out bw.out jr.out;have aG:=aW.out.size;have pf:=fi.out.size;refine⟨k2,f1,done++[t],_,rfl,rfl,by omega,by rw[HN.out]at fO;exact fO,by omega,by omega,HO,by simp;omega,hb.setCell _ (by simp) (λh=>h),uk _ _ 3 _ _ _ nT.out,kR.out.far (by simp) _,?_⟩;exact(((bnext aW.out fi.out (tV _)).alloc (by omega) _).alloc (by simp;omega) _ |>.grown bw.out (by simp;omega) (λj hj=>by have:=bY.out _ hj;omega)).setCell (by simp) _
     ·go_wp2_with fail
      refine(bq.out f1 (by omega) wr k HVT.out (by omega) (by omega)).mono ?_;rintro e w1 ⟨b1,K1,X1,Z1,A1,m1,c1,aB⟩;have aK:=bT.out.below b1 ax;have aN:=aJ.out.below b1 ic;obtain⟨a0,a1,a2,a3,r0,r1,r2,r3,np⟩:=zae aK;obtain⟨p0,p1,p2,p3,s0,s1,s2,s3,py⟩:=zae aN;have fg:=wJ aK;have gO:=wJ aN;have fi:=wJ b1;clear b1 aK aN;rcases aB with⟨ho,rfl⟩|⟨t,k2,hk,fO,ho,rfl,hr⟩
      ·have HO:Hid (args f (ts.drop (i+1))=none):=wJ (hargs.out.trans (by rw[zdo f1 ts k kz eN.out ho];rfl))
       clear ho;go_wp2_with fail
       try simp only[Exit.inBlock,Exit.then]
       refine ub (zaa rfl _ _ w.heap.size 44 _ (0,0) _ rfl ((zai _ _ _ _ fg.out).alloc _) Tryz.underlying44 rfl (by kernel_rfl)) rfl ?_;exact zaI ts i w _ _ _ 0 ⟨#[]⟩ 0 none 0 0 ((zaq (bnext aW.out fi.out (tV _)) _ _ _ _ (tV _)).alloc (by simp;omega) _) (by rw[HO.out];rfl) rfl
      ·have HO:=wJ (zc8 (hargs.out.trans (by rw[zdp f1 ts k kz eN.out t _ ho])))
       have HR:=wJ hr;have aY:=wJ (((own_below aM.out fi.out).alloc (.cells #[.int .i64 K1,.string X1,.int .i64 Z1,.slice A1 m1 c1] 44)).alloc (.cells #[.int .i64 K1,.string X1,.int .i64 Z1,.slice A1 m1 c1] 44));clear ho hr;go_wp2_with (at_builtin;refine uP _ rfl (.tmp 75) (.tmp 77) 42 rfl (w.heap.size+2) 44 i0 _ 4 56 Tryz.underlying42 bJ bO bz bE rfl (by decide) _ done.length vs rfl aY.out ⟨w1.heap.size+1,0,none⟩ 1 1 [.int .i64 K1,.string X1,.int .i64 Z1,.slice A1 m1 c1] rfl rfl (zao _ _ _ _ (by simp)) (by intro u hu;simp at hu;rcases hu with rfl|rfl|rfl|rfl <;> rfl) (by unfold maxLen;omega) (by omega) (by have:=fi.out.size;have:=aW.out.size;simp;omega) ?_;intro v2 w3 aj ab _ cV;obtain⟨A2,c2,rfl⟩:=zat aj;have dN:=wJ aj;have bw:=wJ ab;have jr:=wJ cV;clear aj ab cV;have fl:=((gO.out.alloc _).alloc _).grown bw.out (λe=>by have:=bY.out _ e.symm;omega);have eL:=((fg.out.alloc _).alloc _).grown bw.out (λe=>by have:=bY.out _ e.symm;omega);obtain⟨y0,y1,y2,y3,z0,z1,z2,z3,nl⟩:=zae fl;have nT:=wJ fl;have kR:=wJ eL;clear fl eL)
       go_roundg (n-k2)
       case measure=>omega
       case rel =>
        have hb:=Built.next (w:=wr) (w1:=w1) (λ_ h=>h.elim) (by omega) aM.out av.out fi.out (HR.out.keep (λ_ h=>.inr h) (λ_ _=>rfl)) (((ua _ w1).alloc (tV _) _).alloc (by simp) _) dN.out bw.out jr.out;have aG:=aW.out.size;have pf:=fi.out.size;refine⟨k2,f1,done++[t],_,rfl,rfl,by omega,by rw[HN.out]at fO;exact fO,by omega,by omega,HO,by simp;omega,hb.setCell _ (by simp) (λh=>h),uk _ _ 3 _ _ _ nT.out,kR.out.far (by simp) _,?_⟩;exact(((bnext aW.out fi.out (tV _)).alloc (by omega) _).alloc (by simp;omega) _ |>.grown bw.out (by simp;omega) (λj hj=>by have:=bY.out _ hj;omega)).setCell (by simp) _
     ·go_wp2_with fail
      refine(bq.out f1 (by omega) wr k HVT.out (by omega) (by omega)).mono ?_;rintro e w1 ⟨b1,K1,X1,Z1,A1,m1,c1,aB⟩;have aK:=bT.out.below b1 ax;have aN:=aJ.out.below b1 ic;obtain⟨a0,a1,a2,a3,r0,r1,r2,r3,np⟩:=zae aK;obtain⟨p0,p1,p2,p3,s0,s1,s2,s3,py⟩:=zae aN;have fg:=wJ aK;have gO:=wJ aN;have fi:=wJ b1;clear b1 aK aN;rcases aB with⟨ho,rfl⟩|⟨t,k2,hk,fO,ho,rfl,hr⟩
      ·have HO:Hid (args f (ts.drop (i+1))=none):=wJ (hargs.out.trans (by rw[zdo f1 ts k kz eN.out ho];rfl))
       clear ho;go_wp2_with fail
       try simp only[Exit.inBlock,Exit.then]
       refine ub (zaa rfl _ _ w.heap.size 44 _ (0,0) _ rfl ((zai _ _ _ _ fg.out).alloc _) Tryz.underlying44 rfl (by kernel_rfl)) rfl ?_;exact zaI ts i w _ _ _ 0 ⟨#[]⟩ 0 none 0 0 ((zaq (bnext aW.out fi.out (tV _)) _ _ _ _ (tV _)).alloc (by simp;omega) _) (by rw[HO.out];rfl) rfl
      ·have HO:=wJ (zc8 (hargs.out.trans (by rw[zdp f1 ts k kz eN.out t _ ho])))
       have HR:=wJ hr;have aY:=wJ (((own_below aM.out fi.out).alloc (.cells #[.int .i64 K1,.string X1,.int .i64 Z1,.slice A1 m1 c1] 44)).alloc (.cells #[.int .i64 K1,.string X1,.int .i64 Z1,.slice A1 m1 c1] 44));clear ho hr;go_wp2_with (at_builtin;refine uP _ rfl (.tmp 75) (.tmp 77) 42 rfl (w.heap.size+2) 44 i0 _ 4 56 Tryz.underlying42 bJ bO bz bE rfl (by decide) _ done.length vs rfl aY.out ⟨w1.heap.size+1,0,none⟩ 1 1 [.int .i64 K1,.string X1,.int .i64 Z1,.slice A1 m1 c1] rfl rfl (zao _ _ _ _ (by simp)) (by intro u hu;simp at hu;rcases hu with rfl|rfl|rfl|rfl <;> rfl) (by unfold maxLen;omega) (by omega) (by have:=fi.out.size;have:=aW.out.size;simp;omega) ?_;intro v2 w3 aj ab _ cV;obtain⟨A2,c2,rfl⟩:=zat aj;have dN:=wJ aj;have bw:=wJ ab;have jr:=wJ cV;clear aj ab cV;have fl:=((gO.out.alloc _).alloc _).grown bw.out (λe=>by have:=bY.out _ e.symm;omega);have eL:=((fg.out.alloc _).alloc _).grown bw.out (λe=>by have:=bY.out _ e.symm;omega);obtain⟨y0,y1,y2,y3,z0,z1,z2,z3,nl⟩:=zae fl;have nT:=wJ fl;have kR:=wJ eL;clear fl eL)
       go_roundg (n-k2)
       case measure=>omega
       case rel =>
        have hb:=Built.next (w:=wr) (w1:=w1) (λ_ h=>h.elim) (by omega) aM.out av.out fi.out (HR.out.keep (λ_ h=>.inr h) (λ_ _=>rfl)) (((ua _ w1).alloc (tV _) _).alloc (by simp) _) dN.out bw.out jr.out;have aG:=aW.out.size;have pf:=fi.out.size;refine⟨k2,f1,done++[t],_,rfl,rfl,by omega,by rw[HN.out]at fO;exact fO,by omega,by omega,HO,by simp;omega,hb.setCell _ (by simp) (λh=>h),uk _ _ 3 _ _ _ nT.out,kR.out.far (by simp) _,?_⟩;exact(((bnext aW.out fi.out (tV _)).alloc (by omega) _).alloc (by simp;omega) _ |>.grown bw.out (by simp;omega) (λj hj=>by have:=bY.out _ hj;omega)).setCell (by simp) _
     ·go_wp2_with fail
      refine(bq.out f1 (by omega) wr k HVT.out (by omega) (by omega)).mono ?_;rintro e w1 ⟨b1,K1,X1,Z1,A1,m1,c1,aB⟩;have aK:=bT.out.below b1 ax;have aN:=aJ.out.below b1 ic;obtain⟨a0,a1,a2,a3,r0,r1,r2,r3,np⟩:=zae aK;obtain⟨p0,p1,p2,p3,s0,s1,s2,s3,py⟩:=zae aN;have fg:=wJ aK;have gO:=wJ aN;have fi:=wJ b1;clear b1 aK aN;rcases aB with⟨ho,rfl⟩|⟨t,k2,hk,fO,ho,rfl,hr⟩
      ·have HO:Hid (args f (ts.drop (i+1))=none):=wJ (hargs.out.trans (by rw[zdo f1 ts k kz eN.out ho];rfl))
       clear ho;go_wp2_with fail
       try simp only[Exit.inBlock,Exit.then]
       refine ub (zaa rfl _ _ w.heap.size 44 _ (0,0) _ rfl ((zai _ _ _ _ fg.out).alloc _) Tryz.underlying44 rfl (by kernel_rfl)) rfl ?_;exact zaI ts i w _ _ _ 0 ⟨#[]⟩ 0 none 0 0 ((zaq (bnext aW.out fi.out (tV _)) _ _ _ _ (tV _)).alloc (by simp;omega) _) (by rw[HO.out];rfl) rfl
      ·have HO:=wJ (zc8 (hargs.out.trans (by rw[zdp f1 ts k kz eN.out t _ ho])))
       have HR:=wJ hr;have aY:=wJ (((own_below aM.out fi.out).alloc (.cells #[.int .i64 K1,.string X1,.int .i64 Z1,.slice A1 m1 c1] 44)).alloc (.cells #[.int .i64 K1,.string X1,.int .i64 Z1,.slice A1 m1 c1] 44));clear ho hr;go_wp2_with (at_builtin;refine uP _ rfl (.tmp 75) (.tmp 77) 42 rfl (w.heap.size+2) 44 i0 _ 4 56 Tryz.underlying42 bJ bO bz bE rfl (by decide) _ done.length vs rfl aY.out ⟨w1.heap.size+1,0,none⟩ 1 1 [.int .i64 K1,.string X1,.int .i64 Z1,.slice A1 m1 c1] rfl rfl (zao _ _ _ _ (by simp)) (by intro u hu;simp at hu;rcases hu with rfl|rfl|rfl|rfl <;> rfl) (by unfold maxLen;omega) (by omega) (by have:=fi.out.size;have:=aW.out.size;simp;omega) ?_;intro v2 w3 aj ab _ cV;obtain⟨A2,c2,rfl⟩:=zat aj;have dN:=wJ aj;have bw:=wJ ab;have jr:=wJ cV;clear aj ab cV;have fl:=((gO.out.alloc _).alloc _).grown bw.out (λe=>by have:=bY.out _ e.symm;omega);have eL:=((fg.out.alloc _).alloc _).grown bw.out (λe=>by have:=bY.out _ e.symm;omega);obtain⟨y0,y1,y2,y3,z0,z1,z2,z3,nl⟩:=zae fl;have nT:=wJ fl;have kR:=wJ eL;clear fl eL)
       go_roundg (n-k2)
       case measure=>omega
       case rel =>
        have hb:=Built.next (w:=wr) (w1:=w1) (λ_ h=>h.elim) (by omega) aM.out av.out fi.out (HR.out.keep (λ_ h=>.inr h) (λ_ _=>rfl)) (((ua _ w1).alloc (tV _) _).alloc (by simp) _) dN.out bw.out jr.out;have aG:=aW.out.size;have pf:=fi.out.size;refine⟨k2,f1,done++[t],_,rfl,rfl,by omega,by rw[HN.out]at fO;exact fO,by omega,by omega,HO,by simp;omega,hb.setCell _ (by simp) (λh=>h),uk _ _ 3 _ _ _ nT.out,kR.out.far (by simp) _,?_⟩;exact(((bnext aW.out fi.out (tV _)).alloc (by omega) _).alloc (by simp;omega) _ |>.grown bw.out (by simp;omega) (λj hj=>by have:=bY.out _ hj;omega)).setCell (by simp) _
    ·have aH:atomic ts[k]=false:=by simpa using aH
     have HO:Hid (args f (ts.drop (i+1))=some (done,ts.drop k)):=wJ (hargs.out.trans (by rw[zgz f1 ts k (λ_=>aH)];simp));have qh:=wJ (Built.args (t:=.con X.data.toList done) (show Built _ _ _ wr (kids (.con X.data.toList done)) _ from⟨vs,ae,ao⟩)).2;obtain⟨d1,d5,d2,dX⟩:=zj3 _ Y hY aH;obtain⟨m,hm⟩:∃m,ts[k].kind=m:=⟨_,rfl⟩;rw[hm]at e0 d1 d2 d5
     have nB:g<wr.heap.size:=by have:=bp.size;omega
     clear hY aH hm rp ae ao aN aK bp aY;go_wp2_with fail
     try simp only[Exit.inBlock,Exit.then]
     refine ub (zaa rfl _ _ w.heap.size 44 _ (0,0) _ rfl (zai _ _ _ _ bT.out) Tryz.underlying44 rfl (by kernel_rfl)) rfl ?_;refine za9 ts i w _ _ _ 3 X 0 A0 done.length c0 (.con X.data.toList done) k (zaq aW.out _ _ _ _ (tV _)) jg (by rw[HN.out];exact bg) (by rw[HO.out];rfl) rfl ?_;refine⟨A0,c0,by rw[nmB,Lib.mk_data];rfl,Args.keep (λg hg=>?_) (λg hg=>zan _ _ _ _ _ _ _ ?_) _ _ qh.out⟩
     ·rcases hg with hg|hg
      ·exact hg.elim
      ·simp;omega
     ·rcases hg with hg|hg
      ·exact hg.elim
      ·omega
   ·have HO:Hid (args f (ts.drop (i+1))=some (done,ts.drop k)):=wJ (hargs.out.trans (by rw[zgz f1 ts k (λh=>absurd h (by rw[HN.out];omega))];simp))
    have qh:=wJ (Built.args (t:=.con X.data.toList done) (show Built _ _ _ wr (kids (.con X.data.toList done)) _ from⟨vs,ae,ao⟩)).2;clear rp ae ao aN aK bp aY;go_wp2_with fail
    try simp only[Exit.inBlock,Exit.then]
    refine ub (zaa rfl _ _ w.heap.size 44 _ (0,0) _ rfl (zai _ _ _ _ bT.out) Tryz.underlying44 rfl (by kernel_rfl)) rfl ?_;refine za9 ts i w _ _ _ 3 X 0 A0 done.length c0 (.con X.data.toList done) k (zaq aW.out _ _ _ _ (tV _)) jg (by rw[HN.out];exact bg) (by rw[HO.out];rfl) rfl ?_;refine⟨A0,c0,by rw[nmB,Lib.mk_data];rfl,Args.keep (λg hg=>?_) (λg hg=>zan _ _ _ _ _ _ _ ?_) _ _ qh.out⟩
    ·rcases hg with hg|hg
     ·exact hg.elim
     ·simp;omega
    ·rcases hg with hg|hg
     ·exact hg.elim
     ·omega
set_option maxRecDepth 100000
theorem zgD(f:Nat)(ts:List Tok)(v:Value)(w:World)(i:Nat)(hv:RdT w v ts)(hn:ts.length<=100000)(hi:i<=ts.length)(hf:4*(ts.length-i)+4<=f+1)(hq:isAt ts i 3 wForall=false)
  (oP:∀(w:World)(i:Nat),RdT w v ts->i<=ts.length->4*(ts.length-i)+3<=f->Calls Tryz.prog 167 #[v,.int .i64 i] w (RPost ts i w (app f (ts.drop i))))
  (nH:∀(w:World)(i:Nat),RdT w v ts->i<=ts.length->4*(ts.length-i)+4<=f->Calls Tryz.prog 133 #[v,.int .i64 i] w (RPost ts i w (read f (ts.drop i)))):Calls Tryz.prog 133 #[v,.int .i64 i] w (RPost ts i w (read (f+1) (ts.drop i))):=by
 have lT:∀w,RdT w v ts->Calls Tryz.prog 85 #[v,.int .i64 i,.int .i64 3,.string ⟨#[102,111,114,97,108,108]⟩] w λe w'=>e=.returned (.bool false)/\w=w':=by
  intro w hv;rw[<-hq]
  exact zcq _ ts i 3 ⟨#[102,111,114,97,108,108]⟩ 3 rfl w hv
 have HO:=wJ (zj4 f ts i hq);obtain⟨O,hO⟩:∃O,read (f+1) (ts.drop i)=O:=⟨_,rfl⟩;rw[hO]
 rw[hO]at HO
 have HV:=wJ hv;have HA:=wJ oP;have HR:=wJ nH;clear hq hO hv oP nH;go_enter Tryz.func133,Tryz.ntmps133
 go_wp2_with (go_at_call 85;refine(lT _ (HV.out.alloc _)).mono ?_;rintro e w2 ⟨rfl,rfl⟩)
 go_at_call 167
 refine(HA.out _ i (HV.out.alloc _) hi (by omega)).mono ?_;rintro e w1 ⟨b1,K1,X1,Z1,A1,m1,c1,aB⟩;have cu:Blk w1 w.heap.size 44 #[.int .i64 0,.string ⟨#[]⟩,.int .i64 0,.slice none 0 0]:=Blk.below (tW _ _) b1 (by simp);have dT:=wJ cu;have B1:=wJ b1;obtain⟨a0,a1,a2,a3,r0,r1,r2,r3,ax⟩:=zae cu;clear cu b1;rcases aB with⟨ho,rfl⟩|⟨t,k,hk,bg,ho,rfl,hr⟩
 ·have HO:Hid (O=none):=wJ (HO.out.trans (by rw[ho]))
  clear ho;go_wp2_with fail
  try simp only[Exit.inBlock,Exit.then]
  refine ub (zaa rfl _ _ w.heap.size 44 _ (0,0) _ rfl ((zai _ _ _ _ dT.out).alloc _) Tryz.underlying44 rfl (by kernel_rfl)) rfl ?_;exact zaI ts i w _ _ _ 0 ⟨#[]⟩ 0 none 0 0 ((zaq (zaW B1.out (tV _)) _ _ _ _ (tV _)).alloc (by simp;omega) _) HO.out rfl
 ·obtain⟨q,hq⟩:∃q,isAt ts k 6 [45,62]=q:=⟨_,rfl⟩
  have HQ:=wJ hq;have iX:∀w,RdT w v ts->Calls Tryz.prog 85 #[v,.int .i64 k,.int .i64 6,.string ⟨#[45,62]⟩] w λe w'=>e=.returned (.bool q)/\w=w':=by
   intro w hv;rw[<-hq]
   exact zcq _ ts k 6 ⟨#[45,62]⟩ 6 rfl w hv
  clear hq;have HO:Hid (O=match eat (isSign · [45,62]) (ts.drop k) with|none=>some (t,ts.drop k)|some r2=>(read f r2).map λx=>(.fn t x.1,x.2)):=wJ (HO.out.trans (by rw[ho];rfl));have HT:=wJ hr;clear ho hr;cases q
  ·have HO:Hid (O=some (t,ts.drop k)):=wJ (HO.out.trans (by rw[zc7 _ _ _ (by simp),HQ.out,ue (by simp)]))
   go_wp2_with (go_at_call 85;refine(iX _ (((HV.out.alloc _).below B1.out).alloc _)).mono ?_;rintro e w2 ⟨rfl,rfl⟩)
   try simp only[Exit.inBlock,Exit.then]
   refine ub (zaa rfl _ _ w.heap.size 44 _ (0,0) _ rfl ((zai _ _ _ _ dT.out).alloc _) Tryz.underlying44 rfl (by kernel_rfl)) rfl ?_;refine za9 ts i w _ _ _ K1 X1 Z1 A1 m1 c1 t k ((zaq (zaW B1.out (tV _)) _ _ _ _ (tV _)).alloc (by simp;omega) _) hk bg HO.out rfl ?_;exact HT.out.keep (λg hg=>by simp at hg ⊢;omega) (λg hg=>by simp at hg;rw[uc _ _ _ (by simp;omega)];exact zan _ _ _ _ _ _ _ (by omega))
  ·have iy:=zcT _ _ _ _ HQ.out
   have HO:Hid (O=(read f (ts.drop (k+1))).map λx=>(.fn t x.1,x.2)):=wJ (HO.out.trans (by rw[zc7 _ _ _ (by simp),HQ.out,ud rfl]));go_wp2_with (go_at_call 85;refine(iX _ (((HV.out.alloc _).below B1.out).alloc _)).mono ?_;rintro e w2 ⟨rfl,rfl⟩)
   have hV1:=wJ ((((HV.out.alloc (.cells #[.int .i64 0,.string ⟨#[]⟩,.int .i64 0,.slice none 0 0] 44)).below B1.out).alloc (.cells #[.int .i64 K1,.string X1,.int .i64 Z1,.slice A1 m1 c1] 44)));refine(HR.out _ (k+1) hV1.out (by omega) (by omega)).mono ?_;rintro e w3 ⟨b3,K2,X2,Z2,A2,m2,c2,aB⟩;have sp:Blk w3 w1.heap.size 44 #[.int .i64 K1,.string X1,.int .i64 Z1,.slice A1 m1 c1]:=Blk.below (tW _ _) b3 (by simp);have aK:Blk w3 w.heap.size 44 #[.int .i64 0,.string ⟨#[]⟩,.int .i64 0,.slice none 0 0]:=Blk.below (dT.out.alloc _) b3 (by simp;omega);obtain⟨a0,a1,a2,a3,r0,r1,r2,r3,fL⟩:=zae aK;obtain⟨p0,p1,p2,p3,s0,s1,s2,s3,hlx3⟩:=zae sp;have bT:=wJ aK;have B3:=wJ b3;have B13:=wJ (zaW b3 (tV _));have bp:=wJ (bnext (zaW B1.out (tV _)) B13.out (tV _));clear sp aK b3;rcases aB with⟨ho,rfl⟩|⟨u,k2,ie,iQ,ho,rfl,hr⟩
   ·have HO:Hid (O=none):=wJ (HO.out.trans (by rw[ho];rfl))
    clear ho;go_wp2_with fail
    try simp only[Exit.inBlock,Exit.then]
    refine ub (zaa rfl _ _ w.heap.size 44 _ (0,0) _ rfl (((zai _ _ _ _ bT.out).alloc _).alloc _) Tryz.underlying44 rfl (by kernel_rfl)) rfl ?_;exact zaI ts i w _ _ _ 4 ⟨#[]⟩ 0 _ 2 2 (((zaq bp.out _ _ _ _ (tV _)).alloc (by simp;omega) _).alloc (by simp;omega) _) HO.out rfl
   ·have HO:Hid (O=some (.fn t u,ts.drop k2)):=wJ (HO.out.trans (by rw[ho];rfl))
    have HU:=wJ hr;clear ho hr;go_wp2_with fail
    try simp only[Exit.inBlock,Exit.then]
    refine ub (zaa rfl _ _ w.heap.size 44 _ (0,0) _ rfl (((zai _ _ _ _ bT.out).alloc _).alloc _) Tryz.underlying44 rfl (by kernel_rfl)) rfl ?_;refine za9 ts i w _ _ _ 4 ⟨#[]⟩ 0 (some ⟨w3.heap.size+1,0,none⟩) 2 2 (.fn t u) k2 (((zaq bp.out _ _ _ _ (tV _)).alloc (by simp;omega) _).alloc (by simp;omega) _) (by omega) iQ HO.out rfl ?_;have s3:=B3.out.size;simp at s3;refine zhX (K1:=K1) (X1:=X1) (Z1:=Z1) (A1:=A1) (m1:=m1) (c1:=c1) (K2:=K2) (X2:=X2) (Z2:=Z2) (A2:=A2) (m2:=m2) (c2:=c2) ?_ ?_ (by simp;omega) ?_
    ·exact HT.out.keep (λg hg=>by simp at hg ⊢;omega) (λg hg=>by
      simp at hg;rw[uc _ _ _ (by simp;omega),uc _ _ _ (by simp;omega),zan _ _ _ _ _ _ _ (by omega)]
      exact B13.out.block g hg.2)
    ·exact HU.out.keep (λg hg=>by simp at hg ⊢;omega) (λg hg=>by
      simp at hg;rw[uc _ _ _ (by simp;omega),uc _ _ _ (by simp;omega),zan _ _ _ _ _ _ _ (by omega)])
    ·intro j x hx
     have:=zao ((((((w3.setCell ⟨w.heap.size,0,none⟩ (.int .i64 4)).setCell ⟨w.heap.size,1,none⟩ (.string ⟨#[]⟩)).setCell ⟨w.heap.size,2,none⟩ (.int .i64 0)).setCell ⟨w.heap.size,3,none⟩ (.slice (some ⟨w3.heap.size+1,0,none⟩) 2 2))).alloc (.cells #[.int .i64 K2,.string X2,.int .i64 Z2,.slice A2 m2 c2] 44)) #[.int .i64 K1,.string X1,.int .i64 Z1,.slice A1 m1 c1,.int .i64 K2,.string X2,.int .i64 Z2,.slice A2 m2 c2] 44 (w3.heap.size+1) (by simp) j x hx;rw[zbs]at this
     exact this
end Go.Proofs.YtknkclefoiohpaaGreatDoor
namespace Go.Proofs.YtknkclefoiohpaaGreatDoor
open Go.RowKit Lx Tx
set_option maxRecDepth 100000
def ziB(i K0 b9:Nat)(V:List (List UInt8))(o:Option Ty)(w:World)(gg:Nat)(vj:Value)(wr:World):Prop :=
 ∃j K X Z A m c,gg=j-i/\vj=.int .i64 j/\i<=j/\j<K0/\Blk wr b9 44 #[.int .i64 K,.string X,.int .i64 Z,.slice A m c] /\
  Blk wr w.heap.size 44 #[.int .i64 0,.string ⟨#[]⟩,.int .i64 0,.slice none 0 0]/\Below w.heap.size w wr /\
  ∀t0,o=some t0->RdV (λg=>w.heap.size<g/\g<wr.heap.size/\g≠b9) wr (alls (V.drop (j-i)) t0) (.agg #[.int .i64 K,.string X,.int .i64 Z,.slice A m c])
theorem zgE(f:Nat)(ts:List Tok)(v:Value)(w:World)(i:Nat)(hv:RdT w v ts)(hn:ts.length<=100000)(hf:4*(ts.length-i)+4<=f+1)(hq:isAt ts i 3 wForall=true)
  (nH:∀(w:World)(i:Nat),RdT w v ts->i<=ts.length->4*(ts.length-i)+4<=f->Calls Tryz.prog 133 #[v,.int .i64 i] w (RPost ts i w (read f (ts.drop i)))):Calls Tryz.prog 133 #[v,.int .i64 i] w (RPost ts i w (read (f+1) (ts.drop i))):=by
 have ah:=zcT _ _ _ _ hq;have lT:∀w,RdT w v ts->Calls Tryz.prog 85 #[v,.int .i64 i,.int .i64 3,.string ⟨#[102,111,114,97,108,108]⟩] w λe w'=>e=.returned (.bool true)/\w=w':=by
  intro w hv;rw[<-hq]
  exact zcq _ ts i 3 ⟨#[102,111,114,97,108,108]⟩ 3 rfl w hv
 obtain⟨ob,oa,hv3,hv4⟩:=zo2 ts ts.length (i+1) (by omega) (by omega);have HO0:=znD f ts i hq _ rfl hv3;generalize hVe:(vars (ts.drop (i+1))).1=V at *;obtain⟨O,hO⟩:∃O,read (f+1) (ts.drop i)=O:=⟨_,rfl⟩;rw[hO]
 rw[hO]at HO0
 obtain⟨K0,hK0⟩:∃K0,i+1+V.length=K0:=⟨_,rfl⟩;rw[hK0]at oa hv4 HO0
 have HO:=wJ HO0;have HV1:Hid (∀k,i+1<=k->k<K0->∃h:k<ts.length,ts[k].kind=1/\ts[k].text=V.getD (k-(i+1)) []):=by
  refine wJ λk h1 h2=>?_;obtain⟨d,rfl⟩:∃d,k=i+1+d:=⟨k-(i+1),by omega⟩;obtain⟨h,e1,e2⟩:=ob d (by omega);exact⟨h,e1,by rw[e2,vt,wH,ug (by omega)];rfl⟩
 have HV4:=wJ hv4;have oZ:=wJ hK0;have hKi:i+1<=K0:=by omega
 obtain⟨q,cf⟩:∃q,isAt ts K0 6 [46]=q:=⟨_,rfl⟩;have HQ:=wJ cf;have iX:∀w,RdT w v ts->Calls Tryz.prog 85 #[v,.int .i64 K0,.int .i64 6,.string ⟨#[46]⟩] w λe w'=>e=.returned (.bool q)/\w=w':=by
  intro w hv;rw[<-cf]
  exact zcq _ ts K0 6 ⟨#[46]⟩ 6 rfl w hv
 clear HO0 hVe ob hv3 hv4 hO hq cf hK0;obtain⟨g,c,rfl,_,_,_⟩:=hv.at_ i ah;have aV:=hv.lt (by omega);obtain⟨n,hN⟩:∃n,ts.length=n:=⟨_,rfl⟩;have HN:=wJ hN;rw[hN]at hv lT iX hn hf ah oa nH ⊢
 have HV:=wJ hv;have HR:=wJ nH;clear hN nH hv;go_enter Tryz.func133,Tryz.ntmps133
 go_wp2_with (go_at_call 85;refine(lT _ (HV.out.alloc _)).mono ?_;rintro e w2 ⟨rfl,rfl⟩)
 go_loopg [7] (K0-(i+1)) (λgg vk wr=>∃k:Nat,gg=K0-k/\vk=.int .i64 k/\wr=w.alloc (.cells #[.int .i64 0,.string ⟨#[]⟩,.int .i64 0,.slice none 0 0] 44)/\i+1<=k/\k<=K0)
 case atStart=>exact⟨i+1,rfl,by go_num,rfl,by omega,hKi⟩
 case round =>
  obtain⟨k,rfl,rfl,rfl,ny,ie⟩:=hrel;by_cases nw:k<K0
  ·obtain⟨bg,e1,-⟩:=HV1.out k ny nw
   have e0:=(HV.out.cells k bg).1;rw[e1]at e0
   have e0:w.cell? ⟨g,k*3,none⟩=some (.int .i64 1):=e0;have nv:k<n:=by omega
   clear e1 bg;go_wp2_with fail
   go_roundg (K0-(k+1))
   case measure=>omega
   case rel=>exact⟨k+1,rfl,by go_num,rfl,by omega,by omega⟩
  ·obtain rfl:k=K0:=by omega
   by_cases bg:k<n
   ·have nv:k<ts.length:=by rw[HN.out];exact bg
    have e0:=(HV.out.cells k nv).1;obtain⟨m,hm⟩:∃m,ts[k].kind=m:=⟨_,rfl⟩;have d1:=kF m 1 (by rw[<-hm];exact HV4.out nv);rw[hm]at e0
    clear hm nv;cases q
    ·have HO:Hid (O=none):=wJ (HO.out.trans (by rw[HQ.out];simp))
     go_wp2_with (go_at_call 85;refine(iX _ (HV.out.alloc _)).mono ?_;rintro e w2 ⟨rfl,rfl⟩)
     try simp only[Exit.inBlock,Exit.then]
     refine ub (zaa rfl _ _ w.heap.size 44 _ (0,0) _ rfl (tW _ _) Tryz.underlying44 rfl (by kernel_rfl)) rfl ?_;exact zaI ts i w _ _ _ 0 ⟨#[]⟩ 0 none 0 0 ((ua _ w).alloc (tV _) _) HO.out rfl
    ·by_cases hki:k=i+1
     ·have dk:((k:Int) ==(i:Int)+1)=true:=by simp;omega
      have sF:V=[]:=by cases V with|nil=>rfl|cons a b=>have:=oZ.out;simp at this;omega
      have HO:Hid (O=none):=wJ (HO.out.trans (by rw[ud sF]));clear sF hki;go_wp2_with (go_at_call 85;refine(iX _ (HV.out.alloc _)).mono ?_;rintro e w2 ⟨rfl,rfl⟩)
      try simp only[Exit.inBlock,Exit.then]
      refine ub (zaa rfl _ _ w.heap.size 44 _ (0,0) _ rfl (tW _ _) Tryz.underlying44 rfl (by kernel_rfl)) rfl ?_;exact zaI ts i w _ _ _ 0 ⟨#[]⟩ 0 none 0 0 ((ua _ w).alloc (tV _) _) HO.out rfl
     ·have dk:((k:Int) ==(i:Int)+1)=false:=by rw[uY];intro h;simp at h;omega
      have sF:V≠[]:=by intro e;have:=oZ.out;rw[e]at this;simp at this;omega
      have HO:Hid (O=(read f (ts.drop (k+1))).map λx=>(alls V x.1,x.2)):=wJ (HO.out.trans (by rw[ue sF,HQ.out,ud rfl]));clear sF;go_wp2_with (go_at_call 85;refine(iX _ (HV.out.alloc _)).mono ?_;rintro e w2 ⟨rfl,rfl⟩)
      refine(HR.out _ (k+1) (HV.out.alloc _) (by omega) (by omega)).mono ?_;rintro e w1 ⟨b1,K1,X1,Z1,A1,m1,c1,aB⟩;have aK:Blk w1 w.heap.size 44 #[.int .i64 0,.string ⟨#[]⟩,.int .i64 0,.slice none 0 0]:=Blk.below (tW _ _) b1 (by simp);have bT:=wJ aK;have B1:=wJ b1;have ax:=aK.lt;clear aK b1;rcases aB with⟨ho,rfl⟩|⟨t,k2,ie,iQ,ho,rfl,hr⟩
      ·have HO:Hid (O=none):=wJ (HO.out.trans (by rw[ho];rfl))
       clear ho;go_wp2_with fail
       go_loopg [11] (k-1-i) (λgg vj wr=>ziB i k w1.heap.size V none w gg vj wr)
       case atStart =>
        refine⟨k-1,K1,X1,Z1,A1,m1,c1,by omega,by go_num,by omega,by omega,tW _ _,bT.out.alloc _,(zaW B1.out (tV _)).alloc (by omega) _,?_⟩;intro t0 h;exact absurd h (by simp)
       case round =>
        obtain⟨j,K,X,Z,A,mm,cc,rfl,rfl,hij,hjK,lb,aK,bp,aq⟩:=hrel;obtain⟨p0,p1,p2,p3,s0,s1,s2,s3,ic⟩:=zae lb;obtain⟨a0,a1,a2,a3,r0,r1,r2,r3,fL⟩:=zae aK;have tO:=wJ lb;have bT:=wJ aK;have aW:=wJ bp;have bD:=wJ aq;have kZ:g<wr.heap.size:=by have:=bp.size;omega
        clear lb aK aq;by_cases hji:i<j
        ·obtain⟨nz,-,rY⟩:=HV1.out j (by omega) (by omega)
         obtain⟨-,e1⟩:=(HV.out.below bp).cells j nz;obtain⟨Y,hY⟩:∃Y:ByteArray,⟨ts[j].text.toArray⟩=Y:=⟨_,rfl⟩;rw[hY]at e1
         have HY:Hid (Y=⟨(V.getD (j-(i+1)) []).toArray⟩):=wJ (by rw[<-hY,rY]);have hjn':j<n:=by omega
         clear bp rY hY nz;go_wp2_with fail
         go_region
         go_wp2_with fail
         go_roundg (j-1-i)
         case measure=>omega
         case rel =>
          have aG:=aW.out.size;have h9:w.heap.size<w1.heap.size:=ax;refine⟨j-1,5,Y,0,some ⟨wr.heap.size,0,none⟩,1,1,by omega,by go_num,by omega,by omega,((zai _ _ _ _ tO.out).alloc _).drew,((zfb (by omega) bT.out).alloc _).drew,((zaq aW.out _ _ _ _ (by omega)).alloc (by simp;omega) _).drew,λt0 h=>?_⟩;rw[zeu V (j-1-i) t0 (by have:=oZ.out;omega),show j-1-i+1=j-i by omega]
          refine zet (w:=wr) (by rw[HY.out,show j-1-i=j-(i+1) by omega]) (bD.out t0 h) (λg hg=>?_) (λg hg=>?_) ?_ ?_
          ·have:=hg.2.1
           exact⟨hg.1,by simp;omega,hg.2.2⟩
          ·exact(uc _ _ _ (by simp;exact hg.2.1)).trans (zan _ _ _ _ _ _ _ hg.2.2)
          ·exact⟨by omega,by simp,by omega⟩
          ·intro d u hu
           have:=zao ((((wr.setCell ⟨w1.heap.size,0,none⟩ (.int .i64 5)).setCell ⟨w1.heap.size,1,none⟩ (.string Y)).setCell ⟨w1.heap.size,2,none⟩ (.int .i64 0)).setCell ⟨w1.heap.size,3,none⟩ (.slice (some ⟨wr.heap.size,0,none⟩) 1 1)) #[.int .i64 K,.string X,.int .i64 Z,.slice A mm cc] 44 wr.heap.size (by simp) d u hu;rw[zbs]at this
           exact this
        ·clear bp
         go_wp2_with fail
         try simp only[Exit.inBlock,Exit.then]
         refine ub (zaa rfl _ _ w.heap.size 44 _ (0,0) _ rfl (zai _ _ _ _ bT.out) Tryz.underlying44 rfl (by kernel_rfl)) rfl ?_;exact zaI ts i w _ _ _ K X Z A mm cc (zaq aW.out _ _ _ _ (tV _)) HO.out rfl
      ·have HO:Hid (O=some (alls V t,ts.drop k2)):=wJ (HO.out.trans (by rw[ho];rfl))
       have HT:=wJ hr;clear ho hr;go_wp2_with fail
       go_loopg [11] (k-1-i) (λgg vj wr=>ziB i k w1.heap.size V (some t) w gg vj wr)
       case atStart =>
        refine⟨k-1,K1,X1,Z1,A1,m1,c1,by omega,by go_num,by omega,by omega,tW _ _,bT.out.alloc _,(zaW B1.out (tV _)).alloc (by omega) _,?_⟩;intro t0 h;injection h with h;subst h;rw[uD (by have:=oZ.out;omega)]
        exact HT.out.keep (λg hg=>by simp at hg ⊢;omega) (λg hg=>uc _ _ _ hg.2)
       case round =>
        obtain⟨j,K,X,Z,A,mm,cc,rfl,rfl,hij,hjK,lb,aK,bp,aq⟩:=hrel;obtain⟨p0,p1,p2,p3,s0,s1,s2,s3,ic⟩:=zae lb;obtain⟨a0,a1,a2,a3,r0,r1,r2,r3,fL⟩:=zae aK;have tO:=wJ lb;have bT:=wJ aK;have aW:=wJ bp;have bD:=wJ aq;have kZ:g<wr.heap.size:=by have:=bp.size;omega
        clear lb aK aq;by_cases hji:i<j
        ·obtain⟨nz,-,rY⟩:=HV1.out j (by omega) (by omega)
         obtain⟨-,e1⟩:=(HV.out.below bp).cells j nz;obtain⟨Y,hY⟩:∃Y:ByteArray,⟨ts[j].text.toArray⟩=Y:=⟨_,rfl⟩;rw[hY]at e1
         have HY:Hid (Y=⟨(V.getD (j-(i+1)) []).toArray⟩):=wJ (by rw[<-hY,rY]);have hjn':j<n:=by omega
         clear bp rY hY nz;go_wp2_with fail
         go_region
         go_wp2_with fail
         go_roundg (j-1-i)
         case measure=>omega
         case rel =>
          have aG:=aW.out.size;have h9:w.heap.size<w1.heap.size:=ax;refine⟨j-1,5,Y,0,some ⟨wr.heap.size,0,none⟩,1,1,by omega,by go_num,by omega,by omega,((zai _ _ _ _ tO.out).alloc _).drew,((zfb (by omega) bT.out).alloc _).drew,((zaq aW.out _ _ _ _ (by omega)).alloc (by simp;omega) _).drew,λt0 h=>?_⟩;rw[zeu V (j-1-i) t0 (by have:=oZ.out;omega),show j-1-i+1=j-i by omega]
          refine zet (w:=wr) (by rw[HY.out,show j-1-i=j-(i+1) by omega]) (bD.out t0 h) (λg hg=>?_) (λg hg=>?_) ?_ ?_
          ·have:=hg.2.1
           exact⟨hg.1,by simp;omega,hg.2.2⟩
          ·exact(uc _ _ _ (by simp;exact hg.2.1)).trans (zan _ _ _ _ _ _ _ hg.2.2)
          ·exact⟨by omega,by simp,by omega⟩
          ·intro d u hu
           have:=zao ((((wr.setCell ⟨w1.heap.size,0,none⟩ (.int .i64 5)).setCell ⟨w1.heap.size,1,none⟩ (.string Y)).setCell ⟨w1.heap.size,2,none⟩ (.int .i64 0)).setCell ⟨w1.heap.size,3,none⟩ (.slice (some ⟨wr.heap.size,0,none⟩) 1 1)) #[.int .i64 K,.string X,.int .i64 Z,.slice A mm cc] 44 wr.heap.size (by simp) d u hu;rw[zbs]at this
           exact this
        ·clear bp
         go_wp2_with fail
         try simp only[Exit.inBlock,Exit.then]
         refine ub (zaa rfl _ _ w.heap.size 44 _ (0,0) _ rfl (zai _ _ _ _ bT.out) Tryz.underlying44 rfl (by kernel_rfl)) rfl ?_;obtain rfl:i=j:=by omega
         have hr:=bD.out t rfl;rw[Nat.sub_self,vS]at hr
         refine za9 ts i w _ _ _ K X Z A mm cc (alls V t) k2 (zaq aW.out _ _ _ _ (tV _)) (by omega) iQ HO.out rfl ?_;exact hr.keep (λg hg=>by simp at hg ⊢;omega) (λg hg=>zan _ _ _ _ _ _ _ (by omega))
   ·cases q
    ·have HO:Hid (O=none):=wJ (HO.out.trans (by rw[HQ.out];simp))
     go_wp2_with (go_at_call 85;refine(iX _ (HV.out.alloc _)).mono ?_;rintro e w2 ⟨rfl,rfl⟩)
     try simp only[Exit.inBlock,Exit.then]
     refine ub (zaa rfl _ _ w.heap.size 44 _ (0,0) _ rfl (tW _ _) Tryz.underlying44 rfl (by kernel_rfl)) rfl ?_;exact zaI ts i w _ _ _ 0 ⟨#[]⟩ 0 none 0 0 ((ua _ w).alloc (tV _) _) HO.out rfl
    ·exact absurd (zcT _ _ _ _ HQ.out) (by rw[HN.out];exact bg)
theorem zl7(ts:List Tok)(v:Value)(hg:AllG ts)(hn:ts.length<=100000)(f:Nat):∀f1,f1<=f ->
  (∀(w:World)(i:Nat),RdT w v ts->i<=ts.length->4*(ts.length-i)+4<=f1->Calls Tryz.prog 133 #[v,.int .i64 i] w (RPost ts i w (read f1 (ts.drop i)))) /\
  (∀(w:World)(i:Nat),RdT w v ts->i<=ts.length->4*(ts.length-i)+3<=f1->Calls Tryz.prog 167 #[v,.int .i64 i] w (RPost ts i w (app f1 (ts.drop i)))) /\
  (∀(w:World)(i:Nat),RdT w v ts->i<=ts.length->4*(ts.length-i)+2<=f1->Calls Tryz.prog 187 #[v,.int .i64 i] w (RPost ts i w (atom f1 (ts.drop i)))):=by
 induction f with
 |zero =>
  intro f1 h;exact⟨λw i _ _ h2=>by omega,λw i _ _ h2=>by omega,λw i _ _ h2=>by omega⟩
 |succ f ih =>
  intro f1 h1;by_cases h:f1<=f
  ·exact ih f1 h
  ·obtain rfl:f1=f+1:=by omega
   have i0:=ih f (tV _);refine⟨λw i hv hi hf=>?_,λw i hv hi hf=>?_,λw i hv hi hf=>?_⟩
   ·cases hq:isAt ts i 3 wForall with
    |true=>exact zgE f ts v w i hv hn hf hq i0.1
    |false=>exact zgD f ts v w i hv hn hi hf hq i0.2.1 i0.1
   ·exact zl6 f ts v w i hv hn hi hf (λf1 h=>(ih f1 h).2.2)
   ·exact zkq f ts v w i hv hg hn hi hf i0.1
end Go.Proofs.YtknkclefoiohpaaGreatDoor
