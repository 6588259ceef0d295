import Derived.Test.YtfafilmklhnngaaGreatDoorBkM
import Derived.Laws.IdiomStrings
import Derived.Deep.RegionWith
import Derived.Deep.RegionHeld3
import Derived.Deep.AppendLies
set_option maxHeartbeats 12800000
namespace Go.Proofs.YtfafilmklhnngaaGreatDoor
open Go.RowKit Lx Tx
set_option maxRecDepth 100000
theorem zeb {a b:ByteArray}(h:a=b):Ending.returned (.string a)=.returned (.string b):=by rw[h]
theorem zlJ(l:List UInt8)(b:UInt8):((⟨l.toArray⟩:ByteArray)++(⟨#[b]⟩:ByteArray))=⟨(l++[b]).toArray⟩:=by
 apply ByteArray.ext
 simp
theorem zjq(l:List Ty)(t:Ty):zaG (l++[t])=zaG l++(if t.big then 32::40::(t.print++[41]) else 32::t.print):=by
 induction l with
 |nil=>simp[zaG]
 |cons a r ih=>rw[AE,zaG,zaG,ih];simp
theorem zjr(l:List Ty)(i:Nat)(hi:i<l.length):zaG (l.take (i+1))=zaG (l.take i)++(if l[i].big then 32::40::(l[i].print++[41]) else 32::l[i].print):=by
 rw[zb5 l i hi,zjq]
theorem zgF(l:List Ty)(i:Nat):(zaG (l.take i)).length<=(zaG l).length:=by
 induction l generalizing i with
 |nil=>simp
 |cons t r ih =>
  cases i with
  |zero=>simp[zaG]
  |succ i=>rw[AZ,zaG,zaG];have:=ih i;simp;omega
theorem zcH {t:Ty}(h:Nm t)(i:Nat)(hi:i<(kids t).length):Nm (kids t)[i]:=by
 cases h with
 |var x _=>simp[kids]at hi
 |mt n _=>simp[kids]at hi
 |con c l _ hl=>exact hl _ (Bd hi)
 |fn a b ha hb =>
  match i,hi with
  |0,_=>exact ha
  |1,_=>exact hb
  |i+2,hi=>exact absurd hi (by simp[kids])
 |all x t _ ht =>
  match i,hi with
  |0,_=>exact ht
  |i+1,hi=>simp[kids]at hi
theorem zce {S:Nat->Prop} {w w':World} {t:Ty} {A:Option Addr} {i m:Nat}(h:Args S w t A)(hm:(kids t).length=m)(hi:i<m)(hk:∀g,S g->w'.heap[g]?=w.heap[g]?):∃g u K X Z A1 n1 c1,A=some ⟨g,0,none⟩/\S g/\w'.cell? ⟨g,i*4,none⟩=some (.int .i64 K)/\w'.cell? ⟨g,i*4+1,none⟩=some (.string X)/\w'.cell? ⟨g,i*4+2,none⟩=some (.int .i64 Z) /\
   w'.cell? ⟨g,i*4+3,none⟩=some (.slice A1 n1 c1)/\(∃hi:i<(kids t).length,(kids t)[i]=u)/\RdV S w' u (.agg #[.int .i64 K,.string X,.int .i64 Z,.slice A1 n1 c1])/\u.size<t.size/\K=(kd u:Nat)/\n1=(kids u).length:=by
 subst hm;obtain⟨g,h1,h2,A1,c1,h3,h4⟩:=h.kid i hi;obtain⟨e0,e1,e2,e3⟩:=h3.keep (hk g h2);exact⟨g,(kids t)[i],_,_,_,A1,_,c1,h1,h2,e0,e1,e2,e3,⟨hi,rfl⟩,⟨A1,c1,rfl,h4.keep (λ_ h=>h) hk⟩,zc9 t i hi,rfl,rfl⟩
theorem zdG {S:Nat->Prop} {w:World} {u:Ty} {A:Option Addr} {c g o:Nat}(h:Cell4 w u A c g o)(ha:Args S w u A):∃K X Z n,w.cell? ⟨g,o,none⟩=some (.int .i64 K)/\w.cell? ⟨g,o+1,none⟩=some (.string X)/\w.cell? ⟨g,o+2,none⟩=some (.int .i64 Z)/\w.cell? ⟨g,o+3,none⟩=some (.slice A n c) /\
   RdV S w u (.agg #[.int .i64 K,.string X,.int .i64 Z,.slice A n c])/\K=(kd u:Nat)/\n=(kids u).length :=
 ⟨_,_,_,_,h.1,h.2.1,h.2.2.1,h.2.2.2,⟨A,c,rfl,ha⟩,rfl,rfl⟩
theorem znz {S:Nat->Prop} {w:World} {y:List UInt8} {u:Ty} {K Z:Int} {X:ByteArray} {A:Option Addr} {m c:Nat}(h:RdV S w (.all y u) (.agg #[.int .i64 K,.string X,.int .i64 Z,.slice A m c])):K=5/\X=⟨y.toArray⟩/\m=1/\∃g,A=some ⟨g,0,none⟩/\S g/\∃K1 X1 Z1 A1 n1 c1,w.cell? ⟨g,0,none⟩=some (.int .i64 K1)/\w.cell? ⟨g,1,none⟩=some (.string X1)/\w.cell? ⟨g,2,none⟩=some (.int .i64 Z1)/\w.cell? ⟨g,3,none⟩=some (.slice A1 n1 c1) /\
   RdV S w u (.agg #[.int .i64 K1,.string X1,.int .i64 Z1,.slice A1 n1 c1]):=by
 obtain⟨A',c',hv,ha⟩:=h;injection hv with hv;have hv:=Az Array.toList hv;simp only[BB,Value.int.injEq,Value.string.injEq,Value.slice.injEq,and_true,true_and]at hv;obtain⟨rfl,rfl,rfl,rfl,rfl,rfl⟩:=hv;rw[Args]at ha
 obtain⟨g,rfl,hg,A1,c1,h1,r1⟩:=ha;obtain⟨K1,X1,Z1,n1,e0,e1,e2,e3,rd1,-,-⟩:=zdG h1 r1;exact⟨rfl,rfl,rfl,g,rfl,hg,K1,X1,Z1,A1,n1,c1,e0,e1,e2,e3,rd1⟩
theorem alloc_at(w:World)(o:Obj)(g:Nat)(hg:g=w.heap.size):(w.alloc o).heap[g]?=some o:=by
 subst hg;exact heap_alloc_new w o
theorem znA(l:List Nat):∀u∈intV l,u.oneCell'=true:=by
 intro u hu;obtain⟨x,_,rfl⟩:=AM.1 hu;rfl
set_option maxRecDepth 100000
theorem zlq(W:World)(x:Int)(b:UInt8)(hx:x=b.toNat):(convert 126 9 (.slice (some ⟨W.heap.size,0,none⟩) 1 1)).run Tryz.prog (W.alloc (.cells #[.int .u8 x] 5))=.ok (.string ⟨#[b]⟩) (W.alloc (.cells #[.int .u8 x] 5)):=by
 subst hx;refine run_convert_bytes_back (W.alloc (.cells #[.int .u8 (b.toNat:Int)] 5)) 126 9 5 ⟨W.heap.size,0,none⟩ 1 [b] Tryz.underlying126 Tryz.underlying5 Tryz.underlying9 ?_;intro j hj;simp at hj;subst hj;rw[show(⟨W.heap.size,0,none⟩:Addr).add 0=⟨W.heap.size,0,none⟩ from rfl,cell_of_row _ _ _ _ 5 (0,0) (heap_alloc_new _ _)]
 rfl
theorem zlr(W:World)(g:Nat)(x:Int)(b:UInt8)(hx:x=b.toNat)(hc:W.cell? ⟨g,0,none⟩=some (.int .u8 x)):(convert 126 9 (.slice (some ⟨g,0,none⟩) 1 1)).run Tryz.prog W=.ok (.string ⟨#[b]⟩) W:=by
 subst hx;refine run_convert_bytes_back W 126 9 5 ⟨g,0,none⟩ 1 [b] Tryz.underlying126 Tryz.underlying5 Tryz.underlying9 ?_;intro j hj;simp at hj;subst hj;rw[show(⟨g,0,none⟩:Addr).add 0=⟨g,0,none⟩ from rfl]
 exact hc
theorem zls(f:Nat):∀(n:Nat)(w:World),n<10 ^ f->n<10 ^ 18->1<=f->f<=20 ->
  Calls Tryz.prog 26 #[.int .i64 n] w λe w'=>e=.returned (.string ⟨(decF f n).toArray⟩)/\Below w.heap.size w w':=by
 induction f with
 |zero=>intro n w _ _ h;omega
 |succ f ih =>
  intro n w hn h18 _ hf20;by_cases eP:n<10
  ·have xV:=λW=>zlq W (48+(n:Int)) (digit n) (by rw[zcK];omega)
   have hd:=CS (show decF (f+1) n=[digit n] by rw[decF,Aq eP]);clear ih hn;go_enter Tryz.func26,Tryz.ntmps26
   go_wp2_with fail
   go_ret
   exact⟨zeb (by rw[hd.out]),(Below.refl _ _).alloc (Ai _) _⟩
  ·obtain⟨m,hm⟩:∃m,n / 10=m:=⟨_,rfl⟩
   obtain⟨d,hd0⟩:∃d,n % 10=d:=⟨_,rfl⟩;have hd:=CS (show decF (f+1) n=decF f m++[digit n] by rw[decF,Am eP,hm]);have hf:1<=f:=by
    rcases Nat.eq_zero_or_pos f with e|e
    ·subst e;simp at hn;omega
    ·exact e
   have xV:=λW g=>zlr W g (48+(d:Int)) (digit n) (by rw[zcK,hd0];omega);have IH:=λw=>ih m w (by rw[CQ]at hn;omega) (by omega) hf (by omega);have hlen:(decF f m).length<=20:=zdj f 20 m (by omega) (by omega);obtain⟨D,hD⟩:∃D:ByteArray,⟨(decF f m).toArray⟩=D:=⟨_,rfl⟩;have hDz:D.size<=20:=by rw[<-hD];exact hlen
   rw[hD]at IH
   have HD:=CS hD;have q1:IntKind.i64.wrap ((n:Int) / 10)=(m:Int):=by rw[IntWalk.i64_in _ (by omega)];omega
   have q2:(n:Int).tmod 10=(d:Int):=by rw[Int.tmod_eq_emod_of_nonneg (by omega)];omega
   have q3:IntKind.i64.wrap (48+(d:Int))=48+(d:Int):=IntWalk.i64_in _ (by omega);have q4:IntKind.u8.wrap (48+(d:Int))=48+(d:Int):=by simp[IntKind.wrap,IntKind.signed,IntKind.bits];omega
   have hd9:d<=9:=by omega
   clear ih hn hD hlen hm hd0;go_enter Tryz.func26,Tryz.ntmps26
   go_wp2_with fail
   go_region_with (go_at_call 26;(with_reducible refine(IH _).mono ?_);rintro e w1 ⟨rfl,b1⟩;have B1:=CS b1;(try have hc:w1.cell? ⟨w.heap.size,0,none⟩=some (.int .u8 (48+(d:Int))):=(b1.cell (p:=⟨w.heap.size,0,none⟩) (by simp)).trans (cell_of_row _ _ _ _ _ _ (heap_alloc_new _ _)));clear b1)
   all_goals (go_wp2_with fail;go_ret)
   ·have B:Below w.heap.size w w1:=(Below.refl w.heap.size w).drew.trans B1.out
    exact⟨zeb (by rw[hd.out,<-HD.out,zlJ]),B.alloc B.size _⟩
   all_goals
    have B:Below w.heap.size w w1:=((Below.refl w.heap.size w).alloc (Ai _) _).drew.trans (B1.out.mono (by simp));exact⟨zeb (by rw[hd.out,<-HD.out,zlJ]),B⟩
theorem zh6(n:Nat)(w:World)(h:n<10 ^ 18):Calls Tryz.prog 26 #[.int .i64 n] w λe w'=>e=.returned (.string ⟨(dec n).toArray⟩)/\Below w.heap.size w w' :=
 zls 20 n w (by omega) h (by omega) (by omega)
set_option maxRecDepth 100000
theorem zc1(v:Value)(ts:List Tok)(i K:Nat)(X:ByteArray)(k:Int)(hkK:k=K)(w:World)(h:RdT w v ts):Calls Tryz.prog 97 #[v,.int .i64 i,.int .i64 k,.string X] w λe w'=>e=.returned (.bool (isAt ts i K X.data.toList))/\w=w':=by
 subst hkK;obtain⟨R,hR⟩:∃R,isAt ts i K X.data.toList=R:=⟨_,rfl⟩;rw[hR]
 by_cases hi:i<ts.length
 ·obtain⟨g,c,rfl,h0,h1,h2⟩:=h.at_ i hi
  rw[zdR ts i K _ hi]at hR
  obtain⟨T,hT⟩:∃T:ByteArray,⟨ts[i].text.toArray⟩=T:=⟨_,rfl⟩;have yq:ts[i].text=T.data.toList:=by rw[<-hT]
  obtain⟨m,hm⟩:∃m,ts[i].kind=m:=⟨_,rfl⟩;rw[hT]at h1
  rw[hm]at h0 hR
  rw[yq]at hR
  clear h2 hT yq hm h;obtain⟨n,hn⟩:∃n,ts.length=n:=⟨_,rfl⟩;rw[hn]at hi ⊢
  clear hn;by_cases hk:m=K
  ·have dk:=kT m K hk
   by_cases hx:X=⟨#[]⟩
   ·have dx:X.toList.isEmpty=true:=by rw[hx,Lib.toList_data];rfl
    have hr:=CS (show R=true by rw[<-hR,hx,hk];simp);clear hk hx hR;go_enter Tryz.func97,Tryz.ntmps97
    go_wp2
    go_ret
    exact⟨zax hr.out.symm,rfl⟩
   ·have eH:X.data.toList≠[]:=λe=>hx (ByteArray.ext (by simpa using e))
    have dx:X.toList.isEmpty=false:=by rw[Lib.toList_data];cases hz:X.data.toList with|nil=>exact absurd hz eH|cons a b=>rfl
    by_cases he:T=X
    ·have dt:=strT T X he
     have hr:=CS (show R=true by rw[<-hR,he,hk];simp);clear hk hx eH he hR;go_enter Tryz.func97,Tryz.ntmps97
     go_wp2
     go_ret
     exact⟨zax hr.out.symm,rfl⟩
    ·have dt:=strF T X he
     have he':¬T.data.toList=X.data.toList:=λe=>he (ByteArray.ext (by simpa using e));have hr:=CS (show R=false by rw[<-hR,hk,AF.2 eH,AF.2 he'];simp);clear hk hx eH he he' hR;go_enter Tryz.func97,Tryz.ntmps97
     go_wp2
     go_ret
     exact⟨zax hr.out.symm,rfl⟩
  ·have dk:=kF m K hk
   have hr:=CS (show R=false by rw[<-hR];simp[hk]);clear hk hR;go_enter Tryz.func97,Tryz.ntmps97
   go_wp2
   go_ret
   exact⟨zax hr.out.symm,rfl⟩
 ·rw[zea ts i K _ (by omega)]at hR
  obtain⟨A,c,rfl,_⟩:=h;obtain⟨n,hn⟩:∃n,ts.length=n:=⟨_,rfl⟩;rw[hn]at hi ⊢
  clear hn;have hr:=CS hR;clear hR;go_enter Tryz.func97,Tryz.ntmps97
  go_wp2
  go_ret
  exact⟨zax hr.out,rfl⟩
theorem zji(s:ByteArray)(w:World)(hd:∀c∈s.data.toList,isDig c=true)(hs:s.size<=6):Calls Tryz.prog 183 #[.string s] w λe w'=>e=.returned (.int .i64 (numOf s.data.toList:Nat))/\w=w':=by
 obtain⟨R,hR⟩:∃R,numOf s.data.toList=R:=⟨_,rfl⟩;have HR:=CS hR;have HD:=CS hd;rw[hR]
 clear hR hd;go_enter Tryz.func183,Tryz.ntmps183
 go_wp2
 go_loopg [3,4] s.size (λgg vn v wr=>∃k n:Nat,gg=s.size-k/\vn=.int .i64 n/\v=.int .i64 k/\wr=w/\k<=s.size/\n<1000000/\Hid (numOf (s.data.toList.take k)=n))
 case atStart=>exact⟨0,0,rfl,rfl,rfl,rfl,by omega,by omega,CS rfl⟩
 case round =>
  obtain⟨k,n,rfl,rfl,rfl,rfl,hk,hn6,hn⟩:=hrel;by_cases ah:k<s.size
  ·have gK:k<s.data.toList.length:=by rw[<-Lib.size_eq];exact ah
   have hdg:isDig s[k]=true:=HD.out _ (by rw[show s[k]=s.data.toList[k] from rfl];exact Bd _);have h48:48<=s[k].toNat:=by simp[isDig]at hdg;exact hdg.1
   obtain⟨d,hd⟩:∃d,s[k].toNat-48=d:=⟨_,rfl⟩;have fG:s[k].toNat<256:=s[k].toNat_lt;have q1:IntKind.u8.wrap ((s[k].toNat:Int)-48)=(d:Int):=by simp[IntKind.wrap,IntKind.signed,IntKind.bits];omega
   have hr:Hid (numOf (s.data.toList.take (k+1))=10*n+d):=CS (by rw[zb5 _ k gK,zgc,hn.out,<-hd];rfl);have xg:10*n+d<1000000:=by
    rw[<-hr.out]
    refine As (ziK _ (λc hc=>HD.out c (List.mem_of_mem_take hc))) ?_;rw[Bc]
    exact AB (Nat.pow_le_pow_right (by omega) (show min (k+1) s.data.toList.length<=6 by omega)) (by decide)
   have hd8:d<256:=by omega
   clear hdg hd fG;go_wp2
   go_roundg (s.size-(k+1))
   case measure=>omega
   case rel=>exact⟨k+1,10*n+d,rfl,by go_num,by go_num,rfl,by omega,xg,hr⟩
  ·have hr:=CS (show n=R by rw[<-HR.out,<-hn.out,AK (by rw[<-Lib.size_eq];omega)])
   go_wp2
   go_ret
   exact⟨zaQ (by rw[hr.out]),rfl⟩
end Go.Proofs.YtfafilmklhnngaaGreatDoor
namespace Go.Proofs.YtfafilmklhnngaaGreatDoor
open Go.RowKit Lx Tx
set_option maxRecDepth 100000
mutual
def cntN:Ty->Nat
 |.var _=>1
 |.mt _=>1
 |.con _ l=>za3 l
 |.fn a b=>cntN a+(cntN b+0)
 |.all _ t=>cntN t+0
def za3:List Ty->Nat
 |[]=>0
 |t::r=>cntN t+za3 r
end
theorem ziW(t:Ty):cntN t=za3 (kids t)+if(((kd t:Nat):Int)==1) ||(((kd t:Nat):Int)==2) then 1 else 0:=by
 cases t <;> simp[cntN,za3,kids,kd]
theorem ze0:(l r:List Ty)->za3 (l++r)=za3 l+za3 r
 |[],r=>by rw[AL,za3];omega
 |t::l,r=>by rw[AE,za3,za3,ze0 l r];omega
theorem zok {l:List Ty} {i:Nat} {u:Ty}(h:l[i]?=some u):za3 (l.take (i+1))=za3 (l.take i)+cntN u/\za3 (l.take (i+1))<=za3 l:=by
 refine⟨?_,?_⟩
 ·rw[B8,h,ze0]
  show _+(cntN u+0)=_;omega
 ·have:=ze0 (l.take (i+1)) (l.drop (i+1))
  rw[List.take_append_drop]at this
  omega
theorem ziX(n:Nat)(ih:∀t:Ty,t.size<=n->cntN t<=t.size):(l:List Ty)->zaf l<=n->za3 l<=zaf l
 |[],_=>Ai _
 |t::r,h=>by
  rw[zaf]at h ⊢
  rw[za3]
  have h1:=ih t (by omega);have h2:=ziX n ih r (by omega);omega
theorem zfM(n:Nat):∀t:Ty,t.size<=n->cntN t<=t.size:=by
 induction n with
 |zero=>intro t h;rw[zaj]at h;omega
 |succ n ih =>
  intro t h;have hk:=zaj t;have hl:=ziX n ih (kids t) (by omega);have hn:=ziW t;split at hn <;> omega
theorem zgp(n:Nat):∀(t:Ty)(S:Nat->Prop)(v:Value)(w:World),t.size<=n->n<=1000000->RdV S w t v->(∀g,S g->g<w.heap.size) ->
  Calls Tryz.prog 31 #[v] w λe w'=>e=.returned (.int .i64 (cntN t:Nat))/\Below w.heap.size w w':=by
 induction n with
 |zero=>intro t S v w h;rw[zaj]at h;omega
 |succ n ih =>
  intro t S v w hn h5 hv hS;obtain⟨K,X,Z,A,m,c,rfl,hK,-,-,hm,ha⟩:=hv.parts;obtain⟨R,hR⟩:∃R,cntN t=R:=⟨_,rfl⟩;obtain⟨q1,uS⟩:∃q,(K==1)=q:=⟨_,rfl⟩;obtain⟨q2,lQ⟩:∃q,(K==2)=q:=⟨_,rfl⟩;obtain⟨a0,ha0⟩:∃a,(if q1||q2 then 1 else 0)=a:=⟨_,rfl⟩;have rG:za3 (kids t)+a0=R:=by rw[<-ha0,<-uS,<-lQ,hK,<-ziW];exact hR
  have dZ:m<=n:=by have:=zbw t;omega
  have hR6:R<=n+1:=by have:=zfM _ t hn;omega
  have HM:=CS hm;have HA:=CS ha;have IH:=CS ih;have HS:=CS hS;have HN:=CS hn;have bY:=CS rG;rw[hR]
  clear hm hR ha ih hS hn rG hv hK;cases q1 <;> cases q2
  all_goals
   simp at ha0;subst ha0;go_enter Tryz.func31,Tryz.ntmps31
   go_wp2
   go_loopg [3,4] m (λgg va vi wr=>∃i a:Nat,gg=m-i/\va=.int .i64 a/\vi=.int .i64 i/\i<=m/\Hid (za3 ((kids t).take i)+(R-za3 (kids t))=a)/\Below (w.heap.size+1) (w.alloc (.cells #[.int .i64 K,.string X,.int .i64 Z,.slice A m c] 43)) wr)
   case atStart =>
    first
     |exact⟨0,0,rfl,rfl,rfl,by omega,CS (by have:=bY.out;rw[Ba,za3];omega),Below.refl _ _⟩
     |exact⟨0,1,rfl,rfl,rfl,by omega,CS (by have:=bY.out;rw[Ba,za3];omega),Below.refl _ _⟩
   case round =>
    obtain⟨i,a,rfl,rfl,rfl,hi,hd,hb⟩:=hrel;have c3:wr.cell? ⟨w.heap.size,3,none⟩=some (.slice A m c):=(hb.cell (p:=⟨w.heap.size,3,none⟩) (by simp)).trans (cell_of_row _ _ _ _ _ _ (heap_alloc_new _ _));have HB:=CS hb;clear hb;by_cases ah:i<m
    ·obtain⟨g,u,K1,X1,Z1,A1,n1,c1,rfl,hg,e0,e1,e2,e3,hu,aK,aD⟩:=zcG (w':=wr) HA.out HM.out ah (λg hg=>by rw[HB.out.block g (by have:=HS.out g hg;omega),Below.heap_alloc _ _ _ (HS.out g hg)])
     have aq:=IH.out u S _ wr (by have:=HN.out;omega) (by omega) aK (λg hg=>by have:=HB.out.size;have:=HS.out g hg;simp at *;omega);obtain⟨iG,si⟩:=zok hu;obtain⟨D,hD⟩:∃D,cntN u=D:=⟨_,rfl⟩;rw[hD]at iG aq
     have xa:za3 ((kids t).take (i+1))+(R-za3 (kids t))=a+D:=by have:=hd.out;omega
     have haD:a+D<=1000001:=by have:=bY.out;omega
     have zv:=CS xa;clear aK hu hD iG si xa hd;go_wp2_with fail
     refine aq.mono ?_;rintro e w1 ⟨rfl,b1⟩;have bQ:=CS (HB.out.trans (b1.mono (by have:=HB.out.size;simp at this;omega)));clear b1;go_wp2_with fail
     go_roundg (m-(i+1))
     case measure=>omega
     case rel=>exact⟨i+1,a+D,rfl,by go_num,by go_num,by omega,zv,bQ.out⟩
    ·have hr:=CS (show a=R by have h1:=hd.out;rw[AK (by rw[HM.out];omega)]at h1;have:=bY.out;omega)
     go_wp2_with fail
     go_ret
     exact⟨zaQ (by rw[<-hr.out]),((Below.refl _ w).alloc (Ai _) _).trans (HB.out.mono (by omega))⟩
end Go.Proofs.YtfafilmklhnngaaGreatDoor
namespace Go.Proofs.YtfafilmklhnngaaGreatDoor
open Go.RowKit Lx Tx
set_option maxRecDepth 100000
theorem zkm(n:Nat):∀(t:Ty)(S:Nat->Prop)(v:Value)(w:World),t.size<=n->n<=1000000->RdV S w t v->(∀g,S g->g<w.heap.size) ->
  Calls Tryz.prog 55 #[v] w λe w'=>e=.returned (.int .i64 (t.depth:Nat))/\Below w.heap.size w w':=by
 induction n with
 |zero=>intro t S v w h;rw[zaj]at h;omega
 |succ n ih =>
  intro t S v w hn h5 hv hS;obtain⟨K,X,Z,A,m,c,rfl,-,-,-,hm,ha⟩:=hv.parts;obtain⟨R,hR⟩:∃R,t.depth=R:=⟨_,rfl⟩;have rG:za8 (kids t)+1=R:=by rw[<-zfZ];exact hR
  have dZ:m<=n:=by have:=zbw t;omega
  have hR6:R<=n+1:=by have:=zbW t;omega
  have HM:=CS hm;have HA:=CS ha;have IH:=CS ih;have HS:=CS hS;have HN:=CS hn;have bY:=CS rG;rw[hR]
  clear hm hR ha ih hS hn rG hv;go_enter Tryz.func55,Tryz.ntmps55
  go_wp2
  go_loopg [3,4] m (λgg va vi wr=>∃i a:Nat,gg=m-i/\va=.int .i64 a/\vi=.int .i64 i/\i<=m/\Hid (za8 ((kids t).take i)=a)/\Below (w.heap.size+1) (w.alloc (.cells #[.int .i64 K,.string X,.int .i64 Z,.slice A m c] 43)) wr)
  case atStart=>exact⟨0,0,rfl,rfl,rfl,by omega,CS rfl,Below.refl _ _⟩
  case round =>
   obtain⟨i,a,rfl,rfl,rfl,hi,hd,hb⟩:=hrel;have c3:wr.cell? ⟨w.heap.size,3,none⟩=some (.slice A m c):=(hb.cell (p:=⟨w.heap.size,3,none⟩) (by simp)).trans (cell_of_row _ _ _ _ _ _ (heap_alloc_new _ _));have HB:=CS hb;clear hb;by_cases ah:i<m
   ·obtain⟨g,u,K1,X1,Z1,A1,n1,c1,rfl,hg,e0,e1,e2,e3,hu,aK,aD⟩:=zcG (w':=wr) HA.out HM.out ah (λg hg=>by rw[HB.out.block g (by have:=HS.out g hg;omega),Below.heap_alloc _ _ _ (HS.out g hg)])
    have aq:=IH.out u S _ wr (by have:=HN.out;omega) (by omega) aK (λg hg=>by have:=HB.out.size;have:=HS.out g hg;simp at *;omega);have sG:=CS (zf0 _ _ _ _ hd hu);obtain⟨D,hD⟩:∃D,u.depth=D:=⟨_,rfl⟩;rw[hD]at sG aq
    clear aK hu hD;go_wp2_with (go_at_call 55;refine aq.mono ?_;rintro e w1 ⟨rfl,b1⟩)
    all_goals
     have bQ:=CS (HB.out.trans (b1.mono (by have:=HB.out.size;simp at this;omega)));go_roundg (m-(i+1))
     case measure=>omega
     case rel=>exact⟨i+1,_,rfl,rfl,by go_num,by omega,CS (by rw[sG.out];omega),bQ.out⟩
   ·have hr:=CS (show a+1=R by rw[AK (by rw[HM.out];omega)]at hd;rw[hd.out]at bY;exact bY.out)
    have ha6:a<1000001:=by have:=hr.out;omega
    go_wp2_with fail
    go_ret
    exact⟨zaQ (by rw[<-hr.out];rfl),((Below.refl _ w).alloc (Ai _) _).trans (HB.out.mono (by omega))⟩
set_option maxRecDepth 100000
theorem zlt(f:Nat)(ts:List Tok)(v:Value)(w:World)(i:Nat)(hv:RdT w v ts)(hg:AllG ts)(hn:ts.length<=100000)(hi:i<=ts.length)(hf:4*(ts.length-i)+2<=f+1)
  (IH:∀(w:World)(i:Nat),RdT w v ts->i<=ts.length->4*(ts.length-i)+4<=f->Calls Tryz.prog 54 #[v,.int .i64 i] w (RPost ts i w (read f (ts.drop i)))):Calls Tryz.prog 146 #[v,.int .i64 i] w (RPost ts i w (atom (f+1) (ts.drop i))):=by
 by_cases ah:i<ts.length
 ·have hdr:=zbx ts i ah
  obtain⟨g,c,rfl,h0,h1,h2⟩:=hv.at_ i ah;have rp:=hg _ (Bd ah);have ik:=hv.lt (by omega);rw[hdr]
  generalize hT:ts[i]=T at *;obtain⟨m,s,p⟩:=T;obtain⟨X,hX⟩:∃X:ByteArray,⟨s.toArray⟩=X:=⟨_,rfl⟩;obtain⟨n,hN⟩:∃n,ts.length=n:=⟨_,rfl⟩;have HX:=CS hX;have HN:=CS hN;simp only at h0 h1 h2;rw[hX]at h1
  rw[hN]at hv ah hn hi hf IH ⊢
  have HV:=CS hv;have kg:=CS IH;have HG:=CS rp;clear h2 hv IH hX hN rp hT hdr hg;obtain⟨O,hO⟩:∃O,atom (f+1) (⟨m,s,p⟩::ts.drop (i+1))=O:=⟨_,rfl⟩;rw[hO]
  rw[atom]at hO
  replace hO:=hO.symm;simp only at hO;by_cases k1:m=1
  ·have HO:=CS (hO.trans (Aq k1))
   subst k1;clear hO;have h0:w.cell? ⟨g,i*3,none⟩=some (.int .i64 1):=h0;go_enter Tryz.func146,Tryz.ntmps146
   go_wp2_with fail
   try simp only[Exit.inBlock,Exit.then]
   refine bodyPost_ret (zae rfl _ _ w.heap.size 43 _ (0,0) _ rfl (heap_alloc_new _ _) Tryz.underlying43 rfl (by kernel_rfl)) rfl ?_;exact zbb ts i w _ _ _ 1 X 0 none 0 0 (.var s) (i+1) ((Below.refl _ w).alloc (Ai _) _) (by omega) (by rw[HN.out];omega) HO.out rfl ⟨none,0,by rw[<-HX.out];rfl,by rw[Args];trivial⟩
  ·have d1:=zb6 m 1 1 rfl k1
   rw[Am k1]at hO
   by_cases k2:m=2
   ·have HO:=CS (hO.trans (Aq k2))
    subst k2;clear hO;have h0:w.cell? ⟨g,i*3,none⟩=some (.int .i64 2):=h0;go_enter Tryz.func146,Tryz.ntmps146
    go_wp2_with fail
    try simp only[Exit.inBlock,Exit.then]
    refine bodyPost_ret (zae rfl _ _ w.heap.size 43 _ (0,0) _ rfl (heap_alloc_new _ _) Tryz.underlying43 rfl (by kernel_rfl)) rfl ?_;exact zbb ts i w _ _ _ 3 X 0 none 0 0 (.con s []) (i+1) ((Below.refl _ w).alloc (Ai _) _) (by omega) (by rw[HN.out];omega) HO.out rfl ⟨none,0,by rw[<-HX.out];rfl,by rw[Args];intro h;exact absurd rfl h⟩
   ·have d2:=zb6 m 2 2 rfl k2
    rw[Am k2]at hO
    by_cases k5:m=5
    ·have HO:=CS (hO.trans (Aq k5))
     subst k5;clear hO;have h0:w.cell? ⟨g,i*3,none⟩=some (.int .i64 5):=h0;obtain⟨g1,g2,g3⟩:=zg7 _ HG.out rfl;have yi:X.data.toList=s:=by rw[<-HX.out]
     have pZ:1<=X.size:=by rw[Lib.size_eq,yi];exact g3
     have hXe:(X.extract 1 X.size).data.toList=s.drop 1:=by rw[Lib.extract_eq,yi];simp only[];rw[AK];rw[Bk,<-yi,<-Lib.size_eq];omega
     have cA:=λw=>zji (X.extract 1 X.size) w (by rw[hXe];exact g1) (by rw[Lib.size_eq,hXe];exact g2);rw[hXe]at cA
     clear hXe yi g1 g2 g3;obtain⟨N,vh⟩:∃N,numOf (s.drop 1)=N:=⟨_,rfl⟩;rw[vh]at cA HO
     clear vh;go_enter Tryz.func146,Tryz.ntmps146
     go_wp2_with (go_at_call 183;refine(cA _).mono ?_;rintro e w1 ⟨rfl,rfl⟩)
     try simp only[Exit.inBlock,Exit.then]
     refine bodyPost_ret (zae rfl _ _ w.heap.size 43 _ (0,0) _ rfl (heap_alloc_new _ _) Tryz.underlying43 rfl (by kernel_rfl)) rfl ?_;exact zbb ts i w _ _ _ 2 ⟨#[]⟩ (N:Nat) none 0 0 (.mt N) (i+1) ((Below.refl _ w).alloc (Ai _) _) (by omega) (by rw[HN.out];omega) HO.out rfl ⟨none,0,rfl,by rw[Args];trivial⟩
    ·have d5:=zb6 m 5 5 rfl k5
     rw[Am k5]at hO
     by_cases k40:s=[40]
     ·have dX:(X.toList==[40])=true:=by rw[Lib.toList_data,<-HX.out,k40];rfl
      have HO:=CS (hO.trans (Aq k40));clear hO k40;go_enter Tryz.func146,Tryz.ntmps146
      go_wp2_with fail
      refine(kg.out _ (i+1) (HV.out.alloc _) (by omega) (by omega)).mono ?_;rintro e w1 ⟨b1,K1,X1,Z1,A1,m1,c1,aB⟩;have hblk:Blk w1 w.heap.size 43 #[.int .i64 0,.string ⟨#[]⟩,.int .i64 0,.slice none 0 0]:=Blk.below (heap_alloc_new _ _) b1 (by simp);obtain⟨a0,a1,a2,a3,r0,r1,r2,r3,dj⟩:=zaa hblk;have dW:=CS hblk;clear hblk;rcases aB with⟨ho,rfl⟩|⟨t,k,hk,bW,ho,rfl,hr⟩
      ·have HO:=CS (HO.out.trans (by rw[ho]))
       have B1:=CS b1;clear b1 ho;go_wp2_with fail
       try simp only[Exit.inBlock,Exit.then]
       refine bodyPost_ret (zae rfl _ _ w.heap.size 43 _ (0,0) _ rfl ((zah _ _ _ _ dW.out).alloc _) Tryz.underlying43 rfl (by kernel_rfl)) rfl ?_;exact zaI ts i w _ _ _ 0 ⟨#[]⟩ 0 none 0 0 ((zak (zaC B1.out (Ai _)) _ _ _ _ (Ai _)).alloc (by simp;omega) _) HO.out rfl
      ·obtain⟨q,hq⟩:∃q,isAt ts k 6 [41]=q:=⟨_,rfl⟩
       have HO:Hid (O=(eat (isSign · [41]) (ts.drop k)).map λr3=>(t,r3)):=CS (HO.out.trans (by rw[ho]));have B1:=CS b1;have HQ:=CS hq;have nS:∀w,RdT w (.slice (some ⟨g,0,none⟩) n c) ts->Calls Tryz.prog 97 #[.slice (some ⟨g,0,none⟩) n c,.int .i64 k,.int .i64 6,.string ⟨#[41]⟩] w λe w'=>e=.returned (.bool q)/\w=w':=by
        intro w hv;rw[<-hq]
        exact zc1 _ ts k 6 ⟨#[41]⟩ 6 rfl w hv
       clear hq;have HR:=CS hr;clear b1 ho hr;cases q
       ·go_wp2_with (go_at_call 97;refine(nS _ (((HV.out.alloc _).below B1.out).alloc _)).mono ?_;rintro e w2 ⟨rfl,rfl⟩)
        try simp only[Exit.inBlock,Exit.then]
        refine bodyPost_ret (zae rfl _ _ w.heap.size 43 _ (0,0) _ rfl ((zah _ _ _ _ dW.out).alloc _) Tryz.underlying43 rfl (by kernel_rfl)) rfl ?_;exact zaI ts i w _ _ _ 0 ⟨#[]⟩ 0 none 0 0 ((zak (zaC B1.out (Ai _)) _ _ _ _ (Ai _)).alloc (by simp;omega) _) (HO.out.trans (by rw[zda _ _ _ (by simp),HQ.out,Am (by simp)];rfl)) rfl
       ·have gK:=zdS _ _ _ _ HQ.out
        have aO:k<100000:=by rw[HN.out]at gK;omega
        go_wp2_with (go_at_call 97;refine(nS _ (((HV.out.alloc _).below B1.out).alloc _)).mono ?_;rintro e w2 ⟨rfl,rfl⟩)
        try simp only[Exit.inBlock,Exit.then]
        refine bodyPost_ret (zae rfl _ _ w.heap.size 43 _ (0,0) _ rfl ((zah _ _ _ _ dW.out).alloc _) Tryz.underlying43 rfl (by kernel_rfl)) rfl ?_;refine zbb ts i w _ _ _ K1 X1 Z1 A1 m1 c1 t (k+1) ((zak (zaC B1.out (Ai _)) _ _ _ _ (Ai _)).alloc (by simp;omega) _) (by omega) (by omega) (HO.out.trans (by rw[zda _ _ _ (by simp),HQ.out,Aq rfl];rfl)) rfl ?_;exact HR.out.keep (λg hg=>by simp at hg ⊢;omega) (λg hg=>by
         simp at hg;rw[Below.heap_alloc _ _ _ (by simp;omega),Below.heap_setCell _ _ _ _ (by simp;omega),Below.heap_setCell _ _ _ _ (by simp;omega),Below.heap_setCell _ _ _ _ (by simp;omega),Below.heap_setCell _ _ _ _ (by simp;omega)])
     ·have dX:(X.toList==[40])=false:=by rw[Lib.toList_data,<-HX.out];exact AF.2 k40
      have HO:=CS (hO.trans (Am k40));clear hO k40;go_enter Tryz.func146,Tryz.ntmps146
      go_wp2_with fail
      try simp only[Exit.inBlock,Exit.then]
      refine bodyPost_ret (zae rfl _ _ w.heap.size 43 _ (0,0) _ rfl (heap_alloc_new _ _) Tryz.underlying43 rfl (by kernel_rfl)) rfl ?_;exact zaI ts i w _ _ _ 0 ⟨#[]⟩ 0 none 0 0 ((Below.refl _ w).alloc (Ai _) _) HO.out rfl
 ·have HO:atom (f+1) (ts.drop i)=none:=by rw[AP (by omega),atom]
  obtain⟨A,c,rfl,_⟩:=hv;obtain⟨n,hN⟩:∃n,ts.length=n:=⟨_,rfl⟩;rw[hN]at ah hn hi ⊢
  rw[HO]
  clear hN IH HO hf hg;go_enter Tryz.func146,Tryz.ntmps146
  go_wp2_with fail
  try simp only[Exit.inBlock,Exit.then]
  refine bodyPost_ret (zae rfl _ _ w.heap.size 43 _ (0,0) _ rfl (heap_alloc_new _ _) Tryz.underlying43 rfl (by kernel_rfl)) rfl ?_;exact zaI ts i w _ _ _ 0 ⟨#[]⟩ 0 none 0 0 ((Below.refl _ w).alloc (Ai _) _) rfl rfl
set_option maxRecDepth 100000
theorem zlu:(Tryz.prog.info? 43).map (λi=>(i.zero,i.size,i.bytes))=some (some (.agg #[.int .i64 0,.string ⟨#[]⟩,.int .i64 0,.slice none 0 0]),4,56):=by kernel_rfl
def zqa(ts:List Tok)(f n i:Nat)(X:ByteArray)(w:World)(g:Nat)(vk:Value)(wr:World):Prop :=
 ∃k f' done v',g=n-k/\vk=.int .i64 k/\i<k/\k<=n/\4*(n-k)+3<=f'/\f'<=f/\Hid (args f (ts.drop (i+1))=(args f' (ts.drop k)).map λy=>(done++y.1,y.2))/\done.length<=k /\
  Built (λ_=>False) (w.heap.size+2) 43 wr done v'/\Blk wr (w.heap.size+1) 43 #[.int .i64 3,.string X,.int .i64 0,v'] /\
  Blk wr w.heap.size 43 #[.int .i64 0,.string ⟨#[]⟩,.int .i64 0,.slice none 0 0]/\Below w.heap.size w wr
theorem zm8(f:Nat)(ts:List Tok)(v:Value)(w:World)(i:Nat)(hv:RdT w v ts)(hn:ts.length<=100000)(hi:i<=ts.length)(hf:4*(ts.length-i)+3<=f+1)
  (IH:∀f1,f1<=f->∀(w:World)(i:Nat),RdT w v ts->i<=ts.length->4*(ts.length-i)+2<=f1->Calls Tryz.prog 146 #[v,.int .i64 i] w (RPost ts i w (atom f1 (ts.drop i)))):Calls Tryz.prog 98 #[v,.int .i64 i] w (RPost ts i w (app (f+1) (ts.drop i))):=by
 obtain⟨q,hq⟩:∃q,isAt ts i 2 []=q:=⟨_,rfl⟩;have HQ:=CS hq;have nS:∀w,RdT w v ts->Calls Tryz.prog 97 #[v,.int .i64 i,.int .i64 2,.string ⟨#[]⟩] w λe w'=>e=.returned (.bool q)/\w=w':=by
  intro w hv;rw[<-hq]
  exact zc1 _ ts i 2 ⟨#[]⟩ 2 rfl w hv
 clear hq;have HV:=CS hv;have kg:=CS IH;clear IH;cases q
 ·have HO:Hid (app (f+1) (ts.drop i)=atom f (ts.drop i)):=by
   refine CS ?_;by_cases ah:i<ts.length
   ·have h2:=HQ.out
    rw[zdR ts i 2 [] ah]at h2
    simp at h2;rw[zbx ts i ah,app]
    simp only[Am h2]
   ·rw[AP (by omega),app]
    obtain⟨f',rfl⟩:∃f',f=f'+1:=⟨f-1,by omega⟩;rw[atom]
  rw[HO.out]
  clear HO hv;go_enter Tryz.func98,Tryz.ntmps98
  go_wp2_with (go_at_call 97;refine(nS _ (HV.out.alloc _)).mono ?_;rintro e w2 ⟨rfl,rfl⟩)
  go_at_call 146
  refine(kg.out f (Ai _) _ i (HV.out.alloc _) hi (by omega)).mono ?_;rintro e w1 ⟨b1,K1,X1,Z1,A1,m1,c1,aB⟩;have hblk:Blk w1 w.heap.size 43 #[.int .i64 0,.string ⟨#[]⟩,.int .i64 0,.slice none 0 0]:=Blk.below (heap_alloc_new _ _) b1 (by simp);obtain⟨a0,a1,a2,a3,r0,r1,r2,r3,dj⟩:=zaa hblk;have dW:=CS hblk;have B1:=CS b1;clear hblk b1;rcases aB with⟨ho,rfl⟩|⟨t,k,hk,bW,ho,rfl,hr⟩
  ·have HO:=CS ho
   clear ho;go_wp2_with fail
   try simp only[Exit.inBlock,Exit.then]
   refine bodyPost_ret (zae rfl _ _ w.heap.size 43 _ (0,0) _ rfl (zah _ _ _ _ dW.out) Tryz.underlying43 rfl (by kernel_rfl)) rfl ?_;exact zaI ts i w _ _ _ K1 X1 Z1 A1 m1 c1 (zak (zaC B1.out (Ai _)) _ _ _ _ (Ai _)) HO.out rfl
  ·have HO:=CS ho
   have HR:=CS hr;clear ho hr;go_wp2_with fail
   try simp only[Exit.inBlock,Exit.then]
   refine bodyPost_ret (zae rfl _ _ w.heap.size 43 _ (0,0) _ rfl (zah _ _ _ _ dW.out) Tryz.underlying43 rfl (by kernel_rfl)) rfl ?_;refine zbb ts i w _ _ _ K1 X1 Z1 A1 m1 c1 t k (zak (zaC B1.out (Ai _)) _ _ _ _ (Ai _)) hk bW HO.out rfl ?_;exact HR.out.keep (λg hg=>by simp at hg ⊢;omega) (λg hg=>zat _ _ _ _ _ _ _ (by simp at hg;omega))
 ·have ah:=zdS _ _ _ _ HQ.out
  have cC:=HQ.out;rw[zdR ts i 2 [] ah]at cC
  simp at cC;obtain⟨g,c,rfl,h0,h1,_⟩:=hv.at_ i ah;have ik:=hv.lt (by omega);obtain⟨X,hX⟩:∃X:ByteArray,⟨ts[i].text.toArray⟩=X:=⟨_,rfl⟩;obtain⟨n,hN⟩:∃n,ts.length=n:=⟨_,rfl⟩;have HO:Hid (app (f+1) (ts.drop i)=(args f (ts.drop (i+1))).map λx=>(.con X.data.toList x.1,x.2)):=by
   refine CS ?_;rw[zbx ts i ah,app,<-hX]
   simp only[Aq cC]
  have HN:=CS hN;rw[hX]at h1
  rw[HO.out]
  clear hX h0 hv HQ cC;have mT:i<n:=by omega
  obtain⟨i0,bm,bO,bD,bj⟩:=info_parts zlu;rw[hN]at hn hi hf kg HV nS ⊢
  clear hN HO;go_enter Tryz.func98,Tryz.ntmps98
  go_wp2_with (go_at_call 97;refine(nS _ (HV.out.alloc _)).mono ?_;rintro e w2 ⟨rfl,rfl⟩)
  go_loopg [8] (n-(i+1)) (λgg vk wr=>zqa ts f n i X w gg vk wr)
  case atStart =>
   refine⟨i+1,f,[],.slice none 0 0,rfl,by go_num,by omega,by omega,by omega,Ai _,CS (by simp),by simp,Built.nil _ _ _ _,?_,?_,((Below.refl _ w).alloc (Ai _) _).alloc (by simp) _⟩
   ·exact heap_alloc2_new _ _ _
   ·exact heap_alloc2_old _ _ _
  case round =>
   obtain⟨k,f',done,v',rfl,rfl,oG,bW,hf1,hf2,hargs,hdl,ff,aw,aE,aH⟩:=hrel;obtain⟨f1,rfl⟩:∃f1,f'=f1+1:=⟨f'-1,by omega⟩;obtain⟨vs,ai,aJ⟩:=ff;obtain⟨A0,c0,rfl⟩:=zam ai;have vX:=HV.out.below aH;have HVT:=CS vX;have ay:=CS ai;have dG:=CS aJ;have bN:=CS aw;have cQ:=CS aE;have aG:=CS aH;have aM:=ai.lt;have aC:=CS aM;obtain⟨a0,a1,a2,a3,r0,r1,r2,r3,dj⟩:=zaa aE;obtain⟨p0,p1,p2,p3,s0,s1,s2,s3,di⟩:=zaa aw;by_cases gK:k<n
   ·have pM:k<ts.length:=by rw[HN.out];exact gK
    obtain⟨e0,e1⟩:=vX.cells k pM;obtain⟨Y,hY⟩:∃Y:ByteArray,⟨ts[k].text.toArray⟩=Y:=⟨_,rfl⟩;rw[hY]at e1
    by_cases bF:atomic ts[k]=true
    ·have hw:=zjo _ Y hY bF
     have fq:=CS bF;obtain⟨m,hm⟩:∃m,ts[k].kind=m:=⟨_,rfl⟩;rw[hm]at e0 hw
     have hglw:g<wr.heap.size:=by have:=aH.size;omega
     clear hY bF hm vX ai aJ aw aE aH aM;rcases hw with d1|⟨d1,d5⟩|⟨d1,d5,d2⟩|⟨d1,d5,d2,dX⟩
     ·go_wp2_with fail
      refine(kg.out f1 (by omega) wr k HVT.out (by omega) (by omega)).mono ?_;rintro e w1 ⟨b1,K1,X1,Z1,A1,m1,c1,aB⟩;have aE:=cQ.out.below b1 dj;have aw:=bN.out.below b1 di;obtain⟨a0,a1,a2,a3,r0,r1,r2,r3,pK⟩:=zaa aE;obtain⟨p0,p1,p2,p3,s0,s1,s2,s3,sR⟩:=zaa aw;have gE:=CS aE;have jG:=CS aw;have dv:=CS b1;clear b1 aE aw;rcases aB with⟨ho,rfl⟩|⟨t,k2,hk,fe,ho,rfl,hr⟩
      ·have HO:Hid (args f (ts.drop (i+1))=none):=CS (hargs.out.trans (by rw[zdu f1 ts k pM fq.out ho];rfl))
       clear ho;go_wp2_with fail
       try simp only[Exit.inBlock,Exit.then]
       refine bodyPost_ret (zae rfl _ _ w.heap.size 43 _ (0,0) _ rfl ((zah _ _ _ _ gE.out).alloc _) Tryz.underlying43 rfl (by kernel_rfl)) rfl ?_;exact zaI ts i w _ _ _ 0 ⟨#[]⟩ 0 none 0 0 ((zak (bnext aG.out dv.out (Ai _)) _ _ _ _ (Ai _)).alloc (by simp;omega) _) (by rw[HO.out];rfl) rfl
      ·have HO:=CS (zdb (hargs.out.trans (by rw[zdv f1 ts k pM fq.out t _ ho])))
       have HR:=CS hr;have aM:=CS (((own_below ay.out dv.out).alloc (.cells #[.int .i64 K1,.string X1,.int .i64 Z1,.slice A1 m1 c1] 43)).alloc (.cells #[.int .i64 K1,.string X1,.int .i64 Z1,.slice A1 m1 c1] 43));clear ho hr;go_wp2_with (at_builtin;refine wpList_append_own_at _ rfl (.tmp 75) (.tmp 77) 41 rfl (w.heap.size+2) 43 i0 _ 4 56 Tryz.underlying41 bm bO bD bj rfl (by decide) _ done.length vs rfl aM.out ⟨w1.heap.size+1,0,none⟩ 1 1 [.int .i64 K1,.string X1,.int .i64 Z1,.slice A1 m1 c1] rfl rfl (zas _ _ _ _ (by simp)) (by intro u hu;simp at hu;rcases hu with rfl|rfl|rfl|rfl <;> rfl) (by unfold maxLen;omega) (by omega) (by have:=dv.out.size;have:=aG.out.size;simp;omega) ?_;intro v2 w3 aj ae _ aS;obtain⟨A2,c2,rfl⟩:=zam aj;have cV:=CS aj;have bg:=CS ae;have eR:=CS aS;clear aj ae aS;have bc:=((jG.out.alloc _).alloc _).grown bg.out (λe=>by have:=aC.out _ e.symm;omega);have eO:=((gE.out.alloc _).alloc _).grown bg.out (λe=>by have:=aC.out _ e.symm;omega);obtain⟨y0,y1,y2,y3,z0,z1,z2,z3,uW⟩:=zaa bc;have lM:=CS bc;have qA:=CS eO;clear bc eO)
       go_roundg (n-k2)
       case measure=>omega
       case rel =>
        have hb:=Built.next (w:=wr) (w1:=w1) (λ_ h=>h.elim) (by omega) ay.out dG.out dv.out (HR.out.keep (λ_ h=>.inr h) (λ_ _=>rfl)) (((Below.refl _ w1).alloc (Ai _) _).alloc (by simp) _) cV.out bg.out eR.out;have aD:=aG.out.size;have iS:=dv.out.size;refine⟨k2,f1,done++[t],_,rfl,rfl,by omega,by rw[HN.out]at fe;exact fe,by omega,by omega,HO,by simp;omega,hb.setCell _ (by simp) (λh=>h),heap_setCell_same _ _ 3 _ _ _ lM.out,qA.out.far (by simp) _,?_⟩;exact(((bnext aG.out dv.out (Ai _)).alloc (by omega) _).alloc (by simp;omega) _ |>.grown bg.out (by simp;omega) (λj hj=>by have:=aC.out _ hj;omega)).setCell (by simp) _
     ·go_wp2_with fail
      refine(kg.out f1 (by omega) wr k HVT.out (by omega) (by omega)).mono ?_;rintro e w1 ⟨b1,K1,X1,Z1,A1,m1,c1,aB⟩;have aE:=cQ.out.below b1 dj;have aw:=bN.out.below b1 di;obtain⟨a0,a1,a2,a3,r0,r1,r2,r3,pK⟩:=zaa aE;obtain⟨p0,p1,p2,p3,s0,s1,s2,s3,sR⟩:=zaa aw;have gE:=CS aE;have jG:=CS aw;have dv:=CS b1;clear b1 aE aw;rcases aB with⟨ho,rfl⟩|⟨t,k2,hk,fe,ho,rfl,hr⟩
      ·have HO:Hid (args f (ts.drop (i+1))=none):=CS (hargs.out.trans (by rw[zdu f1 ts k pM fq.out ho];rfl))
       clear ho;go_wp2_with fail
       try simp only[Exit.inBlock,Exit.then]
       refine bodyPost_ret (zae rfl _ _ w.heap.size 43 _ (0,0) _ rfl ((zah _ _ _ _ gE.out).alloc _) Tryz.underlying43 rfl (by kernel_rfl)) rfl ?_;exact zaI ts i w _ _ _ 0 ⟨#[]⟩ 0 none 0 0 ((zak (bnext aG.out dv.out (Ai _)) _ _ _ _ (Ai _)).alloc (by simp;omega) _) (by rw[HO.out];rfl) rfl
      ·have HO:=CS (zdb (hargs.out.trans (by rw[zdv f1 ts k pM fq.out t _ ho])))
       have HR:=CS hr;have aM:=CS (((own_below ay.out dv.out).alloc (.cells #[.int .i64 K1,.string X1,.int .i64 Z1,.slice A1 m1 c1] 43)).alloc (.cells #[.int .i64 K1,.string X1,.int .i64 Z1,.slice A1 m1 c1] 43));clear ho hr;go_wp2_with (at_builtin;refine wpList_append_own_at _ rfl (.tmp 75) (.tmp 77) 41 rfl (w.heap.size+2) 43 i0 _ 4 56 Tryz.underlying41 bm bO bD bj rfl (by decide) _ done.length vs rfl aM.out ⟨w1.heap.size+1,0,none⟩ 1 1 [.int .i64 K1,.string X1,.int .i64 Z1,.slice A1 m1 c1] rfl rfl (zas _ _ _ _ (by simp)) (by intro u hu;simp at hu;rcases hu with rfl|rfl|rfl|rfl <;> rfl) (by unfold maxLen;omega) (by omega) (by have:=dv.out.size;have:=aG.out.size;simp;omega) ?_;intro v2 w3 aj ae _ aS;obtain⟨A2,c2,rfl⟩:=zam aj;have cV:=CS aj;have bg:=CS ae;have eR:=CS aS;clear aj ae aS;have bc:=((jG.out.alloc _).alloc _).grown bg.out (λe=>by have:=aC.out _ e.symm;omega);have eO:=((gE.out.alloc _).alloc _).grown bg.out (λe=>by have:=aC.out _ e.symm;omega);obtain⟨y0,y1,y2,y3,z0,z1,z2,z3,uW⟩:=zaa bc;have lM:=CS bc;have qA:=CS eO;clear bc eO)
       go_roundg (n-k2)
       case measure=>omega
       case rel =>
        have hb:=Built.next (w:=wr) (w1:=w1) (λ_ h=>h.elim) (by omega) ay.out dG.out dv.out (HR.out.keep (λ_ h=>.inr h) (λ_ _=>rfl)) (((Below.refl _ w1).alloc (Ai _) _).alloc (by simp) _) cV.out bg.out eR.out;have aD:=aG.out.size;have iS:=dv.out.size;refine⟨k2,f1,done++[t],_,rfl,rfl,by omega,by rw[HN.out]at fe;exact fe,by omega,by omega,HO,by simp;omega,hb.setCell _ (by simp) (λh=>h),heap_setCell_same _ _ 3 _ _ _ lM.out,qA.out.far (by simp) _,?_⟩;exact(((bnext aG.out dv.out (Ai _)).alloc (by omega) _).alloc (by simp;omega) _ |>.grown bg.out (by simp;omega) (λj hj=>by have:=aC.out _ hj;omega)).setCell (by simp) _
     ·go_wp2_with fail
      refine(kg.out f1 (by omega) wr k HVT.out (by omega) (by omega)).mono ?_;rintro e w1 ⟨b1,K1,X1,Z1,A1,m1,c1,aB⟩;have aE:=cQ.out.below b1 dj;have aw:=bN.out.below b1 di;obtain⟨a0,a1,a2,a3,r0,r1,r2,r3,pK⟩:=zaa aE;obtain⟨p0,p1,p2,p3,s0,s1,s2,s3,sR⟩:=zaa aw;have gE:=CS aE;have jG:=CS aw;have dv:=CS b1;clear b1 aE aw;rcases aB with⟨ho,rfl⟩|⟨t,k2,hk,fe,ho,rfl,hr⟩
      ·have HO:Hid (args f (ts.drop (i+1))=none):=CS (hargs.out.trans (by rw[zdu f1 ts k pM fq.out ho];rfl))
       clear ho;go_wp2_with fail
       try simp only[Exit.inBlock,Exit.then]
       refine bodyPost_ret (zae rfl _ _ w.heap.size 43 _ (0,0) _ rfl ((zah _ _ _ _ gE.out).alloc _) Tryz.underlying43 rfl (by kernel_rfl)) rfl ?_;exact zaI ts i w _ _ _ 0 ⟨#[]⟩ 0 none 0 0 ((zak (bnext aG.out dv.out (Ai _)) _ _ _ _ (Ai _)).alloc (by simp;omega) _) (by rw[HO.out];rfl) rfl
      ·have HO:=CS (zdb (hargs.out.trans (by rw[zdv f1 ts k pM fq.out t _ ho])))
       have HR:=CS hr;have aM:=CS (((own_below ay.out dv.out).alloc (.cells #[.int .i64 K1,.string X1,.int .i64 Z1,.slice A1 m1 c1] 43)).alloc (.cells #[.int .i64 K1,.string X1,.int .i64 Z1,.slice A1 m1 c1] 43));clear ho hr;go_wp2_with (at_builtin;refine wpList_append_own_at _ rfl (.tmp 75) (.tmp 77) 41 rfl (w.heap.size+2) 43 i0 _ 4 56 Tryz.underlying41 bm bO bD bj rfl (by decide) _ done.length vs rfl aM.out ⟨w1.heap.size+1,0,none⟩ 1 1 [.int .i64 K1,.string X1,.int .i64 Z1,.slice A1 m1 c1] rfl rfl (zas _ _ _ _ (by simp)) (by intro u hu;simp at hu;rcases hu with rfl|rfl|rfl|rfl <;> rfl) (by unfold maxLen;omega) (by omega) (by have:=dv.out.size;have:=aG.out.size;simp;omega) ?_;intro v2 w3 aj ae _ aS;obtain⟨A2,c2,rfl⟩:=zam aj;have cV:=CS aj;have bg:=CS ae;have eR:=CS aS;clear aj ae aS;have bc:=((jG.out.alloc _).alloc _).grown bg.out (λe=>by have:=aC.out _ e.symm;omega);have eO:=((gE.out.alloc _).alloc _).grown bg.out (λe=>by have:=aC.out _ e.symm;omega);obtain⟨y0,y1,y2,y3,z0,z1,z2,z3,uW⟩:=zaa bc;have lM:=CS bc;have qA:=CS eO;clear bc eO)
       go_roundg (n-k2)
       case measure=>omega
       case rel =>
        have hb:=Built.next (w:=wr) (w1:=w1) (λ_ h=>h.elim) (by omega) ay.out dG.out dv.out (HR.out.keep (λ_ h=>.inr h) (λ_ _=>rfl)) (((Below.refl _ w1).alloc (Ai _) _).alloc (by simp) _) cV.out bg.out eR.out;have aD:=aG.out.size;have iS:=dv.out.size;refine⟨k2,f1,done++[t],_,rfl,rfl,by omega,by rw[HN.out]at fe;exact fe,by omega,by omega,HO,by simp;omega,hb.setCell _ (by simp) (λh=>h),heap_setCell_same _ _ 3 _ _ _ lM.out,qA.out.far (by simp) _,?_⟩;exact(((bnext aG.out dv.out (Ai _)).alloc (by omega) _).alloc (by simp;omega) _ |>.grown bg.out (by simp;omega) (λj hj=>by have:=aC.out _ hj;omega)).setCell (by simp) _
     ·go_wp2_with fail
      refine(kg.out f1 (by omega) wr k HVT.out (by omega) (by omega)).mono ?_;rintro e w1 ⟨b1,K1,X1,Z1,A1,m1,c1,aB⟩;have aE:=cQ.out.below b1 dj;have aw:=bN.out.below b1 di;obtain⟨a0,a1,a2,a3,r0,r1,r2,r3,pK⟩:=zaa aE;obtain⟨p0,p1,p2,p3,s0,s1,s2,s3,sR⟩:=zaa aw;have gE:=CS aE;have jG:=CS aw;have dv:=CS b1;clear b1 aE aw;rcases aB with⟨ho,rfl⟩|⟨t,k2,hk,fe,ho,rfl,hr⟩
      ·have HO:Hid (args f (ts.drop (i+1))=none):=CS (hargs.out.trans (by rw[zdu f1 ts k pM fq.out ho];rfl))
       clear ho;go_wp2_with fail
       try simp only[Exit.inBlock,Exit.then]
       refine bodyPost_ret (zae rfl _ _ w.heap.size 43 _ (0,0) _ rfl ((zah _ _ _ _ gE.out).alloc _) Tryz.underlying43 rfl (by kernel_rfl)) rfl ?_;exact zaI ts i w _ _ _ 0 ⟨#[]⟩ 0 none 0 0 ((zak (bnext aG.out dv.out (Ai _)) _ _ _ _ (Ai _)).alloc (by simp;omega) _) (by rw[HO.out];rfl) rfl
      ·have HO:=CS (zdb (hargs.out.trans (by rw[zdv f1 ts k pM fq.out t _ ho])))
       have HR:=CS hr;have aM:=CS (((own_below ay.out dv.out).alloc (.cells #[.int .i64 K1,.string X1,.int .i64 Z1,.slice A1 m1 c1] 43)).alloc (.cells #[.int .i64 K1,.string X1,.int .i64 Z1,.slice A1 m1 c1] 43));clear ho hr;go_wp2_with (at_builtin;refine wpList_append_own_at _ rfl (.tmp 75) (.tmp 77) 41 rfl (w.heap.size+2) 43 i0 _ 4 56 Tryz.underlying41 bm bO bD bj rfl (by decide) _ done.length vs rfl aM.out ⟨w1.heap.size+1,0,none⟩ 1 1 [.int .i64 K1,.string X1,.int .i64 Z1,.slice A1 m1 c1] rfl rfl (zas _ _ _ _ (by simp)) (by intro u hu;simp at hu;rcases hu with rfl|rfl|rfl|rfl <;> rfl) (by unfold maxLen;omega) (by omega) (by have:=dv.out.size;have:=aG.out.size;simp;omega) ?_;intro v2 w3 aj ae _ aS;obtain⟨A2,c2,rfl⟩:=zam aj;have cV:=CS aj;have bg:=CS ae;have eR:=CS aS;clear aj ae aS;have bc:=((jG.out.alloc _).alloc _).grown bg.out (λe=>by have:=aC.out _ e.symm;omega);have eO:=((gE.out.alloc _).alloc _).grown bg.out (λe=>by have:=aC.out _ e.symm;omega);obtain⟨y0,y1,y2,y3,z0,z1,z2,z3,uW⟩:=zaa bc;have lM:=CS bc;have qA:=CS eO;clear bc eO)
       go_roundg (n-k2)
       case measure=>omega
       case rel =>
        have hb:=Built.next (w:=wr) (w1:=w1) (λ_ h=>h.elim) (by omega) ay.out dG.out dv.out (HR.out.keep (λ_ h=>.inr h) (λ_ _=>rfl)) (((Below.refl _ w1).alloc (Ai _) _).alloc (by simp) _) cV.out bg.out eR.out;have aD:=aG.out.size;have iS:=dv.out.size;refine⟨k2,f1,done++[t],_,rfl,rfl,by omega,by rw[HN.out]at fe;exact fe,by omega,by omega,HO,by simp;omega,hb.setCell _ (by simp) (λh=>h),heap_setCell_same _ _ 3 _ _ _ lM.out,qA.out.far (by simp) _,?_⟩;exact(((bnext aG.out dv.out (Ai _)).alloc (by omega) _).alloc (by simp;omega) _ |>.grown bg.out (by simp;omega) (λj hj=>by have:=aC.out _ hj;omega)).setCell (by simp) _
    ·have bF:atomic ts[k]=false:=by simpa using bF
     have HO:Hid (args f (ts.drop (i+1))=some (done,ts.drop k)):=CS (hargs.out.trans (by rw[zg8 f1 ts k (λ_=>bF)];simp));have uy:=CS (Built.args (t:=.con X.data.toList done) (show Built _ _ _ wr (kids (.con X.data.toList done)) _ from⟨vs,ai,aJ⟩)).2;obtain⟨d1,d5,d2,dX⟩:=zky _ Y hY bF;obtain⟨m,hm⟩:∃m,ts[k].kind=m:=⟨_,rfl⟩;rw[hm]at e0 d1 d2 d5
     have hglw:g<wr.heap.size:=by have:=aH.size;omega
     clear hY bF hm vX ai aJ aw aE aH aM;go_wp2_with fail
     try simp only[Exit.inBlock,Exit.then]
     refine bodyPost_ret (zae rfl _ _ w.heap.size 43 _ (0,0) _ rfl (zah _ _ _ _ cQ.out) Tryz.underlying43 rfl (by kernel_rfl)) rfl ?_;refine zbb ts i w _ _ _ 3 X 0 A0 done.length c0 (.con X.data.toList done) k (zak aG.out _ _ _ _ (Ai _)) oG (by rw[HN.out];exact bW) (by rw[HO.out];rfl) rfl ?_;refine⟨A0,c0,by rw[nmB,Lib.mk_data];rfl,Args.keep (λg hg=>?_) (λg hg=>zat _ _ _ _ _ _ _ ?_) _ _ uy.out⟩
     ·rcases hg with hg|hg
      ·exact hg.elim
      ·simp;omega
     ·rcases hg with hg|hg
      ·exact hg.elim
      ·omega
   ·have HO:Hid (args f (ts.drop (i+1))=some (done,ts.drop k)):=CS (hargs.out.trans (by rw[zg8 f1 ts k (λh=>absurd h (by rw[HN.out];omega))];simp))
    have uy:=CS (Built.args (t:=.con X.data.toList done) (show Built _ _ _ wr (kids (.con X.data.toList done)) _ from⟨vs,ai,aJ⟩)).2;clear vX ai aJ aw aE aH aM;go_wp2_with fail
    try simp only[Exit.inBlock,Exit.then]
    refine bodyPost_ret (zae rfl _ _ w.heap.size 43 _ (0,0) _ rfl (zah _ _ _ _ cQ.out) Tryz.underlying43 rfl (by kernel_rfl)) rfl ?_;refine zbb ts i w _ _ _ 3 X 0 A0 done.length c0 (.con X.data.toList done) k (zak aG.out _ _ _ _ (Ai _)) oG (by rw[HN.out];exact bW) (by rw[HO.out];rfl) rfl ?_;refine⟨A0,c0,by rw[nmB,Lib.mk_data];rfl,Args.keep (λg hg=>?_) (λg hg=>zat _ _ _ _ _ _ _ ?_) _ _ uy.out⟩
    ·rcases hg with hg|hg
     ·exact hg.elim
     ·simp;omega
    ·rcases hg with hg|hg
     ·exact hg.elim
     ·omega
set_option maxRecDepth 100000
theorem zhQ(f:Nat)(ts:List Tok)(v:Value)(w:World)(i:Nat)(hv:RdT w v ts)(hn:ts.length<=100000)(hi:i<=ts.length)(hf:4*(ts.length-i)+4<=f+1)(hq:isAt ts i 3 wForall=false)
  (yU:∀(w:World)(i:Nat),RdT w v ts->i<=ts.length->4*(ts.length-i)+3<=f->Calls Tryz.prog 98 #[v,.int .i64 i] w (RPost ts i w (app f (ts.drop i))))
  (qj:∀(w:World)(i:Nat),RdT w v ts->i<=ts.length->4*(ts.length-i)+4<=f->Calls Tryz.prog 54 #[v,.int .i64 i] w (RPost ts i w (read f (ts.drop i)))):Calls Tryz.prog 54 #[v,.int .i64 i] w (RPost ts i w (read (f+1) (ts.drop i))):=by
 have nS:∀w,RdT w v ts->Calls Tryz.prog 97 #[v,.int .i64 i,.int .i64 3,.string ⟨#[102,111,114,97,108,108]⟩] w λe w'=>e=.returned (.bool false)/\w=w':=by
  intro w hv;rw[<-hq]
  exact zc1 _ ts i 3 ⟨#[102,111,114,97,108,108]⟩ 3 rfl w hv
 have HO:=CS (zkz f ts i hq);obtain⟨O,hO⟩:∃O,read (f+1) (ts.drop i)=O:=⟨_,rfl⟩;rw[hO]
 rw[hO]at HO
 have HV:=CS hv;have HA:=CS yU;have HR:=CS qj;clear hq hO hv yU qj;go_enter Tryz.func54,Tryz.ntmps54
 go_wp2_with (go_at_call 97;refine(nS _ (HV.out.alloc _)).mono ?_;rintro e w2 ⟨rfl,rfl⟩)
 go_at_call 98
 refine(HA.out _ i (HV.out.alloc _) hi (by omega)).mono ?_;rintro e w1 ⟨b1,K1,X1,Z1,A1,m1,c1,aB⟩;have hblk:Blk w1 w.heap.size 43 #[.int .i64 0,.string ⟨#[]⟩,.int .i64 0,.slice none 0 0]:=Blk.below (heap_alloc_new _ _) b1 (by simp);have dW:=CS hblk;have B1:=CS b1;obtain⟨a0,a1,a2,a3,r0,r1,r2,r3,dj⟩:=zaa hblk;clear hblk b1;rcases aB with⟨ho,rfl⟩|⟨t,k,hk,bW,ho,rfl,hr⟩
 ·have HO:Hid (O=none):=CS (HO.out.trans (by rw[ho]))
  clear ho;go_wp2_with fail
  try simp only[Exit.inBlock,Exit.then]
  refine bodyPost_ret (zae rfl _ _ w.heap.size 43 _ (0,0) _ rfl ((zah _ _ _ _ dW.out).alloc _) Tryz.underlying43 rfl (by kernel_rfl)) rfl ?_;exact zaI ts i w _ _ _ 0 ⟨#[]⟩ 0 none 0 0 ((zak (zaC B1.out (Ai _)) _ _ _ _ (Ai _)).alloc (by simp;omega) _) HO.out rfl
 ·obtain⟨q,hq⟩:∃q,isAt ts k 6 [45,62]=q:=⟨_,rfl⟩
  have HQ:=CS hq;have iw:∀w,RdT w v ts->Calls Tryz.prog 97 #[v,.int .i64 k,.int .i64 6,.string ⟨#[45,62]⟩] w λe w'=>e=.returned (.bool q)/\w=w':=by
   intro w hv;rw[<-hq]
   exact zc1 _ ts k 6 ⟨#[45,62]⟩ 6 rfl w hv
  clear hq;have HO:Hid (O=match eat (isSign · [45,62]) (ts.drop k) with|none=>some (t,ts.drop k)|some r2=>(read f r2).map λx=>(.fn t x.1,x.2)):=CS (HO.out.trans (by rw[ho];rfl));have HT:=CS hr;clear ho hr;cases q
  ·have HO:Hid (O=some (t,ts.drop k)):=CS (HO.out.trans (by rw[zda _ _ _ (by simp),HQ.out,Am (by simp)]))
   go_wp2_with (go_at_call 97;refine(iw _ (((HV.out.alloc _).below B1.out).alloc _)).mono ?_;rintro e w2 ⟨rfl,rfl⟩)
   try simp only[Exit.inBlock,Exit.then]
   refine bodyPost_ret (zae rfl _ _ w.heap.size 43 _ (0,0) _ rfl ((zah _ _ _ _ dW.out).alloc _) Tryz.underlying43 rfl (by kernel_rfl)) rfl ?_;refine zbb ts i w _ _ _ K1 X1 Z1 A1 m1 c1 t k ((zak (zaC B1.out (Ai _)) _ _ _ _ (Ai _)).alloc (by simp;omega) _) hk bW HO.out rfl ?_;exact HT.out.keep (λg hg=>by simp at hg ⊢;omega) (λg hg=>by simp at hg;rw[Below.heap_alloc _ _ _ (by simp;omega)];exact zat _ _ _ _ _ _ _ (by omega))
  ·have gK:=zdS _ _ _ _ HQ.out
   have HO:Hid (O=(read f (ts.drop (k+1))).map λx=>(.fn t x.1,x.2)):=CS (HO.out.trans (by rw[zda _ _ _ (by simp),HQ.out,Aq rfl]));go_wp2_with (go_at_call 97;refine(iw _ (((HV.out.alloc _).below B1.out).alloc _)).mono ?_;rintro e w2 ⟨rfl,rfl⟩)
   have hV1:=CS ((((HV.out.alloc (.cells #[.int .i64 0,.string ⟨#[]⟩,.int .i64 0,.slice none 0 0] 43)).below B1.out).alloc (.cells #[.int .i64 K1,.string X1,.int .i64 Z1,.slice A1 m1 c1] 43)));refine(HR.out _ (k+1) hV1.out (by omega) (by omega)).mono ?_;rintro e w3 ⟨b3,K2,X2,Z2,A2,m2,c2,aB⟩;have lB:Blk w3 w1.heap.size 43 #[.int .i64 K1,.string X1,.int .i64 Z1,.slice A1 m1 c1]:=Blk.below (heap_alloc_new _ _) b3 (by simp);have aE:Blk w3 w.heap.size 43 #[.int .i64 0,.string ⟨#[]⟩,.int .i64 0,.slice none 0 0]:=Blk.below (dW.out.alloc _) b3 (by simp;omega);obtain⟨a0,a1,a2,a3,r0,r1,r2,r3,je⟩:=zaa aE;obtain⟨p0,p1,p2,p3,s0,s1,s2,s3,sP⟩:=zaa lB;have cQ:=CS aE;have B3:=CS b3;have B13:=CS (zaC b3 (Ai _));have aH:=CS (bnext (zaC B1.out (Ai _)) B13.out (Ai _));clear lB aE b3;rcases aB with⟨ho,rfl⟩|⟨u,k2,cC,kW,ho,rfl,hr⟩
   ·have HO:Hid (O=none):=CS (HO.out.trans (by rw[ho];rfl))
    clear ho;go_wp2_with fail
    try simp only[Exit.inBlock,Exit.then]
    refine bodyPost_ret (zae rfl _ _ w.heap.size 43 _ (0,0) _ rfl (((zah _ _ _ _ cQ.out).alloc _).alloc _) Tryz.underlying43 rfl (by kernel_rfl)) rfl ?_;exact zaI ts i w _ _ _ 4 ⟨#[]⟩ 0 _ 2 2 (((zak aH.out _ _ _ _ (Ai _)).alloc (by simp;omega) _).alloc (by simp;omega) _) HO.out rfl
   ·have HO:Hid (O=some (.fn t u,ts.drop k2)):=CS (HO.out.trans (by rw[ho];rfl))
    have HU:=CS hr;clear ho hr;go_wp2_with fail
    try simp only[Exit.inBlock,Exit.then]
    refine bodyPost_ret (zae rfl _ _ w.heap.size 43 _ (0,0) _ rfl (((zah _ _ _ _ cQ.out).alloc _).alloc _) Tryz.underlying43 rfl (by kernel_rfl)) rfl ?_;refine zbb ts i w _ _ _ 4 ⟨#[]⟩ 0 (some ⟨w3.heap.size+1,0,none⟩) 2 2 (.fn t u) k2 (((zak aH.out _ _ _ _ (Ai _)).alloc (by simp;omega) _).alloc (by simp;omega) _) (by omega) kW HO.out rfl ?_;have s3:=B3.out.size;simp at s3;refine zie (K1:=K1) (X1:=X1) (Z1:=Z1) (A1:=A1) (m1:=m1) (c1:=c1) (K2:=K2) (X2:=X2) (Z2:=Z2) (A2:=A2) (m2:=m2) (c2:=c2) ?_ ?_ (by simp;omega) ?_
    ·exact HT.out.keep (λg hg=>by simp at hg ⊢;omega) (λg hg=>by
      simp at hg;rw[Below.heap_alloc _ _ _ (by simp;omega),Below.heap_alloc _ _ _ (by simp;omega),zat _ _ _ _ _ _ _ (by omega)]
      exact B13.out.block g hg.2)
    ·exact HU.out.keep (λg hg=>by simp at hg ⊢;omega) (λg hg=>by
      simp at hg;rw[Below.heap_alloc _ _ _ (by simp;omega),Below.heap_alloc _ _ _ (by simp;omega),zat _ _ _ _ _ _ _ (by omega)])
    ·intro j x hx
     have:=zas ((((((w3.setCell ⟨w.heap.size,0,none⟩ (.int .i64 4)).setCell ⟨w.heap.size,1,none⟩ (.string ⟨#[]⟩)).setCell ⟨w.heap.size,2,none⟩ (.int .i64 0)).setCell ⟨w.heap.size,3,none⟩ (.slice (some ⟨w3.heap.size+1,0,none⟩) 2 2))).alloc (.cells #[.int .i64 K2,.string X2,.int .i64 Z2,.slice A2 m2 c2] 43)) #[.int .i64 K1,.string X1,.int .i64 Z1,.slice A1 m1 c1,.int .i64 K2,.string X2,.int .i64 Z2,.slice A2 m2 c2] 43 (w3.heap.size+1) (by simp) j x hx;rw[zbh]at this
     exact this
end Go.Proofs.YtfafilmklhnngaaGreatDoor
namespace Go.Proofs.YtfafilmklhnngaaGreatDoor
open Go.RowKit Lx Tx
set_option maxRecDepth 100000
def zjK(i K0 b9:Nat)(V:List (List UInt8))(o:Option Ty)(w:World)(gg:Nat)(vj:Value)(wr:World):Prop :=
 ∃j K X Z A m c,gg=j-i/\vj=.int .i64 j/\i<=j/\j<K0/\Blk wr b9 43 #[.int .i64 K,.string X,.int .i64 Z,.slice A m c] /\
  Blk wr w.heap.size 43 #[.int .i64 0,.string ⟨#[]⟩,.int .i64 0,.slice none 0 0]/\Below w.heap.size w wr /\
  ∀t0,o=some t0->RdV (λg=>w.heap.size<g/\g<wr.heap.size/\g≠b9) wr (alls (V.drop (j-i)) t0) (.agg #[.int .i64 K,.string X,.int .i64 Z,.slice A m c])
theorem zhR(f:Nat)(ts:List Tok)(v:Value)(w:World)(i:Nat)(hv:RdT w v ts)(hn:ts.length<=100000)(hf:4*(ts.length-i)+4<=f+1)(hq:isAt ts i 3 wForall=true)
  (qj:∀(w:World)(i:Nat),RdT w v ts->i<=ts.length->4*(ts.length-i)+4<=f->Calls Tryz.prog 54 #[v,.int .i64 i] w (RPost ts i w (read f (ts.drop i)))):Calls Tryz.prog 54 #[v,.int .i64 i] w (RPost ts i w (read (f+1) (ts.drop i))):=by
 have ah:=zdS _ _ _ _ hq;have nS:∀w,RdT w v ts->Calls Tryz.prog 97 #[v,.int .i64 i,.int .i64 3,.string ⟨#[102,111,114,97,108,108]⟩] w λe w'=>e=.returned (.bool true)/\w=w':=by
  intro w hv;rw[<-hq]
  exact zc1 _ ts i 3 ⟨#[102,111,114,97,108,108]⟩ 3 rfl w hv
 obtain⟨dm,dK,qI,kB⟩:=zo5 ts ts.length (i+1) (by omega) (by omega);have HO0:=zny f ts i hq _ rfl qI;generalize hVe:(vars (ts.drop (i+1))).1=V at *;obtain⟨O,hO⟩:∃O,read (f+1) (ts.drop i)=O:=⟨_,rfl⟩;rw[hO]
 rw[hO]at HO0
 obtain⟨K0,hK0⟩:∃K0,i+1+V.length=K0:=⟨_,rfl⟩;rw[hK0]at dK kB HO0
 have HO:=CS HO0;have fK:Hid (∀k,i+1<=k->k<K0->∃h:k<ts.length,ts[k].kind=1/\ts[k].text=V.getD (k-(i+1)) []):=by
  refine CS λk h1 h2=>?_;obtain⟨d,rfl⟩:∃d,k=i+1+d:=⟨k-(i+1),by omega⟩;obtain⟨h,e1,e2⟩:=dm d (by omega);exact⟨h,e1,by rw[e2,Br,AO,Ak (by omega)];rfl⟩
 have zc:=CS kB;have zN:=CS hK0;have hKi:i+1<=K0:=by omega
 obtain⟨q,lQ⟩:∃q,isAt ts K0 6 [46]=q:=⟨_,rfl⟩;have HQ:=CS lQ;have iw:∀w,RdT w v ts->Calls Tryz.prog 97 #[v,.int .i64 K0,.int .i64 6,.string ⟨#[46]⟩] w λe w'=>e=.returned (.bool q)/\w=w':=by
  intro w hv;rw[<-lQ]
  exact zc1 _ ts K0 6 ⟨#[46]⟩ 6 rfl w hv
 clear HO0 hVe dm qI kB hO hq lQ hK0;obtain⟨g,c,rfl,_,_,_⟩:=hv.at_ i ah;have ik:=hv.lt (by omega);obtain⟨n,hN⟩:∃n,ts.length=n:=⟨_,rfl⟩;have HN:=CS hN;rw[hN]at hv nS iw hn hf ah dK qj ⊢
 have HV:=CS hv;have HR:=CS qj;clear hN qj hv;go_enter Tryz.func54,Tryz.ntmps54
 go_wp2_with (go_at_call 97;refine(nS _ (HV.out.alloc _)).mono ?_;rintro e w2 ⟨rfl,rfl⟩)
 go_loopg [7] (K0-(i+1)) (λgg vk wr=>∃k:Nat,gg=K0-k/\vk=.int .i64 k/\wr=w.alloc (.cells #[.int .i64 0,.string ⟨#[]⟩,.int .i64 0,.slice none 0 0] 43)/\i+1<=k/\k<=K0)
 case atStart=>exact⟨i+1,rfl,by go_num,rfl,by omega,hKi⟩
 case round =>
  obtain⟨k,rfl,rfl,rfl,bI,cC⟩:=hrel;by_cases hkK:k<K0
  ·obtain⟨bW,e1,-⟩:=fK.out k bI hkK
   have e0:=(HV.out.cells k bW).1;rw[e1]at e0
   have e0:w.cell? ⟨g,k*3,none⟩=some (.int .i64 1):=e0;have pO:k<n:=by omega
   clear e1 bW;go_wp2_with fail
   go_roundg (K0-(k+1))
   case measure=>omega
   case rel=>exact⟨k+1,rfl,by go_num,rfl,by omega,by omega⟩
  ·obtain rfl:k=K0:=by omega
   by_cases bW:k<n
   ·have pO:k<ts.length:=by rw[HN.out];exact bW
    have e0:=(HV.out.cells k pO).1;obtain⟨m,hm⟩:∃m,ts[k].kind=m:=⟨_,rfl⟩;have d1:=kF m 1 (by rw[<-hm];exact zc.out pO);rw[hm]at e0
    clear hm pO;cases q
    ·have HO:Hid (O=none):=CS (HO.out.trans (by rw[HQ.out];simp))
     go_wp2_with (go_at_call 97;refine(iw _ (HV.out.alloc _)).mono ?_;rintro e w2 ⟨rfl,rfl⟩)
     try simp only[Exit.inBlock,Exit.then]
     refine bodyPost_ret (zae rfl _ _ w.heap.size 43 _ (0,0) _ rfl (heap_alloc_new _ _) Tryz.underlying43 rfl (by kernel_rfl)) rfl ?_;exact zaI ts i w _ _ _ 0 ⟨#[]⟩ 0 none 0 0 ((Below.refl _ w).alloc (Ai _) _) HO.out rfl
    ·by_cases hki:k=i+1
     ·have dk:((k:Int) ==(i:Int)+1)=true:=by simp;omega
      have yo:V=[]:=by cases V with|nil=>rfl|cons a b=>have:=zN.out;simp at this;omega
      have HO:Hid (O=none):=CS (HO.out.trans (by rw[Aq yo]));clear yo hki;go_wp2_with (go_at_call 97;refine(iw _ (HV.out.alloc _)).mono ?_;rintro e w2 ⟨rfl,rfl⟩)
      try simp only[Exit.inBlock,Exit.then]
      refine bodyPost_ret (zae rfl _ _ w.heap.size 43 _ (0,0) _ rfl (heap_alloc_new _ _) Tryz.underlying43 rfl (by kernel_rfl)) rfl ?_;exact zaI ts i w _ _ _ 0 ⟨#[]⟩ 0 none 0 0 ((Below.refl _ w).alloc (Ai _) _) HO.out rfl
     ·have dk:((k:Int) ==(i:Int)+1)=false:=by rw[AG];intro h;simp at h;omega
      have yo:V≠[]:=by intro e;have:=zN.out;rw[e]at this;simp at this;omega
      have HO:Hid (O=(read f (ts.drop (k+1))).map λx=>(alls V x.1,x.2)):=CS (HO.out.trans (by rw[Am yo,HQ.out,Aq rfl]));clear yo;go_wp2_with (go_at_call 97;refine(iw _ (HV.out.alloc _)).mono ?_;rintro e w2 ⟨rfl,rfl⟩)
      refine(HR.out _ (k+1) (HV.out.alloc _) (by omega) (by omega)).mono ?_;rintro e w1 ⟨b1,K1,X1,Z1,A1,m1,c1,aB⟩;have aE:Blk w1 w.heap.size 43 #[.int .i64 0,.string ⟨#[]⟩,.int .i64 0,.slice none 0 0]:=Blk.below (heap_alloc_new _ _) b1 (by simp);have cQ:=CS aE;have B1:=CS b1;have dj:=aE.lt;clear aE b1;rcases aB with⟨ho,rfl⟩|⟨t,k2,cC,kW,ho,rfl,hr⟩
      ·have HO:Hid (O=none):=CS (HO.out.trans (by rw[ho];rfl))
       clear ho;go_wp2_with fail
       go_loopg [11] (k-1-i) (λgg vj wr=>zjK i k w1.heap.size V none w gg vj wr)
       case atStart =>
        refine⟨k-1,K1,X1,Z1,A1,m1,c1,by omega,by go_num,by omega,by omega,heap_alloc_new _ _,cQ.out.alloc _,(zaC B1.out (Ai _)).alloc (by omega) _,?_⟩;intro t0 h;exact absurd h (by simp)
       case round =>
        obtain⟨j,K,X,Z,A,mm,cc,rfl,rfl,mZ,hjK,bM,aE,aH,aK⟩:=hrel;obtain⟨p0,p1,p2,p3,s0,s1,s2,s3,di⟩:=zaa bM;obtain⟨a0,a1,a2,a3,r0,r1,r2,r3,je⟩:=zaa aE;have qE:=CS bM;have cQ:=CS aE;have aG:=CS aH;have cF:=CS aK;have uX:g<wr.heap.size:=by have:=aH.size;omega
        clear bM aE aK;by_cases hji:i<j
        ·obtain⟨pQ,-,rf⟩:=fK.out j (by omega) (by omega)
         obtain⟨-,e1⟩:=(HV.out.below aH).cells j pQ;obtain⟨Y,hY⟩:∃Y:ByteArray,⟨ts[j].text.toArray⟩=Y:=⟨_,rfl⟩;rw[hY]at e1
         have HY:Hid (Y=⟨(V.getD (j-(i+1)) []).toArray⟩):=CS (by rw[<-hY,rf]);have hjn':j<n:=by omega
         clear aH rf hY pQ;go_wp2_with fail
         go_region
         go_wp2_with fail
         go_roundg (j-1-i)
         case measure=>omega
         case rel =>
          have aD:=aG.out.size;have h9:w.heap.size<w1.heap.size:=dj;refine⟨j-1,5,Y,0,some ⟨wr.heap.size,0,none⟩,1,1,by omega,by go_num,by omega,by omega,((zah _ _ _ _ qE.out).alloc _).drew,((zfC (by omega) cQ.out).alloc _).drew,((zak aG.out _ _ _ _ (by omega)).alloc (by simp;omega) _).drew,λt0 h=>?_⟩;rw[zeM V (j-1-i) t0 (by have:=zN.out;omega),show j-1-i+1=j-i by omega]
          refine zeL (w:=wr) (by rw[HY.out,show j-1-i=j-(i+1) by omega]) (cF.out t0 h) (λg hg=>?_) (λg hg=>?_) ?_ ?_
          ·have:=hg.2.1
           exact⟨hg.1,by simp;omega,hg.2.2⟩
          ·exact(Below.heap_alloc _ _ _ (by simp;exact hg.2.1)).trans (zat _ _ _ _ _ _ _ hg.2.2)
          ·exact⟨by omega,by simp,by omega⟩
          ·intro d u hu
           have:=zas ((((wr.setCell ⟨w1.heap.size,0,none⟩ (.int .i64 5)).setCell ⟨w1.heap.size,1,none⟩ (.string Y)).setCell ⟨w1.heap.size,2,none⟩ (.int .i64 0)).setCell ⟨w1.heap.size,3,none⟩ (.slice (some ⟨wr.heap.size,0,none⟩) 1 1)) #[.int .i64 K,.string X,.int .i64 Z,.slice A mm cc] 43 wr.heap.size (by simp) d u hu;rw[zbh]at this
           exact this
        ·clear aH
         go_wp2_with fail
         try simp only[Exit.inBlock,Exit.then]
         refine bodyPost_ret (zae rfl _ _ w.heap.size 43 _ (0,0) _ rfl (zah _ _ _ _ cQ.out) Tryz.underlying43 rfl (by kernel_rfl)) rfl ?_;exact zaI ts i w _ _ _ K X Z A mm cc (zak aG.out _ _ _ _ (Ai _)) HO.out rfl
      ·have HO:Hid (O=some (alls V t,ts.drop k2)):=CS (HO.out.trans (by rw[ho];rfl))
       have HT:=CS hr;clear ho hr;go_wp2_with fail
       go_loopg [11] (k-1-i) (λgg vj wr=>zjK i k w1.heap.size V (some t) w gg vj wr)
       case atStart =>
        refine⟨k-1,K1,X1,Z1,A1,m1,c1,by omega,by go_num,by omega,by omega,heap_alloc_new _ _,cQ.out.alloc _,(zaC B1.out (Ai _)).alloc (by omega) _,?_⟩;intro t0 h;injection h with h;subst h;rw[AP (by have:=zN.out;omega)]
        exact HT.out.keep (λg hg=>by simp at hg ⊢;omega) (λg hg=>Below.heap_alloc _ _ _ hg.2)
       case round =>
        obtain⟨j,K,X,Z,A,mm,cc,rfl,rfl,mZ,hjK,bM,aE,aH,aK⟩:=hrel;obtain⟨p0,p1,p2,p3,s0,s1,s2,s3,di⟩:=zaa bM;obtain⟨a0,a1,a2,a3,r0,r1,r2,r3,je⟩:=zaa aE;have qE:=CS bM;have cQ:=CS aE;have aG:=CS aH;have cF:=CS aK;have uX:g<wr.heap.size:=by have:=aH.size;omega
        clear bM aE aK;by_cases hji:i<j
        ·obtain⟨pQ,-,rf⟩:=fK.out j (by omega) (by omega)
         obtain⟨-,e1⟩:=(HV.out.below aH).cells j pQ;obtain⟨Y,hY⟩:∃Y:ByteArray,⟨ts[j].text.toArray⟩=Y:=⟨_,rfl⟩;rw[hY]at e1
         have HY:Hid (Y=⟨(V.getD (j-(i+1)) []).toArray⟩):=CS (by rw[<-hY,rf]);have hjn':j<n:=by omega
         clear aH rf hY pQ;go_wp2_with fail
         go_region
         go_wp2_with fail
         go_roundg (j-1-i)
         case measure=>omega
         case rel =>
          have aD:=aG.out.size;have h9:w.heap.size<w1.heap.size:=dj;refine⟨j-1,5,Y,0,some ⟨wr.heap.size,0,none⟩,1,1,by omega,by go_num,by omega,by omega,((zah _ _ _ _ qE.out).alloc _).drew,((zfC (by omega) cQ.out).alloc _).drew,((zak aG.out _ _ _ _ (by omega)).alloc (by simp;omega) _).drew,λt0 h=>?_⟩;rw[zeM V (j-1-i) t0 (by have:=zN.out;omega),show j-1-i+1=j-i by omega]
          refine zeL (w:=wr) (by rw[HY.out,show j-1-i=j-(i+1) by omega]) (cF.out t0 h) (λg hg=>?_) (λg hg=>?_) ?_ ?_
          ·have:=hg.2.1
           exact⟨hg.1,by simp;omega,hg.2.2⟩
          ·exact(Below.heap_alloc _ _ _ (by simp;exact hg.2.1)).trans (zat _ _ _ _ _ _ _ hg.2.2)
          ·exact⟨by omega,by simp,by omega⟩
          ·intro d u hu
           have:=zas ((((wr.setCell ⟨w1.heap.size,0,none⟩ (.int .i64 5)).setCell ⟨w1.heap.size,1,none⟩ (.string Y)).setCell ⟨w1.heap.size,2,none⟩ (.int .i64 0)).setCell ⟨w1.heap.size,3,none⟩ (.slice (some ⟨wr.heap.size,0,none⟩) 1 1)) #[.int .i64 K,.string X,.int .i64 Z,.slice A mm cc] 43 wr.heap.size (by simp) d u hu;rw[zbh]at this
           exact this
        ·clear aH
         go_wp2_with fail
         try simp only[Exit.inBlock,Exit.then]
         refine bodyPost_ret (zae rfl _ _ w.heap.size 43 _ (0,0) _ rfl (zah _ _ _ _ cQ.out) Tryz.underlying43 rfl (by kernel_rfl)) rfl ?_;obtain rfl:i=j:=by omega
         have hr:=cF.out t rfl;rw[Nat.sub_self,BM]at hr
         refine zbb ts i w _ _ _ K X Z A mm cc (alls V t) k2 (zak aG.out _ _ _ _ (Ai _)) (by omega) kW HO.out rfl ?_;exact hr.keep (λg hg=>by simp at hg ⊢;omega) (λg hg=>zat _ _ _ _ _ _ _ (by omega))
   ·cases q
    ·have HO:Hid (O=none):=CS (HO.out.trans (by rw[HQ.out];simp))
     go_wp2_with (go_at_call 97;refine(iw _ (HV.out.alloc _)).mono ?_;rintro e w2 ⟨rfl,rfl⟩)
     try simp only[Exit.inBlock,Exit.then]
     refine bodyPost_ret (zae rfl _ _ w.heap.size 43 _ (0,0) _ rfl (heap_alloc_new _ _) Tryz.underlying43 rfl (by kernel_rfl)) rfl ?_;exact zaI ts i w _ _ _ 0 ⟨#[]⟩ 0 none 0 0 ((Below.refl _ w).alloc (Ai _) _) HO.out rfl
    ·exact absurd (zdS _ _ _ _ HQ.out) (by rw[HN.out];exact bW)
theorem zm9(ts:List Tok)(v:Value)(hg:AllG ts)(hn:ts.length<=100000)(f:Nat):∀f1,f1<=f ->
  (∀(w:World)(i:Nat),RdT w v ts->i<=ts.length->4*(ts.length-i)+4<=f1->Calls Tryz.prog 54 #[v,.int .i64 i] w (RPost ts i w (read f1 (ts.drop i)))) /\
  (∀(w:World)(i:Nat),RdT w v ts->i<=ts.length->4*(ts.length-i)+3<=f1->Calls Tryz.prog 98 #[v,.int .i64 i] w (RPost ts i w (app f1 (ts.drop i)))) /\
  (∀(w:World)(i:Nat),RdT w v ts->i<=ts.length->4*(ts.length-i)+2<=f1->Calls Tryz.prog 146 #[v,.int .i64 i] w (RPost ts i w (atom f1 (ts.drop i)))):=by
 induction f with
 |zero =>
  intro f1 h;exact⟨λw i _ _ h2=>by omega,λw i _ _ h2=>by omega,λw i _ _ h2=>by omega⟩
 |succ f ih =>
  intro f1 h1;by_cases h:f1<=f
  ·exact ih f1 h
  ·obtain rfl:f1=f+1:=by omega
   have i0:=ih f (Ai _);refine⟨λw i hv hi hf=>?_,λw i hv hi hf=>?_,λw i hv hi hf=>?_⟩
   ·cases hq:isAt ts i 3 wForall with
    |true=>exact zhR f ts v w i hv hn hf hq i0.1
    |false=>exact zhQ f ts v w i hv hn hi hf hq i0.2.1 i0.1
   ·exact zm8 f ts v w i hv hn hi hf (λf1 h=>(ih f1 h).2.2)
   ·exact zlt f ts v w i hv hg hn hi hf i0.1
theorem zlv(ts:List Tok)(v:Value)(w:World)(hg:AllG ts)(hn:ts.length<=100000)(hv:RdT w v ts):Calls Tryz.prog 54 #[v,.int .i64 0] w (RPost ts 0 w (read (enough ts) ts)):=by
 have:=(zm9 ts v hg hn (enough ts) (enough ts) (Ai _)).1 w 0 hv (AV _) (by unfold enough;omega);rwa [BM]at this
end Go.Proofs.YtfafilmklhnngaaGreatDoor
namespace Go.Proofs.YtfafilmklhnngaaGreatDoor
open Go.RowKit Lx Tx
set_option maxRecDepth 100000
theorem zkn(s:ByteArray)(w:World)(hs:s.size<=maxLen):Calls Tryz.prog 19 #[.string s] w (PPost s.data.toList w):=by
 go_enter Tryz.func19,Tryz.ntmps19
 go_wp2_with fail
 refine(zoW s _ hs).mono ?_;rintro e w1 ⟨b1,v,ts,a,er,sp,rfl,ai⟩;have aE:Blk w1 w.heap.size 43 #[.int .i64 0,.string ⟨#[]⟩,.int .i64 0,.slice none 0 0]:=Blk.below (heap_alloc_new _ _) b1 (by simp);obtain⟨a0,a1,a2,a3,r0,r1,r2,r3,dj⟩:=zaa aE;have cQ:=CS aE;have B1:=CS b1;have nU:=CS sp;have cF:=CS (RdT.of_own ai);obtain⟨P,c,rfl⟩:∃P c,v=.slice P ts.length c:=zam ai;clear aE b1 sp ai;by_cases he:er=0
 ·subst he
  obtain⟨hG,hL⟩:=zg9 _ _ _ nU.out;have HR:=CS (zlv ts (.slice P ts.length c) w1 hG (by omega) cF.out);obtain⟨n,hN⟩:∃n,ts.length=n:=⟨_,rfl⟩;have HN:=CS hN;rw[hN]at HR hL ⊢
  clear hN;go_wp2_with fail
  refine HR.out.mono ?_;rintro e w2 ⟨b2,K1,X1,Z1,A1,m1,c1,aB⟩;have aE:=cQ.out.below b2 dj;obtain⟨a0,a1,a2,a3,r0,r1,r2,r3,ia⟩:=zaa aE;have gE:=CS aE;have B2:=CS b2;have aG:=CS (bnext (zaC B1.out (Ai _)) b2 (Ai _));clear aE b2;rcases aB with⟨ho,rfl⟩|⟨t,k,hk,bW,ho,rfl,hr⟩
  ·have HP:=CS (zdw _ _ _ nU.out (by rw[ho];simp))
   have dn:((-1:Int) !=(n:Int))=true:=neqT _ _ (by omega);clear ho;go_wp2_with fail
   try simp only[Exit.inBlock,Exit.then]
   refine bodyPost_ret (zae rfl _ _ w.heap.size 43 _ (0,0) _ rfl ((zah _ _ _ _ gE.out).alloc _) Tryz.underlying43 rfl (by kernel_rfl)) rfl ?_;exact zb7 _ _ _ _ 20 20 ((zak aG.out _ _ _ _ (Ai _)).alloc (by simp;omega) _) (by decide) HP.out rfl rfl
  ·by_cases ic:k=n
   ·have dn:((k:Int) !=(n:Int))=false:=neqF _ _ (by rw[ic])
    have HP:=CS (zf1 _ _ _ t nU.out (by rw[ho,AP (by rw[HN.out];omega)]));have HT:=CS hr;have pk:t.size<=4000:=by
     have:=((zdY _).1 ts t _ hG ho).2.2;have:=HN.out;omega
    clear ho hr ic hG;have HD:=CS (λw v hv hS=>zkm 1000000 t (λg=>w1.heap.size<=g/\g<w2.heap.size) v w (by omega) (by omega) hv hS);obtain⟨D,hD⟩:∃D,t.depth=D:=⟨_,rfl⟩;rw[hD]at HP HD
    clear hD;go_wp2_with fail
    refine(HD.out _ _ (HT.out.keep (λ_ h=>h) (λg hg=>Below.heap_alloc _ _ _ hg.2)) (λg hg=>by simp;omega)).mono ?_;rintro e w3 ⟨rfl,b3⟩;have aE:=(gE.out.alloc (.cells #[.int .i64 K1,.string X1,.int .i64 Z1,.slice A1 m1 c1] 43)).below b3 (by simp;omega);have ef:Blk w3 w2.heap.size 43 #[.int .i64 K1,.string X1,.int .i64 Z1,.slice A1 m1 c1]:=Blk.below (heap_alloc_new _ _) b3 (by simp);obtain⟨a0,a1,a2,a3,r0,r1,r2,r3,je⟩:=zaa aE;obtain⟨p0,p1,p2,p3,s0,s1,s2,s3,sP⟩:=zaa ef;have HE0:=CS aE;have rD:=CS (bnext aG.out (zaC b3 (Ai _)) (by have:=aG.out.size;omega));have eR:=CS (HT.out.keep (S':=λg=>w1.heap.size<=g/\g<w2.heap.size) (λ_ h=>h) (λg hg=>(zaC b3 (Ai _)).block g hg.2));have wz:=(zaC b3 (Ai _)).size;have iS:=aG.out.size;have sk:=(zaC B1.out (Ai _)).size;clear aE ef b3;by_cases hd:50<D
    ·have dd:decide ((50:Int)<(D:Int))=true:=AN (by omega)
     have HP:=CS (HP.out.trans (Aq hd));clear hd;go_wp2_with fail
     try simp only[Exit.inBlock,Exit.then]
     refine bodyPost_ret (zae rfl _ _ w.heap.size 43 _ (0,0) _ rfl (zah _ _ _ _ HE0.out) Tryz.underlying43 rfl (by kernel_rfl)) rfl ?_;exact zb7 _ _ _ _ 3 3 (zak rD.out _ _ _ _ (Ai _)) (by decide) HP.out rfl rfl
    ·have dd:decide ((50:Int)<(D:Int))=false:=AQ (by omega)
     have HP:=CS (HP.out.trans (Am hd));clear hd;go_wp2_with fail
     try simp only[Exit.inBlock,Exit.then]
     refine bodyPost_ret (zae rfl _ _ w.heap.size 43 _ (0,0) _ rfl (zah _ _ _ _ HE0.out) Tryz.underlying43 rfl (by kernel_rfl)) rfl ?_;refine⟨zak rD.out _ _ _ _ (Ai _),K1,X1,Z1,A1,m1,c1,.inr ⟨t,HP.out,rfl,?_⟩⟩;exact eR.out.keep (λg hg=>by simp;omega) (λg hg=>zat _ _ _ _ _ _ _ (by omega))
   ·have dn:((k:Int) !=(n:Int))=true:=neqT _ _ (by omega)
    have HP:=CS (zdw _ _ _ nU.out (by
     rw[ho]
     intro t' e;injection e with e;injection e with _ e;have:=Az List.length e;rw[Bk,HN.out]at this
     simp at this;rw[HN.out]at bW
     omega))
    clear ho hr ic;go_wp2_with fail
    try simp only[Exit.inBlock,Exit.then]
    refine bodyPost_ret (zae rfl _ _ w.heap.size 43 _ (0,0) _ rfl ((zah _ _ _ _ gE.out).alloc _) Tryz.underlying43 rfl (by kernel_rfl)) rfl ?_;exact zb7 _ _ _ _ 20 20 ((zak aG.out _ _ _ _ (Ai _)).alloc (by simp;omega) _) (by decide) HP.out rfl rfl
 ·have de:=neqT (er:Int) 0 (by omega)
  have HP:=CS (zha _ _ _ _ nU.out he);have HE:=CS he;clear he;go_wp2_with fail
  try simp only[Exit.inBlock,Exit.then]
  refine bodyPost_ret (zae rfl _ _ w.heap.size 43 _ (0,0) _ rfl (zah _ _ _ _ cQ.out) Tryz.underlying43 rfl (by kernel_rfl)) rfl ?_;exact zb7 _ _ _ _ er er (zak (zaC B1.out (Ai _)) _ _ _ _ (Ai _)) HE.out HP.out rfl rfl
end Go.Proofs.YtfafilmklhnngaaGreatDoor
