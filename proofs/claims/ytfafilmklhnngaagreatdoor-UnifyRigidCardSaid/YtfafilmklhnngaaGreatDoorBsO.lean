import Derived.Test.YtfafilmklhnngaaGreatDoorBsL
import Derived.Laws.IdiomStrings
import Derived.Deep.RegionWith
import Derived.Deep.RegionHeld3
import Derived.Deep.AppendLies
set_option maxHeartbeats 12800000
set_option maxRecDepth 100000
namespace Go.Proofs.YtfafilmklhnngaaGreatDoor
open Tryz
section
open Go.RowKit Lx Tx
set_option maxRecDepth 100000
theorem V_ {a b:ByteArray}(h:a=b):Ending.returned (.string a)=.returned (.string b):=by rw[h]
theorem zmQ(l:List UInt8)(b:UInt8):((⟨l.toArray⟩:ByteArray)++(⟨#[b]⟩:ByteArray))=⟨(l++[b]).toArray⟩:=by
 apply ByteArray.ext
 simp
theorem zkc(l:List Ty)(t:Ty):ID (l++[t])=ID l++(if t.ON then 32::40::(t.print++[41]) else 32::t.print):=by
 induction l with
 |nil=>simp[ID]
 |cons a r ih=>rw[Co,ID,ID,ih];simp
theorem zkd(l:List Ty)(i:Nat)(hi:i<l.length):ID (l.take (i+1))=ID (l.take i)++(if l[i].ON then 32::40::(l[i].print++[41]) else 32::l[i].print):=by
 rw[OC l i hi,zkc]
theorem zhq(l:List Ty)(i:Nat):(ID (l.take i)).length<=(ID l).length:=by
 induction l generalizing i with
 |nil=>simp
 |cons t r ih =>
  cases i with
  |zero=>simp[ID]
  |succ i=>rw[CX,ID,ID];have:=ih i;simp;omega
theorem Mc {t:Ty}(h:Nm t)(i:Nat)(hi:i<(kids t).length):Nm (kids t)[i]:=by
 cases h with
 |var x _=>simp[kids]at hi
 |mt n _=>simp[kids]at hi
 |h_ c l _ hl=>exact hl _ (CS hi)
 |fn a b ha hb =>
  match i,hi with
  |0,_=>exact ha
  |1,_=>exact hb
  |i+2,hi=>exact absurd hi (by simp[kids])
 |all x t _ ht =>
  match i,hi with
  |0,_=>exact ht
  |i+1,hi=>simp[kids]at hi
theorem QJ {S:Nat->Prop} {w w':World} {t:Ty} {A:Option Addr} {i m:Nat}(h:j_ S w t A)(hm:(kids t).length=m)(hi:i<m)(hk:∀g,S g->w'.heap[g]?=w.heap[g]?):∃g u K X Z A1 n1 c1,A=some ⟨g,0,none⟩/\S g/\w'.cell? ⟨g,i*4,none⟩=some (.int .i64 K)/\w'.cell? ⟨g,i*4+1,none⟩=some (.string X)/\w'.cell? ⟨g,i*4+2,none⟩=some (.int .i64 Z) /\
   w'.cell? ⟨g,i*4+3,none⟩=some (.slice A1 n1 c1)/\(∃hi:i<(kids t).length,(kids t)[i]=u)/\nc S w' u (.agg #[.int .i64 K,.string X,.int .i64 Z,.slice A1 n1 c1])/\u.size<t.size/\K=(kd u:Nat)/\n1=(kids u).length:=by
 subst hm;obtain⟨g,h1,h2,A1,c1,h3,h4⟩:=h.Hm i hi;obtain⟨e0,e1,e2,e3⟩:=h3.al (hk g h2);exact⟨g,(kids t)[i],_,_,_,A1,_,c1,h1,h2,e0,e1,e2,e3,⟨hi,rfl⟩,⟨A1,c1,rfl,h4.al (λ_ h=>h) hk⟩,Vu t i hi,rfl,rfl⟩
theorem Wr {S:Nat->Prop} {w:World} {u:Ty} {A:Option Addr} {c g o:Nat}(h:F7 w u A c g o)(ha:j_ S w u A):∃K X Z n,w.cell? ⟨g,o,none⟩=some (.int .i64 K)/\w.cell? ⟨g,o+1,none⟩=some (.string X)/\w.cell? ⟨g,o+2,none⟩=some (.int .i64 Z)/\w.cell? ⟨g,o+3,none⟩=some (.slice A n c) /\
   nc S w u (.agg #[.int .i64 K,.string X,.int .i64 Z,.slice A n c])/\K=(kd u:Nat)/\n=(kids u).length :=
 ⟨_,_,_,_,h.1,h.2.1,h.2.2.1,h.2.2.2,⟨A,c,rfl,ha⟩,rfl,rfl⟩
theorem zoX {S:Nat->Prop} {w:World} {y:List UInt8} {u:Ty} {K Z:Int} {X:ByteArray} {A:Option Addr} {m c:Nat}(h:nc S w (.all y u) (.agg #[.int .i64 K,.string X,.int .i64 Z,.slice A m c])):K=5/\X=⟨y.toArray⟩/\m=1/\∃g,A=some ⟨g,0,none⟩/\S g/\∃K1 X1 Z1 A1 n1 c1,w.cell? ⟨g,0,none⟩=some (.int .i64 K1)/\w.cell? ⟨g,1,none⟩=some (.string X1)/\w.cell? ⟨g,2,none⟩=some (.int .i64 Z1)/\w.cell? ⟨g,3,none⟩=some (.slice A1 n1 c1) /\
   nc S w u (.agg #[.int .i64 K1,.string X1,.int .i64 Z1,.slice A1 n1 c1]):=by
 obtain⟨A',c',hv,ha⟩:=h;injection hv with hv;have hv:=Cp Array.toList hv;simp only[DF,Value.int.injEq,Value.string.injEq,Value.slice.injEq,and_true,true_and]at hv;obtain⟨rfl,rfl,rfl,rfl,rfl,rfl⟩:=hv;rw[j_]at ha
 obtain⟨g,rfl,hg,A1,c1,h1,r1⟩:=ha;obtain⟨K1,X1,Z1,n1,e0,e1,e2,e3,rd1,-,-⟩:=Wr h1 r1;exact⟨rfl,rfl,rfl,g,rfl,hg,K1,X1,Z1,A1,n1,c1,e0,e1,e2,e3,rd1⟩
theorem zlu(l:List Ty)(t:Ty):IU (l++[t])=(IU l||t.r_):=by
 induction l with
 |nil=>simp[IU]
 |cons a r ih=>rw[Co,IU,IU,ih,Bool.or_assoc]
theorem Mz(w:World)(o:Obj)(g:Nat)(hg:g=w.heap.size):(w.alloc o).heap[g]?=some o:=by
 subst hg;exact BZ w o
theorem zlv(l:List Ty)(i:Nat):q_ (l.take i)+q_ (l.drop i)=q_ l:=by
 induction l generalizing i with
 |nil=>simp[q_]
 |cons t r ih =>
  cases i with
  |zero=>simp[q_]
  |succ i=>rw[CX,EH,q_,q_];have:=ih i;omega
theorem zmR(x:Nat)(l:List Nat):(FJ x l).length<=l.length+1:=by
 unfold FJ;split <;> simp
mutual
theorem QX:(t:Ty)->∀out,(t.z_ out).length<=out.length+t.size
 |.var x,out=>by rw[Ty.z_,Ty.size];omega
 |.mt n,out=>by rw[Ty.z_,Ty.size];exact zmR n out
 |.h_ c l,out=>by rw[Ty.z_,Ty.size];have:=zf7 l out;omega
 |.fn t u,out=>by rw[Ty.z_,Ty.size];have:=QX t out;have:=QX u (t.z_ out);omega
 |.all x t,out=>by rw[Ty.z_,Ty.size];have:=QX t out;omega
theorem zf7:(l:List Ty)->∀out,(Md l out).length<=out.length+q_ l
 |[],out=>by rw[Md,q_];omega
 |t::r,out=>by rw[Md,q_];have:=QX t out;have:=zf7 r (t.z_ out);omega
end
set_option maxRecDepth 100000
theorem zmx(W:World)(x:Int)(b:UInt8)(hx:x=b.toNat):(convert 126 9 (.slice (some ⟨W.heap.size,0,none⟩) 1 1)).run prog (W.alloc (.cells #[.int .u8 x] 5))=.ok (.string ⟨#[b]⟩) (W.alloc (.cells #[.int .u8 x] 5)):=by
 subst hx;refine run_convert_bytes_back (W.alloc (.cells #[.int .u8 (b.toNat:Int)] 5)) 126 9 5 ⟨W.heap.size,0,none⟩ 1 [b] underlying126 underlying5 underlying9 ?_;intro j hj;simp at hj;subst hj;rw[show(⟨W.heap.size,0,none⟩:Addr).add 0=⟨W.heap.size,0,none⟩ from rfl,cell_of_row _ _ _ _ 5 (0,0) (BZ _ _)];rfl
theorem zmy(W:World)(g:Nat)(x:Int)(b:UInt8)(hx:x=b.toNat)(hc:W.cell? ⟨g,0,none⟩=some (.int .u8 x)):(convert 126 9 (.slice (some ⟨g,0,none⟩) 1 1)).run prog W=.ok (.string ⟨#[b]⟩) W:=by
 subst hx;refine run_convert_bytes_back W 126 9 5 ⟨g,0,none⟩ 1 [b] underlying126 underlying5 underlying9 ?_;intro j hj;simp at hj;subst hj;rw[show(⟨g,0,none⟩:Addr).add 0=⟨g,0,none⟩ from rfl];exact hc
theorem zmz(f:Nat):∀(n:Nat)(w:World),n<10 ^ f->n<10 ^ 18->1<=f->f<=20 ->
  Calls prog 26 #[.int .i64 n] w λe w'=>e=.returned (.string ⟨(Gh f n).toArray⟩)/\Below w.heap.size w w':=by
 induction f with
 |zero=>intro n w _ _ h;omega
 |succ f ih =>
  intro n w hn h18 _ arY;by_cases fF:n<10
  ·have zL:=λW=>zmx W (48+(n:Int)) (digit n) (by rw[Q7];omega)
   have hd:=EP (show Gh (f+1) n=[digit n] by rw[Gh,Ch fF]);clear ih hn;go_in;go_wp2_with fail;go_ret
   exact⟨V_ (by rw[hd.o]),(Cc _ _).alloc (BU _) _⟩
  ·obtain⟨m,hm⟩:∃m,n / 10=m:=⟨_,rfl⟩
   obtain⟨d,Xm⟩:∃d,n % 10=d:=⟨_,rfl⟩;have hd:=EP (show Gh (f+1) n=Gh f m++[digit n] by rw[Gh,Cg fF,hm]);have hf:1<=f:=by
    rcases Nat.eq_zero_or_pos f with e|e
    ·subst e;simp at hn;omega
    ·exact e
   have zL:=λW g=>zmy W g (48+(d:Int)) (digit n) (by rw[Q7,Xm];omega);have IH:=λw=>ih m w (by rw[EN]at hn;omega) (by omega) hf (by omega);have hlen:(Gh f m).length<=20:=Sl f 20 m (by omega) (by omega);obtain⟨D,hD⟩:∃D:ByteArray,⟨(Gh f m).toArray⟩=D:=⟨_,rfl⟩;have hDz:D.size<=20:=by rw[<-hD];exact hlen
   rw[hD]at IH;have HD:=EP hD;have q1:IntKind.i64.wrap ((n:Int) / 10)=(m:Int):=by rw[IntWalk.i64_in _ (by omega)];omega
   have q2:(n:Int).tmod 10=(d:Int):=by rw[Int.tmod_eq_emod_of_nonneg (by omega)];omega
   have q3:IntKind.i64.wrap (48+(d:Int))=48+(d:Int):=IntWalk.i64_in _ (by omega);have q4:IntKind.u8.wrap (48+(d:Int))=48+(d:Int):=by simp[IntKind.wrap,IntKind.signed,IntKind.bits];omega
   have hd9:d<=9:=by omega
   clear ih hn hD hlen hm Xm;go_in;go_wp2_with fail;go_region_with (go_at_call 26;(with_reducible refine(IH _).mono ?_);rintro e w1 ⟨rfl,b1⟩;have B1:=EP b1;(try have hc:w1.cell? ⟨w.heap.size,0,none⟩=some (.int .u8 (48+(d:Int))):=(b1.cell (p:=⟨w.heap.size,0,none⟩) (by simp)).trans (cell_of_row _ _ _ _ _ _ (BZ _ _)));clear b1)
   all_goals (go_wp2_with fail;go_ret)
   ·have B:Below w.heap.size w w1:=(Cc w.heap.size w).drew.trans B1.o
    exact⟨V_ (by rw[hd.o,<-HD.o,zmQ]),B.alloc B.size _⟩
   all_goals
    have B:Below w.heap.size w w1:=((Cc w.heap.size w).alloc (BU _) _).drew.trans (B1.o.mono (by simp));exact⟨V_ (by rw[hd.o,<-HD.o,zmQ]),B⟩
theorem zow(n:Nat)(w:World)(h:n<10 ^ 18):Calls prog 26 #[.int .i64 n] w λe w'=>e=.returned (.string ⟨(dec n).toArray⟩)/\Below w.heap.size w w' :=
 zmz 20 n w (by omega) h (by omega) (by omega)
set_option maxRecDepth 100000
theorem PH(v:Value)(ts:List Tok)(i K:Nat)(X:ByteArray)(k:Int)(Xa:k=K)(w:World)(h:GJ w v ts):Calls prog 97 #[v,.int .i64 i,.int .i64 k,.string X] w λe w'=>e=.returned (.bool (GL ts i K X.data.toList))/\w=w':=by
 subst Xa;obtain⟨R,hR⟩:∃R,GL ts i K X.data.toList=R:=⟨_,rfl⟩;rw[hR];by_cases hi:i<ts.length
 ·obtain⟨g,c,rfl,h0,h1,h2⟩:=h.at_ i hi
  rw[Qv ts i K _ hi]at hR;obtain⟨T,hT⟩:∃T:ByteArray,⟨ts[i].text.toArray⟩=T:=⟨_,rfl⟩;have nM:ts[i].text=T.data.toList:=by rw[<-hT]
  obtain⟨m,hm⟩:∃m,ts[i].kind=m:=⟨_,rfl⟩;rw[hT]at h1;rw[hm]at h0 hR;rw[nM]at hR;clear h2 hT nM hm h;obtain⟨n,hn⟩:∃n,ts.length=n:=⟨_,rfl⟩;rw[hn]at hi ⊢;clear hn;by_cases hk:m=K
  ·have dk:=kT m K hk
   by_cases hx:X=⟨#[]⟩
   ·have dx:X.toList.isEmpty=true:=by rw[hx,CL];rfl
    have hr:=EP (show R=true by rw[<-hR,hx,hk];simp);clear hk hx hR;go_in;go_wp2
    go_ret
    exact⟨Iy hr.o.symm,rfl⟩
   ·have ep:X.data.toList≠[]:=λe=>hx (ByteArray.ext (by simpa using e))
    have dx:X.toList.isEmpty=false:=by rw[CL];cases hz:X.data.toList with|nil=>exact absurd hz ep|cons a b=>rfl
    by_cases he:T=X
    ·have dt:=YY T X he
     have hr:=EP (show R=true by rw[<-hR,he,hk];simp);clear hk hx ep he hR;go_in;go_wp2
     go_ret
     exact⟨Iy hr.o.symm,rfl⟩
    ·have dt:=YZ T X he
     have he':¬T.data.toList=X.data.toList:=λe=>he (ByteArray.ext (by simpa using e));have hr:=EP (show R=false by rw[<-hR,hk,Cv.2 ep,Cv.2 he'];simp);clear hk hx ep he he' hR;go_in
     go_wp2
     go_ret
     exact⟨Iy hr.o.symm,rfl⟩
  ·have dk:=kF m K hk
   have hr:=EP (show R=false by rw[<-hR];simp[hk]);clear hk hR;go_in;go_wp2
   go_ret
   exact⟨Iy hr.o.symm,rfl⟩
 ·rw[Sv ts i K _ (by omega)]at hR
  obtain⟨A,c,rfl,_⟩:=h;obtain⟨n,hn⟩:∃n,ts.length=n:=⟨_,rfl⟩;rw[hn]at hi ⊢;clear hn;have hr:=EP hR;clear hR;go_in;go_wp2
  go_ret
  exact⟨Iy hr.o,rfl⟩
theorem zj5(s:ByteArray)(w:World)(hd:∀c∈s.data.toList,f_ c=true)(hs:s.size<=6):Calls prog 183 #[.string s] w λe w'=>e=.returned (.int .i64 (numOf s.data.toList:Nat))/\w=w':=by
 obtain⟨R,hR⟩:∃R,numOf s.data.toList=R:=⟨_,rfl⟩;have HR:=EP hR;have HD:=EP hd;rw[hR];clear hR hd;go_in;go_wp2
 go_loopg [3,4] s.size (λgg vn v wr=>∃k n:Nat,gg=s.size-k/\vn=.int .i64 n/\v=.int .i64 k/\wr=w/\k<=s.size/\n<1000000/\Hid (numOf (s.data.toList.take k)=n))
 case atStart=>exact⟨0,0,rfl,rfl,rfl,rfl,by omega,by omega,EP rfl⟩
 case round =>
  obtain⟨k,n,rfl,rfl,rfl,rfl,hk,hn6,hn⟩:=hrel;by_cases af:k<s.size
  ·have kE:k<s.data.toList.length:=by rw[<-Dc];exact af
   have Xk:f_ s[k]=true:=HD.o _ (by rw[show s[k]=s.data.toList[k] from rfl];exact CS _);have h48:48<=s[k].toNat:=by simp[f_]at Xk;exact Xk.1
   obtain⟨d,hd⟩:∃d,s[k].toNat-48=d:=⟨_,rfl⟩;have cO:s[k].toNat<256:=s[k].toNat_lt;have q1:IntKind.u8.wrap ((s[k].toNat:Int)-48)=(d:Int):=by simp[IntKind.wrap,IntKind.signed,IntKind.bits];omega
   have hr:Hid (numOf (s.data.toList.take (k+1))=10*n+d):=EP (by rw[OC _ k kE,zgY,hn.o,<-hd];rfl);have wD:10*n+d<1000000:=by
    rw[<-hr.o];refine Ci (zju _ (λc hc=>HD.o c (List.mem_of_mem_take hc))) ?_;rw[DH];exact Cm (EC (by omega) (show min (k+1) s.data.toList.length<=6 by omega)) (by decide)
   have hd8:d<256:=by omega
   clear Xk hd cO;go_wp2;go_roundg (s.size-(k+1))
   case measure=>omega
   case rel=>exact⟨k+1,10*n+d,rfl,by go_num,by go_num,rfl,by omega,wD,hr⟩
  ·have hr:=EP (show n=R by rw[<-HR.o,<-hn.o,Cq (by rw[<-Dc];omega)])
   go_wp2
   go_ret
   exact⟨JS (by rw[hr.o]),rfl⟩
end
section
open Go.RowKit Lx Tx
mutual
def E8:Ty->Nat
 |.var _=>1
 |.mt _=>1
 |.h_ _ l=>I7 l
 |.fn a b=>E8 a+(E8 b+0)
 |.all _ t=>E8 t+0
def I7:List Ty->Nat
 |[]=>0
 |t::r=>E8 t+I7 r
end
theorem zjE(t:Ty):E8 t=I7 (kids t)+if(((kd t:Nat):Int)==1) ||(((kd t:Nat):Int)==2) then 1 else 0:=by
 cases t <;> simp[E8,I7,kids,kd]
theorem VP:(l r:List Ty)->I7 (l++r)=I7 l+I7 r
 |[],r=>by rw[Cu,I7];omega
 |t::l,r=>by rw[Co,I7,I7,VP l r];omega
theorem zpF {l:List Ty} {i:Nat} {u:Ty}(h:l[i]?=some u):I7 (l.take (i+1))=I7 (l.take i)+E8 u/\I7 (l.take (i+1))<=I7 l:=by
 refine⟨?_,?_⟩
 ·rw[D9,h,VP]
  show _+(E8 u+0)=_;omega
 ·have:=VP (l.take (i+1)) (l.drop (i+1))
  rw[Ex]at this;omega
theorem zjF(n:Nat)(ih:∀t:Ty,t.size<=n->E8 t<=t.size):(l:List Ty)->q_ l<=n->I7 l<=q_ l
 |[],_=>BU _
 |t::r,h=>by
  rw[q_]at h ⊢;rw[I7];have h1:=ih t (by omega);have h2:=zjF n ih r (by omega);omega
theorem Vi(n:Nat):∀t:Ty,t.size<=n->E8 t<=t.size:=by
 induction n with
 |zero=>intro t h;rw[Gv]at h;omega
 |succ n ih =>
  intro t h;have hk:=Gv t;have hl:=zjF n ih (kids t) (by omega);have hn:=zjE t;split at hn <;> omega
theorem zhb(n:Nat):∀(t:Ty)(S:Nat->Prop)(v:Value)(w:World),t.size<=n->n<=1000000->nc S w t v->(∀g,S g->g<w.heap.size) ->
  Calls prog 31 #[v] w λe w'=>e=.returned (.int .i64 (E8 t:Nat))/\Below w.heap.size w w':=by
 induction n with
 |zero=>intro t S v w h;rw[Gv]at h;omega
 |succ n ih =>
  intro t S v w hn h5 hv hS;obtain⟨K,X,Z,A,m,c,rfl,hK,-,-,hm,ha⟩:=hv.parts;obtain⟨R,hR⟩:∃R,E8 t=R:=⟨_,rfl⟩;obtain⟨q1,iC⟩:∃q,(K==1)=q:=⟨_,rfl⟩;obtain⟨q2,fw⟩:∃q,(K==2)=q:=⟨_,rfl⟩;obtain⟨a0,Xt⟩:∃a,(if q1||q2 then 1 else 0)=a:=⟨_,rfl⟩;have sW:I7 (kids t)+a0=R:=by rw[<-Xt,<-iC,<-fw,hK,<-zjE];exact hR
  have dI:m<=n:=by have:=LF t;omega
  have hR6:R<=n+1:=by have:=Vi _ t hn;omega
  have HM:=EP hm;have HA:=EP ha;have IH:=EP ih;have HS:=EP hS;have HN:=EP hn;have bW:=EP sW;rw[hR];clear hm hR ha ih hS hn sW hv hK;cases q1 <;> cases q2;all_goals
   simp at Xt;subst Xt;go_in;go_wp2
   go_loopg [3,4] m (λgg va vi wr=>∃i a:Nat,gg=m-i/\va=.int .i64 a/\vi=.int .i64 i/\i<=m/\Hid (I7 ((kids t).take i)+(R-I7 (kids t))=a)/\Below (w.heap.size+1) (w.alloc (.cells #[.int .i64 K,.string X,.int .i64 Z,.slice A m c] 43)) wr)
   case atStart =>
    first
     |exact⟨0,0,rfl,rfl,rfl,by omega,EP (by have:=bW.o;rw[CK,I7];omega),Cc _ _⟩
     |exact⟨0,1,rfl,rfl,rfl,by omega,EP (by have:=bW.o;rw[CK,I7];omega),Cc _ _⟩
   case round =>
    obtain⟨i,a,rfl,rfl,rfl,hi,hd,hb⟩:=hrel;have c3:wr.cell? ⟨w.heap.size,3,none⟩=some (.slice A m c):=(hb.cell (p:=⟨w.heap.size,3,none⟩) (by simp)).trans (cell_of_row _ _ _ _ _ _ (BZ _ _));have HB:=EP hb;clear hb;by_cases af:i<m
    ·obtain⟨g,u,K1,X1,Z1,A1,n1,c1,rfl,hg,e0,e1,e2,e3,hu,aG,aA⟩:=OB (w':=wr) HA.o HM.o af (λg hg=>by rw[HB.o.block g (by have:=HS.o g hg;omega),BX _ _ _ (HS.o g hg)])
     have ah:=IH.o u S _ wr (by have:=HN.o;omega) (by omega) aG (λg hg=>by have:=HB.o.size;have:=HS.o g hg;simp at *;omega);obtain⟨mz,tK⟩:=zpF hu;obtain⟨D,hD⟩:∃D,E8 u=D:=⟨_,rfl⟩;rw[hD]at mz ah;have lL:I7 ((kids t).take (i+1))+(R-I7 (kids t))=a+D:=by have:=hd.o;omega
     have haD:a+D<=1000001:=by have:=bW.o;omega
     have pS:=EP lL;clear aG hu hD mz tK lL hd;go_wp2_with fail;refine ah.mono ?_;rintro e w1 ⟨rfl,b1⟩;have cC:=EP (HB.o.trans (b1.mono (by have:=HB.o.size;simp at this;omega)));clear b1;go_wp2_with fail;go_roundg (m-(i+1))
     case measure=>omega
     case rel=>exact⟨i+1,a+D,rfl,by go_num,by go_num,by omega,pS,cC.o⟩
    ·have hr:=EP (show a=R by have h1:=hd.o;rw[Cq (by rw[HM.o];omega)]at h1;have:=bW.o;omega)
     go_wp2_with fail;go_ret
     exact⟨JS (by rw[<-hr.o]),((Cc _ w).alloc (BU _) _).trans (HB.o.mono (by omega))⟩
end
section
open Go.RowKit Lx Tx
set_option maxRecDepth 100000
theorem zlg(n:Nat):∀(t:Ty)(S:Nat->Prop)(v:Value)(w:World),t.size<=n->n<=1000000->nc S w t v->(∀g,S g->g<w.heap.size) ->
  Calls prog 55 #[v] w λe w'=>e=.returned (.int .i64 (t.depth:Nat))/\Below w.heap.size w w':=by
 induction n with
 |zero=>intro t S v w h;rw[Gv]at h;omega
 |succ n ih =>
  intro t S v w hn h5 hv hS;obtain⟨K,X,Z,A,m,c,rfl,-,-,-,hm,ha⟩:=hv.parts;obtain⟨R,hR⟩:∃R,t.depth=R:=⟨_,rfl⟩;have sW:Kl (kids t)+1=R:=by rw[<-zgM];exact hR
  have dI:m<=n:=by have:=LF t;omega
  have hR6:R<=n+1:=by have:=P6 t;omega
  have HM:=EP hm;have HA:=EP ha;have IH:=EP ih;have HS:=EP hS;have HN:=EP hn;have bW:=EP sW;rw[hR];clear hm hR ha ih hS hn sW hv;go_in;go_wp2
  go_loopg [3,4] m (λgg va vi wr=>∃i a:Nat,gg=m-i/\va=.int .i64 a/\vi=.int .i64 i/\i<=m/\Hid (Kl ((kids t).take i)=a)/\Below (w.heap.size+1) (w.alloc (.cells #[.int .i64 K,.string X,.int .i64 Z,.slice A m c] 43)) wr)
  case atStart=>exact⟨0,0,rfl,rfl,rfl,by omega,EP rfl,Cc _ _⟩
  case round =>
   obtain⟨i,a,rfl,rfl,rfl,hi,hd,hb⟩:=hrel;have c3:wr.cell? ⟨w.heap.size,3,none⟩=some (.slice A m c):=(hb.cell (p:=⟨w.heap.size,3,none⟩) (by simp)).trans (cell_of_row _ _ _ _ _ _ (BZ _ _));have HB:=EP hb;clear hb;by_cases af:i<m
   ·obtain⟨g,u,K1,X1,Z1,A1,n1,c1,rfl,hg,e0,e1,e2,e3,hu,aG,aA⟩:=OB (w':=wr) HA.o HM.o af (λg hg=>by rw[HB.o.block g (by have:=HS.o g hg;omega),BX _ _ _ (HS.o g hg)])
    have ah:=IH.o u S _ wr (by have:=HN.o;omega) (by omega) aG (λg hg=>by have:=HB.o.size;have:=HS.o g hg;simp at *;omega);have sB:=EP (zgN _ _ _ _ hd hu);obtain⟨D,hD⟩:∃D,u.depth=D:=⟨_,rfl⟩;rw[hD]at sB ah;clear aG hu hD;go_wp2_with (go_at_call 55;refine ah.mono ?_;rintro e w1 ⟨rfl,b1⟩);all_goals
     have cC:=EP (HB.o.trans (b1.mono (by have:=HB.o.size;simp at this;omega)));go_roundg (m-(i+1));case measure=>omega
     case rel=>exact⟨i+1,_,rfl,rfl,by go_num,by omega,EP (by rw[sB.o];omega),cC.o⟩
   ·have hr:=EP (show a+1=R by rw[Cq (by rw[HM.o];omega)]at hd;rw[hd.o]at bW;exact bW.o)
    have ha6:a<1000001:=by have:=hr.o;omega
    go_wp2_with fail;go_ret
    exact⟨JS (by rw[<-hr.o];rfl),((Cc _ w).alloc (BU _) _).trans (HB.o.mono (by omega))⟩
set_option maxRecDepth 100000
theorem zmA(f:Nat)(ts:List Tok)(v:Value)(w:World)(i:Nat)(hv:GJ w v ts)(hg:E_ ts)(hn:ts.length<=100000)(hi:i<=ts.length)(hf:4*(ts.length-i)+2<=f+1)
  (IH:∀(w:World)(i:Nat),GJ w v ts->i<=ts.length->4*(ts.length-i)+4<=f->Calls prog 54 #[v,.int .i64 i] w (Gj ts i w (read f (ts.drop i)))):Calls prog 146 #[v,.int .i64 i] w (Gj ts i w (atom (f+1) (ts.drop i))):=by
 by_cases af:i<ts.length
 ·have hdr:=M6 ts i af
  obtain⟨g,c,rfl,h0,h1,h2⟩:=hv.at_ i af;have sJ:=hg _ (CS af);have kK:=hv.lt (by omega);rw[hdr];generalize hT:ts[i]=T at *;obtain⟨m,s,p⟩:=T;obtain⟨X,hX⟩:∃X:ByteArray,⟨s.toArray⟩=X:=⟨_,rfl⟩;obtain⟨n,hN⟩:∃n,ts.length=n:=⟨_,rfl⟩;have HX:=EP hX;have HN:=EP hN;simp only at h0 h1 h2;rw[hX]at h1;rw[hN]at hv af hn hi hf IH ⊢;have HV:=EP hv;have mg:=EP IH;have HG:=EP sJ;clear h2 hv IH hX hN sJ hT hdr hg;obtain⟨O,hO⟩:∃O,atom (f+1) (⟨m,s,p⟩::ts.drop (i+1))=O:=⟨_,rfl⟩;rw[hO];rw[atom]at hO;replace hO:=hO.symm;simp only at hO;by_cases k1:m=1
  ·have HO:=EP (hO.trans (Ch k1))
   subst k1;clear hO;have h0:w.cell? ⟨g,i*3,none⟩=some (.int .i64 1):=h0;go_in;go_wp2_with fail;try simp only[Exit.inBlock,Exit.then]
   refine Ce (FC rfl _ _ w.heap.size 43 _ (0,0) _ rfl (BZ _ _) underlying43 rfl (by kernel_rfl)) rfl ?_;exact MJ ts i w _ _ _ 1 X 0 none 0 0 (.var s) (i+1) ((Cc _ w).alloc (BU _) _) (by omega) (by rw[HN.o];omega) HO.o rfl ⟨none,0,by rw[<-HX.o];rfl,by rw[j_];trivial⟩
  ·have d1:=NS m 1 1 rfl k1
   rw[Cg k1]at hO;by_cases k2:m=2
   ·have HO:=EP (hO.trans (Ch k2))
    subst k2;clear hO;have h0:w.cell? ⟨g,i*3,none⟩=some (.int .i64 2):=h0;go_in;go_wp2_with fail;try simp only[Exit.inBlock,Exit.then]
    refine Ce (FC rfl _ _ w.heap.size 43 _ (0,0) _ rfl (BZ _ _) underlying43 rfl (by kernel_rfl)) rfl ?_;exact MJ ts i w _ _ _ 3 X 0 none 0 0 (.h_ s []) (i+1) ((Cc _ w).alloc (BU _) _) (by omega) (by rw[HN.o];omega) HO.o rfl ⟨none,0,by rw[<-HX.o];rfl,by rw[j_];intro h;exact absurd rfl h⟩
   ·have d2:=NS m 2 2 rfl k2
    rw[Cg k2]at hO;by_cases k5:m=5
    ·have HO:=EP (hO.trans (Ch k5))
     subst k5;clear hO;have h0:w.cell? ⟨g,i*3,none⟩=some (.int .i64 5):=h0;obtain⟨g1,g2,g3⟩:=zhR _ HG.o rfl;have zV:X.data.toList=s:=by rw[<-HX.o]
     have kU:1<=X.size:=by rw[Dc,zV];exact g3
     have TH:(X.extract 1 X.size).data.toList=s.drop 1:=by rw[Lib.extract_eq,zV];simp only[];rw[Cq];rw[Dk,<-zV,<-Dc];omega
     have mI:=λw=>zj5 (X.extract 1 X.size) w (by rw[TH];exact g1) (by rw[Dc,TH];exact g2);rw[TH]at mI
     clear TH zV g1 g2 g3;obtain⟨N,wU⟩:∃N,numOf (s.drop 1)=N:=⟨_,rfl⟩;rw[wU]at mI HO;clear wU;go_in;go_wp2_with (go_at_call 183;refine(mI _).mono ?_;rintro e w1 ⟨rfl,rfl⟩);try simp only[Exit.inBlock,Exit.then]
     refine Ce (FC rfl _ _ w.heap.size 43 _ (0,0) _ rfl (BZ _ _) underlying43 rfl (by kernel_rfl)) rfl ?_;exact MJ ts i w _ _ _ 2 ⟨#[]⟩ (N:Nat) none 0 0 (.mt N) (i+1) ((Cc _ w).alloc (BU _) _) (by omega) (by rw[HN.o];omega) HO.o rfl ⟨none,0,rfl,by rw[j_];trivial⟩
    ·have d5:=NS m 5 5 rfl k5
     rw[Cg k5]at hO;by_cases P8:s=[40]
     ·have dX:(X.toList==[40])=true:=by rw[CL,<-HX.o,P8];rfl
      have HO:=EP (hO.trans (Ch P8));clear hO P8;go_in;go_wp2_with fail;refine(mg.o _ (i+1) (HV.o.alloc _) (by omega) (by omega)).mono ?_;rintro e w1 ⟨b1,K1,X1,Z1,A1,m1,c1,aD⟩;have hblk:ar w1 w.heap.size 43 #[.int .i64 0,.string ⟨#[]⟩,.int .i64 0,.slice none 0 0]:=ar.below (BZ _ _) b1 (by simp);obtain⟨a0,a1,a2,a3,r0,r1,r2,r3,cZ⟩:=n_ hblk;have eU:=EP hblk;clear hblk;rcases aD with⟨ho,rfl⟩|⟨t,k,hk,cA,ho,rfl,hr⟩
      ·have HO:=EP (HO.o.trans (by rw[ho]))
       have B1:=EP b1;clear b1 ho;go_wp2_with fail;try simp only[Exit.inBlock,Exit.then]
       refine Ce (FC rfl _ _ w.heap.size 43 _ (0,0) _ rfl ((Fh _ _ _ _ eU.o).alloc _) underlying43 rfl (by kernel_rfl)) rfl ?_;exact KU ts i w _ _ _ 0 ⟨#[]⟩ 0 none 0 0 ((GH (J1 B1.o (BU _)) _ _ _ _ (BU _)).alloc (by simp;omega) _) HO.o rfl
      ·obtain⟨q,hq⟩:∃q,GL ts k 6 [41]=q:=⟨_,rfl⟩
       have HO:Hid (O=(Ht (Ft · [41]) (ts.drop k)).map λr3=>(t,r3)):=EP (HO.o.trans (by rw[ho]));have B1:=EP b1;have HQ:=EP hq;have pH:∀w,GJ w (.slice (some ⟨g,0,none⟩) n c) ts->Calls prog 97 #[.slice (some ⟨g,0,none⟩) n c,.int .i64 k,.int .i64 6,.string ⟨#[41]⟩] w λe w'=>e=.returned (.bool q)/\w=w':=by
        intro w hv;rw[<-hq];exact PH _ ts k 6 ⟨#[41]⟩ 6 rfl w hv
       clear hq;have HR:=EP hr;clear b1 ho hr;cases q
       ·go_wp2_with (go_at_call 97;refine(pH _ (((HV.o.alloc _).below B1.o).alloc _)).mono ?_;rintro e w2 ⟨rfl,rfl⟩)
        try simp only[Exit.inBlock,Exit.then]
        refine Ce (FC rfl _ _ w.heap.size 43 _ (0,0) _ rfl ((Fh _ _ _ _ eU.o).alloc _) underlying43 rfl (by kernel_rfl)) rfl ?_;exact KU ts i w _ _ _ 0 ⟨#[]⟩ 0 none 0 0 ((GH (J1 B1.o (BU _)) _ _ _ _ (BU _)).alloc (by simp;omega) _) (HO.o.trans (by rw[QC _ _ _ (by simp),HQ.o,Cg (by simp)];rfl)) rfl
       ·have kE:=Qu _ _ _ _ HQ.o
        have aM:k<100000:=by rw[HN.o]at kE;omega
        go_wp2_with (go_at_call 97;refine(pH _ (((HV.o.alloc _).below B1.o).alloc _)).mono ?_;rintro e w2 ⟨rfl,rfl⟩);try simp only[Exit.inBlock,Exit.then]
        refine Ce (FC rfl _ _ w.heap.size 43 _ (0,0) _ rfl ((Fh _ _ _ _ eU.o).alloc _) underlying43 rfl (by kernel_rfl)) rfl ?_;refine MJ ts i w _ _ _ K1 X1 Z1 A1 m1 c1 t (k+1) ((GH (J1 B1.o (BU _)) _ _ _ _ (BU _)).alloc (by simp;omega) _) (by omega) (by omega) (HO.o.trans (by rw[QC _ _ _ (by simp),HQ.o,Ch rfl];rfl)) rfl ?_;exact HR.o.al (λg hg=>by simp at hg ⊢;omega) (λg hg=>by
         simp at hg;rw[BX _ _ _ (by simp;omega),B8 _ _ _ _ (by simp;omega),B8 _ _ _ _ (by simp;omega),B8 _ _ _ _ (by simp;omega),B8 _ _ _ _ (by simp;omega)])
     ·have dX:(X.toList==[40])=false:=by rw[CL,<-HX.o];exact Cv.2 P8
      have HO:=EP (hO.trans (Cg P8));clear hO P8;go_in;go_wp2_with fail;try simp only[Exit.inBlock,Exit.then]
      refine Ce (FC rfl _ _ w.heap.size 43 _ (0,0) _ rfl (BZ _ _) underlying43 rfl (by kernel_rfl)) rfl ?_;exact KU ts i w _ _ _ 0 ⟨#[]⟩ 0 none 0 0 ((Cc _ w).alloc (BU _) _) HO.o rfl
 ·have HO:atom (f+1) (ts.drop i)=none:=by rw[CH (by omega),atom]
  obtain⟨A,c,rfl,_⟩:=hv;obtain⟨n,hN⟩:∃n,ts.length=n:=⟨_,rfl⟩;rw[hN]at af hn hi ⊢;rw[HO];clear hN IH HO hf hg;go_in;go_wp2_with fail;try simp only[Exit.inBlock,Exit.then]
  refine Ce (FC rfl _ _ w.heap.size 43 _ (0,0) _ rfl (BZ _ _) underlying43 rfl (by kernel_rfl)) rfl ?_;exact KU ts i w _ _ _ 0 ⟨#[]⟩ 0 none 0 0 ((Cc _ w).alloc (BU _) _) rfl rfl
set_option maxRecDepth 100000
theorem zmB:(prog.info? 43).map (λi=>(i.zero,i.size,i.bytes))=some (some (.agg #[.int .i64 0,.string ⟨#[]⟩,.int .i64 0,.slice none 0 0]),4,56):=by kernel_rfl
def zrK(ts:List Tok)(f n i:Nat)(X:ByteArray)(w:World)(g:Nat)(vk:Value)(wr:World):Prop :=
 ∃k f' done v',g=n-k/\vk=.int .i64 k/\i<k/\k<=n/\4*(n-k)+3<=f'/\f'<=f/\Hid (args f (ts.drop (i+1))=(args f' (ts.drop k)).map λy=>(done++y.1,y.2))/\done.length<=k /\
  EU (λ_=>False) (w.heap.size+2) 43 wr done v'/\ar wr (w.heap.size+1) 43 #[.int .i64 3,.string X,.int .i64 0,v'] /\
  ar wr w.heap.size 43 #[.int .i64 0,.string ⟨#[]⟩,.int .i64 0,.slice none 0 0]/\Below w.heap.size w wr
theorem zox(f:Nat)(ts:List Tok)(v:Value)(w:World)(i:Nat)(hv:GJ w v ts)(hn:ts.length<=100000)(hi:i<=ts.length)(hf:4*(ts.length-i)+3<=f+1)
  (IH:∀f1,f1<=f->∀(w:World)(i:Nat),GJ w v ts->i<=ts.length->4*(ts.length-i)+2<=f1->Calls prog 146 #[v,.int .i64 i] w (Gj ts i w (atom f1 (ts.drop i)))):Calls prog 98 #[v,.int .i64 i] w (Gj ts i w (app (f+1) (ts.drop i))):=by
 obtain⟨q,hq⟩:∃q,GL ts i 2 []=q:=⟨_,rfl⟩;have HQ:=EP hq;have pH:∀w,GJ w v ts->Calls prog 97 #[v,.int .i64 i,.int .i64 2,.string ⟨#[]⟩] w λe w'=>e=.returned (.bool q)/\w=w':=by
  intro w hv;rw[<-hq];exact PH _ ts i 2 ⟨#[]⟩ 2 rfl w hv
 clear hq;have HV:=EP hv;have mg:=EP IH;clear IH;cases q
 ·have HO:Hid (app (f+1) (ts.drop i)=atom f (ts.drop i)):=by
   refine EP ?_;by_cases af:i<ts.length
   ·have h2:=HQ.o
    rw[Qv ts i 2 [] af]at h2;simp at h2;rw[M6 ts i af,app];simp only[Cg h2]
   ·rw[CH (by omega),app]
    obtain⟨f',rfl⟩:∃f',f=f'+1:=⟨f-1,by omega⟩;rw[atom]
  rw[HO.o];clear HO hv;go_in;go_wp2_with (go_at_call 97;refine(pH _ (HV.o.alloc _)).mono ?_;rintro e w2 ⟨rfl,rfl⟩);go_at_call 146
  refine(mg.o f (BU _) _ i (HV.o.alloc _) hi (by omega)).mono ?_;rintro e w1 ⟨b1,K1,X1,Z1,A1,m1,c1,aD⟩;have hblk:ar w1 w.heap.size 43 #[.int .i64 0,.string ⟨#[]⟩,.int .i64 0,.slice none 0 0]:=ar.below (BZ _ _) b1 (by simp);obtain⟨a0,a1,a2,a3,r0,r1,r2,r3,cZ⟩:=n_ hblk;have eU:=EP hblk;have B1:=EP b1;clear hblk b1;rcases aD with⟨ho,rfl⟩|⟨t,k,hk,cA,ho,rfl,hr⟩
  ·have HO:=EP ho
   clear ho;go_wp2_with fail;try simp only[Exit.inBlock,Exit.then]
   refine Ce (FC rfl _ _ w.heap.size 43 _ (0,0) _ rfl (Fh _ _ _ _ eU.o) underlying43 rfl (by kernel_rfl)) rfl ?_;exact KU ts i w _ _ _ K1 X1 Z1 A1 m1 c1 (GH (J1 B1.o (BU _)) _ _ _ _ (BU _)) HO.o rfl
  ·have HO:=EP ho
   have HR:=EP hr;clear ho hr;go_wp2_with fail;try simp only[Exit.inBlock,Exit.then]
   refine Ce (FC rfl _ _ w.heap.size 43 _ (0,0) _ rfl (Fh _ _ _ _ eU.o) underlying43 rfl (by kernel_rfl)) rfl ?_;refine MJ ts i w _ _ _ K1 X1 Z1 A1 m1 c1 t k (GH (J1 B1.o (BU _)) _ _ _ _ (BU _)) hk cA HO.o rfl ?_;exact HR.o.al (λg hg=>by simp at hg ⊢;omega) (λg hg=>G3 _ _ _ _ _ _ _ (by simp at hg;omega))
 ·have af:=Qu _ _ _ _ HQ.o
  have bZ:=HQ.o;rw[Qv ts i 2 [] af]at bZ;simp at bZ;obtain⟨g,c,rfl,h0,h1,_⟩:=hv.at_ i af;have kK:=hv.lt (by omega);obtain⟨X,hX⟩:∃X:ByteArray,⟨ts[i].text.toArray⟩=X:=⟨_,rfl⟩;obtain⟨n,hN⟩:∃n,ts.length=n:=⟨_,rfl⟩;have HO:Hid (app (f+1) (ts.drop i)=(args f (ts.drop (i+1))).map λx=>(.h_ X.data.toList x.1,x.2)):=by
   refine EP ?_;rw[M6 ts i af,app,<-hX];simp only[Ch bZ]
  have HN:=EP hN;rw[hX]at h1;rw[HO.o];clear hX h0 hv HQ bZ;have eY:i<n:=by omega
  obtain⟨i0,bK,cj,bS,bC⟩:=Dx zmB;rw[hN]at hn hi hf mg HV pH ⊢;clear hN HO;go_in;go_wp2_with (go_at_call 97;refine(pH _ (HV.o.alloc _)).mono ?_;rintro e w2 ⟨rfl,rfl⟩);go_loopg [8] (n-(i+1)) (λgg vk wr=>zrK ts f n i X w gg vk wr)
  case atStart =>
   refine⟨i+1,f,[],.slice none 0 0,rfl,by go_num,by omega,by omega,by omega,BU _,EP (by simp),by simp,EU.nil _ _ _ _,?_,?_,((Cc _ w).alloc (BU _) _).alloc (by simp) _⟩
   ·exact heap_alloc2_new _ _ _
   ·exact heap_alloc2_old _ _ _
  case round =>
   obtain⟨k,f',done,v',rfl,rfl,qk,cA,zG,TC,FG,hdl,gi,av,aB,aI⟩:=hrel;obtain⟨f1,rfl⟩:∃f1,f'=f1+1:=⟨f'-1,by omega⟩;obtain⟨vs,aj,aE⟩:=gi;obtain⟨A0,c0,rfl⟩:=GS aj;have xS:=HV.o.below aI;have Uj:=EP xS;have az:=EP aj;have eG:=EP aE;have bc:=EP av;have cK:=EP aB;have aF:=EP aI;have aL:=aj.lt;have au:=EP aL;obtain⟨a0,a1,a2,a3,r0,r1,r2,r3,cZ⟩:=n_ aB;obtain⟨p0,p1,p2,p3,s0,s1,s2,s3,dp⟩:=n_ av;by_cases kE:k<n
   ·have ra:k<ts.length:=by rw[HN.o];exact kE
    obtain⟨e0,e1⟩:=xS.cells k ra;obtain⟨Y,hY⟩:∃Y:ByteArray,⟨ts[k].text.toArray⟩=Y:=⟨_,rfl⟩;rw[hY]at e1;by_cases bz:atomic ts[k]=true
    ·have hw:=zkb _ Y hY bz
     have gG:=EP bz;obtain⟨m,hm⟩:∃m,ts[k].kind=m:=⟨_,rfl⟩;rw[hm]at e0 hw;have Zl:g<wr.heap.size:=by have:=aI.size;omega
     clear hY bz hm xS aj aE av aB aI aL;rcases hw with d1|⟨d1,d5⟩|⟨d1,d5,d2⟩|⟨d1,d5,d2,dX⟩
     ·go_wp2_with fail
      refine(mg.o f1 (by omega) wr k Uj.o (by omega) (by omega)).mono ?_;rintro e w1 ⟨b1,K1,X1,Z1,A1,m1,c1,aD⟩;have aB:=cK.o.below b1 cZ;have av:=bc.o.below b1 dp;obtain⟨a0,a1,a2,a3,r0,r1,r2,r3,qY⟩:=n_ aB;obtain⟨p0,p1,p2,p3,s0,s1,s2,s3,uo⟩:=n_ av;have iP:=EP aB;have ji:=EP av;have dQ:=EP b1;clear b1 aB av;rcases aD with⟨ho,rfl⟩|⟨t,k2,hk,gb,ho,rfl,hr⟩
      ·have HO:Hid (args f (ts.drop (i+1))=none):=EP (FG.o.trans (by rw[SV f1 ts k ra gG.o ho];rfl))
       clear ho;go_wp2_with fail;try simp only[Exit.inBlock,Exit.then]
       refine Ce (FC rfl _ _ w.heap.size 43 _ (0,0) _ rfl ((Fh _ _ _ _ iP.o).alloc _) underlying43 rfl (by kernel_rfl)) rfl ?_;exact KU ts i w _ _ _ 0 ⟨#[]⟩ 0 none 0 0 ((GH (Hf aF.o dQ.o (BU _)) _ _ _ _ (BU _)).alloc (by simp;omega) _) (by rw[HO.o];rfl) rfl
      ·have HO:=EP (QB (FG.o.trans (by rw[SU f1 ts k ra gG.o t _ ho])))
       have HR:=EP hr;have aL:=EP (((FN az.o dQ.o).alloc (.cells #[.int .i64 K1,.string X1,.int .i64 Z1,.slice A1 m1 c1] 43)).alloc (.cells #[.int .i64 K1,.string X1,.int .i64 Z1,.slice A1 m1 c1] 43));clear ho hr;go_wp2_with (at_builtin;refine C7 _ rfl (.tmp 75) (.tmp 77) 41 rfl (w.heap.size+2) 43 i0 _ 4 56 underlying41 bK cj bS bC rfl (by decide) _ done.length vs rfl aL.o ⟨w1.heap.size+1,0,none⟩ 1 1 [.int .i64 K1,.string X1,.int .i64 Z1,.slice A1 m1 c1] rfl rfl (Iz _ _ _ _ (by simp)) (by intro u hu;simp at hu;rcases hu with rfl|rfl|rfl|rfl <;> rfl) (by unfold maxLen;omega) (by omega) (by have:=dQ.o.size;have:=aF.o.size;simp;omega) ?_;intro v2 w3 an ae _ bF;obtain⟨A2,c2,rfl⟩:=GS an;have dZ:=EP an;have bk:=EP ae;have gu:=EP bF;clear an ae bF;have bj:=((ji.o.alloc _).alloc _).grown bk.o (λe=>by have:=au.o _ e.symm;omega);have eL:=((iP.o.alloc _).alloc _).grown bk.o (λe=>by have:=au.o _ e.symm;omega);obtain⟨y0,y1,y2,y3,z0,z1,z2,z3,wG⟩:=n_ bj;have nE:=EP bj;have r9:=EP eL;clear bj eL);go_roundg (n-k2)
       case measure=>omega
       case rel =>
        have hb:=EU.next (w:=wr) (w1:=w1) (λ_ h=>h.elim) (by omega) az.o eG.o dQ.o (HR.o.al (λ_ h=>.inr h) (λ_ _=>rfl)) (((Cc _ w1).alloc (BU _) _).alloc (by simp) _) dZ.o bk.o gu.o;have aA:=aF.o.size;have j5:=dQ.o.size;refine⟨k2,f1,done++[t],_,rfl,rfl,by omega,by rw[HN.o]at gb;exact gb,by omega,by omega,HO,by simp;omega,hb.setCell _ (by simp) (λh=>h),Cl _ _ 3 _ _ _ nE.o,r9.o.I8 (by simp) _,?_⟩;exact(((Hf aF.o dQ.o (BU _)).alloc (by omega) _).alloc (by simp;omega) _ |>.grown bk.o (by simp;omega) (λj hj=>by have:=au.o _ hj;omega)).setCell (by simp) _
     ·go_wp2_with fail
      refine(mg.o f1 (by omega) wr k Uj.o (by omega) (by omega)).mono ?_;rintro e w1 ⟨b1,K1,X1,Z1,A1,m1,c1,aD⟩;have aB:=cK.o.below b1 cZ;have av:=bc.o.below b1 dp;obtain⟨a0,a1,a2,a3,r0,r1,r2,r3,qY⟩:=n_ aB;obtain⟨p0,p1,p2,p3,s0,s1,s2,s3,uo⟩:=n_ av;have iP:=EP aB;have ji:=EP av;have dQ:=EP b1;clear b1 aB av;rcases aD with⟨ho,rfl⟩|⟨t,k2,hk,gb,ho,rfl,hr⟩
      ·have HO:Hid (args f (ts.drop (i+1))=none):=EP (FG.o.trans (by rw[SV f1 ts k ra gG.o ho];rfl))
       clear ho;go_wp2_with fail;try simp only[Exit.inBlock,Exit.then]
       refine Ce (FC rfl _ _ w.heap.size 43 _ (0,0) _ rfl ((Fh _ _ _ _ iP.o).alloc _) underlying43 rfl (by kernel_rfl)) rfl ?_;exact KU ts i w _ _ _ 0 ⟨#[]⟩ 0 none 0 0 ((GH (Hf aF.o dQ.o (BU _)) _ _ _ _ (BU _)).alloc (by simp;omega) _) (by rw[HO.o];rfl) rfl
      ·have HO:=EP (QB (FG.o.trans (by rw[SU f1 ts k ra gG.o t _ ho])))
       have HR:=EP hr;have aL:=EP (((FN az.o dQ.o).alloc (.cells #[.int .i64 K1,.string X1,.int .i64 Z1,.slice A1 m1 c1] 43)).alloc (.cells #[.int .i64 K1,.string X1,.int .i64 Z1,.slice A1 m1 c1] 43));clear ho hr;go_wp2_with (at_builtin;refine C7 _ rfl (.tmp 75) (.tmp 77) 41 rfl (w.heap.size+2) 43 i0 _ 4 56 underlying41 bK cj bS bC rfl (by decide) _ done.length vs rfl aL.o ⟨w1.heap.size+1,0,none⟩ 1 1 [.int .i64 K1,.string X1,.int .i64 Z1,.slice A1 m1 c1] rfl rfl (Iz _ _ _ _ (by simp)) (by intro u hu;simp at hu;rcases hu with rfl|rfl|rfl|rfl <;> rfl) (by unfold maxLen;omega) (by omega) (by have:=dQ.o.size;have:=aF.o.size;simp;omega) ?_;intro v2 w3 an ae _ bF;obtain⟨A2,c2,rfl⟩:=GS an;have dZ:=EP an;have bk:=EP ae;have gu:=EP bF;clear an ae bF;have bj:=((ji.o.alloc _).alloc _).grown bk.o (λe=>by have:=au.o _ e.symm;omega);have eL:=((iP.o.alloc _).alloc _).grown bk.o (λe=>by have:=au.o _ e.symm;omega);obtain⟨y0,y1,y2,y3,z0,z1,z2,z3,wG⟩:=n_ bj;have nE:=EP bj;have r9:=EP eL;clear bj eL);go_roundg (n-k2)
       case measure=>omega
       case rel =>
        have hb:=EU.next (w:=wr) (w1:=w1) (λ_ h=>h.elim) (by omega) az.o eG.o dQ.o (HR.o.al (λ_ h=>.inr h) (λ_ _=>rfl)) (((Cc _ w1).alloc (BU _) _).alloc (by simp) _) dZ.o bk.o gu.o;have aA:=aF.o.size;have j5:=dQ.o.size;refine⟨k2,f1,done++[t],_,rfl,rfl,by omega,by rw[HN.o]at gb;exact gb,by omega,by omega,HO,by simp;omega,hb.setCell _ (by simp) (λh=>h),Cl _ _ 3 _ _ _ nE.o,r9.o.I8 (by simp) _,?_⟩;exact(((Hf aF.o dQ.o (BU _)).alloc (by omega) _).alloc (by simp;omega) _ |>.grown bk.o (by simp;omega) (λj hj=>by have:=au.o _ hj;omega)).setCell (by simp) _
     ·go_wp2_with fail
      refine(mg.o f1 (by omega) wr k Uj.o (by omega) (by omega)).mono ?_;rintro e w1 ⟨b1,K1,X1,Z1,A1,m1,c1,aD⟩;have aB:=cK.o.below b1 cZ;have av:=bc.o.below b1 dp;obtain⟨a0,a1,a2,a3,r0,r1,r2,r3,qY⟩:=n_ aB;obtain⟨p0,p1,p2,p3,s0,s1,s2,s3,uo⟩:=n_ av;have iP:=EP aB;have ji:=EP av;have dQ:=EP b1;clear b1 aB av;rcases aD with⟨ho,rfl⟩|⟨t,k2,hk,gb,ho,rfl,hr⟩
      ·have HO:Hid (args f (ts.drop (i+1))=none):=EP (FG.o.trans (by rw[SV f1 ts k ra gG.o ho];rfl))
       clear ho;go_wp2_with fail;try simp only[Exit.inBlock,Exit.then]
       refine Ce (FC rfl _ _ w.heap.size 43 _ (0,0) _ rfl ((Fh _ _ _ _ iP.o).alloc _) underlying43 rfl (by kernel_rfl)) rfl ?_;exact KU ts i w _ _ _ 0 ⟨#[]⟩ 0 none 0 0 ((GH (Hf aF.o dQ.o (BU _)) _ _ _ _ (BU _)).alloc (by simp;omega) _) (by rw[HO.o];rfl) rfl
      ·have HO:=EP (QB (FG.o.trans (by rw[SU f1 ts k ra gG.o t _ ho])))
       have HR:=EP hr;have aL:=EP (((FN az.o dQ.o).alloc (.cells #[.int .i64 K1,.string X1,.int .i64 Z1,.slice A1 m1 c1] 43)).alloc (.cells #[.int .i64 K1,.string X1,.int .i64 Z1,.slice A1 m1 c1] 43));clear ho hr;go_wp2_with (at_builtin;refine C7 _ rfl (.tmp 75) (.tmp 77) 41 rfl (w.heap.size+2) 43 i0 _ 4 56 underlying41 bK cj bS bC rfl (by decide) _ done.length vs rfl aL.o ⟨w1.heap.size+1,0,none⟩ 1 1 [.int .i64 K1,.string X1,.int .i64 Z1,.slice A1 m1 c1] rfl rfl (Iz _ _ _ _ (by simp)) (by intro u hu;simp at hu;rcases hu with rfl|rfl|rfl|rfl <;> rfl) (by unfold maxLen;omega) (by omega) (by have:=dQ.o.size;have:=aF.o.size;simp;omega) ?_;intro v2 w3 an ae _ bF;obtain⟨A2,c2,rfl⟩:=GS an;have dZ:=EP an;have bk:=EP ae;have gu:=EP bF;clear an ae bF;have bj:=((ji.o.alloc _).alloc _).grown bk.o (λe=>by have:=au.o _ e.symm;omega);have eL:=((iP.o.alloc _).alloc _).grown bk.o (λe=>by have:=au.o _ e.symm;omega);obtain⟨y0,y1,y2,y3,z0,z1,z2,z3,wG⟩:=n_ bj;have nE:=EP bj;have r9:=EP eL;clear bj eL);go_roundg (n-k2)
       case measure=>omega
       case rel =>
        have hb:=EU.next (w:=wr) (w1:=w1) (λ_ h=>h.elim) (by omega) az.o eG.o dQ.o (HR.o.al (λ_ h=>.inr h) (λ_ _=>rfl)) (((Cc _ w1).alloc (BU _) _).alloc (by simp) _) dZ.o bk.o gu.o;have aA:=aF.o.size;have j5:=dQ.o.size;refine⟨k2,f1,done++[t],_,rfl,rfl,by omega,by rw[HN.o]at gb;exact gb,by omega,by omega,HO,by simp;omega,hb.setCell _ (by simp) (λh=>h),Cl _ _ 3 _ _ _ nE.o,r9.o.I8 (by simp) _,?_⟩;exact(((Hf aF.o dQ.o (BU _)).alloc (by omega) _).alloc (by simp;omega) _ |>.grown bk.o (by simp;omega) (λj hj=>by have:=au.o _ hj;omega)).setCell (by simp) _
     ·go_wp2_with fail
      refine(mg.o f1 (by omega) wr k Uj.o (by omega) (by omega)).mono ?_;rintro e w1 ⟨b1,K1,X1,Z1,A1,m1,c1,aD⟩;have aB:=cK.o.below b1 cZ;have av:=bc.o.below b1 dp;obtain⟨a0,a1,a2,a3,r0,r1,r2,r3,qY⟩:=n_ aB;obtain⟨p0,p1,p2,p3,s0,s1,s2,s3,uo⟩:=n_ av;have iP:=EP aB;have ji:=EP av;have dQ:=EP b1;clear b1 aB av;rcases aD with⟨ho,rfl⟩|⟨t,k2,hk,gb,ho,rfl,hr⟩
      ·have HO:Hid (args f (ts.drop (i+1))=none):=EP (FG.o.trans (by rw[SV f1 ts k ra gG.o ho];rfl))
       clear ho;go_wp2_with fail;try simp only[Exit.inBlock,Exit.then]
       refine Ce (FC rfl _ _ w.heap.size 43 _ (0,0) _ rfl ((Fh _ _ _ _ iP.o).alloc _) underlying43 rfl (by kernel_rfl)) rfl ?_;exact KU ts i w _ _ _ 0 ⟨#[]⟩ 0 none 0 0 ((GH (Hf aF.o dQ.o (BU _)) _ _ _ _ (BU _)).alloc (by simp;omega) _) (by rw[HO.o];rfl) rfl
      ·have HO:=EP (QB (FG.o.trans (by rw[SU f1 ts k ra gG.o t _ ho])))
       have HR:=EP hr;have aL:=EP (((FN az.o dQ.o).alloc (.cells #[.int .i64 K1,.string X1,.int .i64 Z1,.slice A1 m1 c1] 43)).alloc (.cells #[.int .i64 K1,.string X1,.int .i64 Z1,.slice A1 m1 c1] 43));clear ho hr;go_wp2_with (at_builtin;refine C7 _ rfl (.tmp 75) (.tmp 77) 41 rfl (w.heap.size+2) 43 i0 _ 4 56 underlying41 bK cj bS bC rfl (by decide) _ done.length vs rfl aL.o ⟨w1.heap.size+1,0,none⟩ 1 1 [.int .i64 K1,.string X1,.int .i64 Z1,.slice A1 m1 c1] rfl rfl (Iz _ _ _ _ (by simp)) (by intro u hu;simp at hu;rcases hu with rfl|rfl|rfl|rfl <;> rfl) (by unfold maxLen;omega) (by omega) (by have:=dQ.o.size;have:=aF.o.size;simp;omega) ?_;intro v2 w3 an ae _ bF;obtain⟨A2,c2,rfl⟩:=GS an;have dZ:=EP an;have bk:=EP ae;have gu:=EP bF;clear an ae bF;have bj:=((ji.o.alloc _).alloc _).grown bk.o (λe=>by have:=au.o _ e.symm;omega);have eL:=((iP.o.alloc _).alloc _).grown bk.o (λe=>by have:=au.o _ e.symm;omega);obtain⟨y0,y1,y2,y3,z0,z1,z2,z3,wG⟩:=n_ bj;have nE:=EP bj;have r9:=EP eL;clear bj eL);go_roundg (n-k2)
       case measure=>omega
       case rel =>
        have hb:=EU.next (w:=wr) (w1:=w1) (λ_ h=>h.elim) (by omega) az.o eG.o dQ.o (HR.o.al (λ_ h=>.inr h) (λ_ _=>rfl)) (((Cc _ w1).alloc (BU _) _).alloc (by simp) _) dZ.o bk.o gu.o;have aA:=aF.o.size;have j5:=dQ.o.size;refine⟨k2,f1,done++[t],_,rfl,rfl,by omega,by rw[HN.o]at gb;exact gb,by omega,by omega,HO,by simp;omega,hb.setCell _ (by simp) (λh=>h),Cl _ _ 3 _ _ _ nE.o,r9.o.I8 (by simp) _,?_⟩;exact(((Hf aF.o dQ.o (BU _)).alloc (by omega) _).alloc (by simp;omega) _ |>.grown bk.o (by simp;omega) (λj hj=>by have:=au.o _ hj;omega)).setCell (by simp) _
    ·have bz:atomic ts[k]=false:=by simpa using bz
     have HO:Hid (args f (ts.drop (i+1))=some (done,ts.drop k)):=EP (FG.o.trans (by rw[zhS f1 ts k (λ_=>bz)];simp));have vU:=EP (EU.args (t:=.h_ X.data.toList done) (show EU _ _ _ wr (kids (.h_ X.data.toList done)) _ from⟨vs,aj,aE⟩)).2;obtain⟨d1,d5,d2,dX⟩:=zls _ Y hY bz;obtain⟨m,hm⟩:∃m,ts[k].kind=m:=⟨_,rfl⟩;rw[hm]at e0 d1 d2 d5;have Zl:g<wr.heap.size:=by have:=aI.size;omega
     clear hY bz hm xS aj aE av aB aI aL;go_wp2_with fail;try simp only[Exit.inBlock,Exit.then]
     refine Ce (FC rfl _ _ w.heap.size 43 _ (0,0) _ rfl (Fh _ _ _ _ cK.o) underlying43 rfl (by kernel_rfl)) rfl ?_;refine MJ ts i w _ _ _ 3 X 0 A0 done.length c0 (.h_ X.data.toList done) k (GH aF.o _ _ _ _ (BU _)) qk (by rw[HN.o];exact cA) (by rw[HO.o];rfl) rfl ?_;refine⟨A0,c0,by rw[ER,Lib.mk_data];rfl,j_.al (λg hg=>?_) (λg hg=>G3 _ _ _ _ _ _ _ ?_) _ _ vU.o⟩
     ·rcases hg with hg|hg
      ·exact hg.elim
      ·simp;omega
     ·rcases hg with hg|hg
      ·exact hg.elim
      ·omega
   ·have HO:Hid (args f (ts.drop (i+1))=some (done,ts.drop k)):=EP (FG.o.trans (by rw[zhS f1 ts k (λh=>absurd h (by rw[HN.o];omega))];simp))
    have vU:=EP (EU.args (t:=.h_ X.data.toList done) (show EU _ _ _ wr (kids (.h_ X.data.toList done)) _ from⟨vs,aj,aE⟩)).2;clear xS aj aE av aB aI aL;go_wp2_with fail;try simp only[Exit.inBlock,Exit.then]
    refine Ce (FC rfl _ _ w.heap.size 43 _ (0,0) _ rfl (Fh _ _ _ _ cK.o) underlying43 rfl (by kernel_rfl)) rfl ?_;refine MJ ts i w _ _ _ 3 X 0 A0 done.length c0 (.h_ X.data.toList done) k (GH aF.o _ _ _ _ (BU _)) qk (by rw[HN.o];exact cA) (by rw[HO.o];rfl) rfl ?_;refine⟨A0,c0,by rw[ER,Lib.mk_data];rfl,j_.al (λg hg=>?_) (λg hg=>G3 _ _ _ _ _ _ _ ?_) _ _ vU.o⟩
    ·rcases hg with hg|hg
     ·exact hg.elim
     ·simp;omega
    ·rcases hg with hg|hg
     ·exact hg.elim
     ·omega
set_option maxRecDepth 100000
theorem ziD(f:Nat)(ts:List Tok)(v:Value)(w:World)(i:Nat)(hv:GJ w v ts)(hn:ts.length<=100000)(hi:i<=ts.length)(hf:4*(ts.length-i)+4<=f+1)(hq:GL ts i 3 ub=false)
  (AK:∀(w:World)(i:Nat),GJ w v ts->i<=ts.length->4*(ts.length-i)+3<=f->Calls prog 98 #[v,.int .i64 i] w (Gj ts i w (app f (ts.drop i))))
  (rH:∀(w:World)(i:Nat),GJ w v ts->i<=ts.length->4*(ts.length-i)+4<=f->Calls prog 54 #[v,.int .i64 i] w (Gj ts i w (read f (ts.drop i)))):Calls prog 54 #[v,.int .i64 i] w (Gj ts i w (read (f+1) (ts.drop i))):=by
 have pH:∀w,GJ w v ts->Calls prog 97 #[v,.int .i64 i,.int .i64 3,.string ⟨#[102,111,114,97,108,108]⟩] w λe w'=>e=.returned (.bool false)/\w=w':=by
  intro w hv;rw[<-hq];exact PH _ ts i 3 ⟨#[102,111,114,97,108,108]⟩ 3 rfl w hv
 have HO:=EP (zlt f ts i hq);obtain⟨O,hO⟩:∃O,read (f+1) (ts.drop i)=O:=⟨_,rfl⟩;rw[hO];rw[hO]at HO;have HV:=EP hv;have HA:=EP AK;have HR:=EP rH;clear hq hO hv AK rH;go_in;go_wp2_with (go_at_call 97;refine(pH _ (HV.o.alloc _)).mono ?_;rintro e w2 ⟨rfl,rfl⟩);go_at_call 98
 refine(HA.o _ i (HV.o.alloc _) hi (by omega)).mono ?_;rintro e w1 ⟨b1,K1,X1,Z1,A1,m1,c1,aD⟩;have hblk:ar w1 w.heap.size 43 #[.int .i64 0,.string ⟨#[]⟩,.int .i64 0,.slice none 0 0]:=ar.below (BZ _ _) b1 (by simp);have eU:=EP hblk;have B1:=EP b1;obtain⟨a0,a1,a2,a3,r0,r1,r2,r3,cZ⟩:=n_ hblk;clear hblk b1;rcases aD with⟨ho,rfl⟩|⟨t,k,hk,cA,ho,rfl,hr⟩
 ·have HO:Hid (O=none):=EP (HO.o.trans (by rw[ho]))
  clear ho;go_wp2_with fail;try simp only[Exit.inBlock,Exit.then]
  refine Ce (FC rfl _ _ w.heap.size 43 _ (0,0) _ rfl ((Fh _ _ _ _ eU.o).alloc _) underlying43 rfl (by kernel_rfl)) rfl ?_;exact KU ts i w _ _ _ 0 ⟨#[]⟩ 0 none 0 0 ((GH (J1 B1.o (BU _)) _ _ _ _ (BU _)).alloc (by simp;omega) _) HO.o rfl
 ·obtain⟨q,hq⟩:∃q,GL ts k 6 [45,62]=q:=⟨_,rfl⟩
  have HQ:=EP hq;have jD:∀w,GJ w v ts->Calls prog 97 #[v,.int .i64 k,.int .i64 6,.string ⟨#[45,62]⟩] w λe w'=>e=.returned (.bool q)/\w=w':=by
   intro w hv;rw[<-hq];exact PH _ ts k 6 ⟨#[45,62]⟩ 6 rfl w hv
  clear hq;have HO:Hid (O=match Ht (Ft · [45,62]) (ts.drop k) with|none=>some (t,ts.drop k)|some r2=>(read f r2).map λx=>(.fn t x.1,x.2)):=EP (HO.o.trans (by rw[ho];rfl));have HT:=EP hr;clear ho hr;cases q
  ·have HO:Hid (O=some (t,ts.drop k)):=EP (HO.o.trans (by rw[QC _ _ _ (by simp),HQ.o,Cg (by simp)]))
   go_wp2_with (go_at_call 97;refine(jD _ (((HV.o.alloc _).below B1.o).alloc _)).mono ?_;rintro e w2 ⟨rfl,rfl⟩);try simp only[Exit.inBlock,Exit.then]
   refine Ce (FC rfl _ _ w.heap.size 43 _ (0,0) _ rfl ((Fh _ _ _ _ eU.o).alloc _) underlying43 rfl (by kernel_rfl)) rfl ?_;refine MJ ts i w _ _ _ K1 X1 Z1 A1 m1 c1 t k ((GH (J1 B1.o (BU _)) _ _ _ _ (BU _)).alloc (by simp;omega) _) hk cA HO.o rfl ?_;exact HT.o.al (λg hg=>by simp at hg ⊢;omega) (λg hg=>by simp at hg;rw[BX _ _ _ (by simp;omega)];exact G3 _ _ _ _ _ _ _ (by omega))
  ·have kE:=Qu _ _ _ _ HQ.o
   have HO:Hid (O=(read f (ts.drop (k+1))).map λx=>(.fn t x.1,x.2)):=EP (HO.o.trans (by rw[QC _ _ _ (by simp),HQ.o,Ch rfl]));go_wp2_with (go_at_call 97;refine(jD _ (((HV.o.alloc _).below B1.o).alloc _)).mono ?_;rintro e w2 ⟨rfl,rfl⟩);have uU:=EP ((((HV.o.alloc (.cells #[.int .i64 0,.string ⟨#[]⟩,.int .i64 0,.slice none 0 0] 43)).below B1.o).alloc (.cells #[.int .i64 K1,.string X1,.int .i64 Z1,.slice A1 m1 c1] 43)));refine(HR.o _ (k+1) uU.o (by omega) (by omega)).mono ?_;rintro e w3 ⟨b3,K2,X2,Z2,A2,m2,c2,aD⟩;have mW:ar w3 w1.heap.size 43 #[.int .i64 K1,.string X1,.int .i64 Z1,.slice A1 m1 c1]:=ar.below (BZ _ _) b3 (by simp);have aB:ar w3 w.heap.size 43 #[.int .i64 0,.string ⟨#[]⟩,.int .i64 0,.slice none 0 0]:=ar.below (eU.o.alloc _) b3 (by simp;omega);obtain⟨a0,a1,a2,a3,r0,r1,r2,r3,kr⟩:=n_ aB;obtain⟨p0,p1,p2,p3,s0,s1,s2,s3,uk⟩:=n_ mW;have cK:=EP aB;have B3:=EP b3;have B13:=EP (J1 b3 (BU _));have aI:=EP (Hf (J1 B1.o (BU _)) B13.o (BU _));clear mW aB b3;rcases aD with⟨ho,rfl⟩|⟨u,k2,bZ,mP,ho,rfl,hr⟩
   ·have HO:Hid (O=none):=EP (HO.o.trans (by rw[ho];rfl))
    clear ho;go_wp2_with fail;try simp only[Exit.inBlock,Exit.then]
    refine Ce (FC rfl _ _ w.heap.size 43 _ (0,0) _ rfl (((Fh _ _ _ _ cK.o).alloc _).alloc _) underlying43 rfl (by kernel_rfl)) rfl ?_;exact KU ts i w _ _ _ 4 ⟨#[]⟩ 0 _ 2 2 (((GH aI.o _ _ _ _ (BU _)).alloc (by simp;omega) _).alloc (by simp;omega) _) HO.o rfl
   ·have HO:Hid (O=some (.fn t u,ts.drop k2)):=EP (HO.o.trans (by rw[ho];rfl))
    have HU:=EP hr;clear ho hr;go_wp2_with fail;try simp only[Exit.inBlock,Exit.then]
    refine Ce (FC rfl _ _ w.heap.size 43 _ (0,0) _ rfl (((Fh _ _ _ _ cK.o).alloc _).alloc _) underlying43 rfl (by kernel_rfl)) rfl ?_;refine MJ ts i w _ _ _ 4 ⟨#[]⟩ 0 (some ⟨w3.heap.size+1,0,none⟩) 2 2 (.fn t u) k2 (((GH aI.o _ _ _ _ (BU _)).alloc (by simp;omega) _).alloc (by simp;omega) _) (by omega) mP HO.o rfl ?_;have s3:=B3.o.size;simp at s3;refine zi6 (K1:=K1) (X1:=X1) (Z1:=Z1) (A1:=A1) (m1:=m1) (c1:=c1) (K2:=K2) (X2:=X2) (Z2:=Z2) (A2:=A2) (m2:=m2) (c2:=c2) ?_ ?_ (by simp;omega) ?_
    ·exact HT.o.al (λg hg=>by simp at hg ⊢;omega) (λg hg=>by
      simp at hg;rw[BX _ _ _ (by simp;omega),BX _ _ _ (by simp;omega),G3 _ _ _ _ _ _ _ (by omega)];exact B13.o.block g hg.2)
    ·exact HU.o.al (λg hg=>by simp at hg ⊢;omega) (λg hg=>by
      simp at hg;rw[BX _ _ _ (by simp;omega),BX _ _ _ (by simp;omega),G3 _ _ _ _ _ _ _ (by omega)])
    ·intro j x hx
     have:=Iz ((((((w3.setCell ⟨w.heap.size,0,none⟩ (.int .i64 4)).setCell ⟨w.heap.size,1,none⟩ (.string ⟨#[]⟩)).setCell ⟨w.heap.size,2,none⟩ (.int .i64 0)).setCell ⟨w.heap.size,3,none⟩ (.slice (some ⟨w3.heap.size+1,0,none⟩) 2 2))).alloc (.cells #[.int .i64 K2,.string X2,.int .i64 Z2,.slice A2 m2 c2] 43)) #[.int .i64 K1,.string X1,.int .i64 Z1,.slice A1 m1 c1,.int .i64 K2,.string X2,.int .i64 Z2,.slice A2 m2 c2] 43 (w3.heap.size+1) (by simp) j x hx;rw[Q_]at this;exact this
end
section
open Go.RowKit Lx Tx
def zkw(i K0 b9:Nat)(V:List (List UInt8))(o:Option Ty)(w:World)(gg:Nat)(vj:Value)(wr:World):Prop :=
 ∃j K X Z A m c,gg=j-i/\vj=.int .i64 j/\i<=j/\j<K0/\ar wr b9 43 #[.int .i64 K,.string X,.int .i64 Z,.slice A m c] /\
  ar wr w.heap.size 43 #[.int .i64 0,.string ⟨#[]⟩,.int .i64 0,.slice none 0 0]/\Below w.heap.size w wr /\
  ∀t0,o=some t0->nc (λg=>w.heap.size<g/\g<wr.heap.size/\g≠b9) wr (G5 (V.drop (j-i)) t0) (.agg #[.int .i64 K,.string X,.int .i64 Z,.slice A m c])
theorem ziE(f:Nat)(ts:List Tok)(v:Value)(w:World)(i:Nat)(hv:GJ w v ts)(hn:ts.length<=100000)(hf:4*(ts.length-i)+4<=f+1)(hq:GL ts i 3 ub=true)
  (rH:∀(w:World)(i:Nat),GJ w v ts->i<=ts.length->4*(ts.length-i)+4<=f->Calls prog 54 #[v,.int .i64 i] w (Gj ts i w (read f (ts.drop i)))):Calls prog 54 #[v,.int .i64 i] w (Gj ts i w (read (f+1) (ts.drop i))):=by
 have af:=Qu _ _ _ _ hq;have pH:∀w,GJ w v ts->Calls prog 97 #[v,.int .i64 i,.int .i64 3,.string ⟨#[102,111,114,97,108,108]⟩] w λe w'=>e=.returned (.bool true)/\w=w':=by
  intro w hv;rw[<-hq];exact PH _ ts i 3 ⟨#[102,111,114,97,108,108]⟩ 3 rfl w hv
 obtain⟨di,fg,wu,my⟩:=zqJ ts ts.length (i+1) (by omega) (by omega);have Un:=zoW f ts i hq _ rfl wu;generalize hVe:(vars (ts.drop (i+1))).1=V at *;obtain⟨O,hO⟩:∃O,read (f+1) (ts.drop i)=O:=⟨_,rfl⟩;rw[hO];rw[hO]at Un;obtain⟨K0,XA⟩:∃K0,i+1+V.length=K0:=⟨_,rfl⟩;rw[XA]at fg my Un;have HO:=EP Un;have fO:Hid (∀k,i+1<=k->k<K0->∃h:k<ts.length,ts[k].kind=1/\ts[k].text=V.getD (k-(i+1)) []):=by
  refine EP λk h1 h2=>?_;obtain⟨d,rfl⟩:∃d,k=i+1+d:=⟨k-(i+1),by omega⟩;obtain⟨h,e1,e2⟩:=di d (by omega);exact⟨h,e1,by rw[e2,Dv,Du,BY (by omega)];rfl⟩
 have vr:=EP my;have Br:=EP XA;have hKi:i+1<=K0:=by omega
 obtain⟨q,fw⟩:∃q,GL ts K0 6 [46]=q:=⟨_,rfl⟩;have HQ:=EP fw;have jD:∀w,GJ w v ts->Calls prog 97 #[v,.int .i64 K0,.int .i64 6,.string ⟨#[46]⟩] w λe w'=>e=.returned (.bool q)/\w=w':=by
  intro w hv;rw[<-fw];exact PH _ ts K0 6 ⟨#[46]⟩ 6 rfl w hv
 clear Un hVe di wu my hO hq fw XA;obtain⟨g,c,rfl,_,_,_⟩:=hv.at_ i af;have kK:=hv.lt (by omega);obtain⟨n,hN⟩:∃n,ts.length=n:=⟨_,rfl⟩;have HN:=EP hN;rw[hN]at hv pH jD hn hf af fg rH ⊢;have HV:=EP hv;have HR:=EP rH;clear hN rH hv;go_in;go_wp2_with (go_at_call 97;refine(pH _ (HV.o.alloc _)).mono ?_;rintro e w2 ⟨rfl,rfl⟩);go_loopg [7] (K0-(i+1)) (λgg vk wr=>∃k:Nat,gg=K0-k/\vk=.int .i64 k/\wr=w.alloc (.cells #[.int .i64 0,.string ⟨#[]⟩,.int .i64 0,.slice none 0 0] 43)/\i+1<=k/\k<=K0)
 case atStart=>exact⟨i+1,rfl,by go_num,rfl,by omega,hKi⟩
 case round =>
  obtain⟨k,rfl,rfl,rfl,aU,bZ⟩:=hrel;by_cases Xa:k<K0
  ·obtain⟨cA,e1,-⟩:=fO.o k aU Xa
   have e0:=(HV.o.cells k cA).1;rw[e1]at e0;have e0:w.cell? ⟨g,k*3,none⟩=some (.int .i64 1):=e0;have rf:k<n:=by omega
   clear e1 cA;go_wp2_with fail;go_roundg (K0-(k+1))
   case measure=>omega
   case rel=>exact⟨k+1,rfl,by go_num,rfl,by omega,by omega⟩
  ·obtain rfl:k=K0:=by omega
   by_cases cA:k<n
   ·have rf:k<ts.length:=by rw[HN.o];exact cA
    have e0:=(HV.o.cells k rf).1;obtain⟨m,hm⟩:∃m,ts[k].kind=m:=⟨_,rfl⟩;have d1:=kF m 1 (by rw[<-hm];exact vr.o rf);rw[hm]at e0;clear hm rf;cases q
    ·have HO:Hid (O=none):=EP (HO.o.trans (by rw[HQ.o];simp))
     go_wp2_with (go_at_call 97;refine(jD _ (HV.o.alloc _)).mono ?_;rintro e w2 ⟨rfl,rfl⟩);try simp only[Exit.inBlock,Exit.then]
     refine Ce (FC rfl _ _ w.heap.size 43 _ (0,0) _ rfl (BZ _ _) underlying43 rfl (by kernel_rfl)) rfl ?_;exact KU ts i w _ _ _ 0 ⟨#[]⟩ 0 none 0 0 ((Cc _ w).alloc (BU _) _) HO.o rfl
    ·by_cases hki:k=i+1
     ·have dk:((k:Int) ==(i:Int)+1)=true:=by simp;omega
      have z6:V=[]:=by cases V with|nil=>rfl|cons a b=>have:=Br.o;simp at this;omega
      have HO:Hid (O=none):=EP (HO.o.trans (by rw[Ch z6]));clear z6 hki;go_wp2_with (go_at_call 97;refine(jD _ (HV.o.alloc _)).mono ?_;rintro e w2 ⟨rfl,rfl⟩);try simp only[Exit.inBlock,Exit.then]
      refine Ce (FC rfl _ _ w.heap.size 43 _ (0,0) _ rfl (BZ _ _) underlying43 rfl (by kernel_rfl)) rfl ?_;exact KU ts i w _ _ _ 0 ⟨#[]⟩ 0 none 0 0 ((Cc _ w).alloc (BU _) _) HO.o rfl
     ·have dk:((k:Int) ==(i:Int)+1)=false:=by rw[Cz];intro h;simp at h;omega
      have z6:V≠[]:=by intro e;have:=Br.o;rw[e]at this;simp at this;omega
      have HO:Hid (O=(read f (ts.drop (k+1))).map λx=>(G5 V x.1,x.2)):=EP (HO.o.trans (by rw[Cg z6,HQ.o,Ch rfl]));clear z6;go_wp2_with (go_at_call 97;refine(jD _ (HV.o.alloc _)).mono ?_;rintro e w2 ⟨rfl,rfl⟩);refine(HR.o _ (k+1) (HV.o.alloc _) (by omega) (by omega)).mono ?_;rintro e w1 ⟨b1,K1,X1,Z1,A1,m1,c1,aD⟩;have aB:ar w1 w.heap.size 43 #[.int .i64 0,.string ⟨#[]⟩,.int .i64 0,.slice none 0 0]:=ar.below (BZ _ _) b1 (by simp);have cK:=EP aB;have B1:=EP b1;have cZ:=aB.lt;clear aB b1;rcases aD with⟨ho,rfl⟩|⟨t,k2,bZ,mP,ho,rfl,hr⟩
      ·have HO:Hid (O=none):=EP (HO.o.trans (by rw[ho];rfl))
       clear ho;go_wp2_with fail;go_loopg [11] (k-1-i) (λgg vj wr=>zkw i k w1.heap.size V none w gg vj wr)
       case atStart =>
        refine⟨k-1,K1,X1,Z1,A1,m1,c1,by omega,by go_num,by omega,by omega,BZ _ _,cK.o.alloc _,(J1 B1.o (BU _)).alloc (by omega) _,?_⟩;intro t0 h;exact absurd h (by simp)
       case round =>
        obtain⟨j,K,X,Z,A,mm,cc,rfl,rfl,oR,hjK,cM,aB,aI,aG⟩:=hrel;obtain⟨p0,p1,p2,p3,s0,s1,s2,s3,dp⟩:=n_ cM;obtain⟨a0,a1,a2,a3,r0,r1,r2,r3,kr⟩:=n_ aB;have se:=EP cM;have cK:=EP aB;have aF:=EP aI;have cg:=EP aG;have qm:g<wr.heap.size:=by have:=aI.size;omega
        clear cM aB aG;by_cases Rh:i<j
        ·obtain⟨qj,-,sH⟩:=fO.o j (by omega) (by omega)
         obtain⟨-,e1⟩:=(HV.o.below aI).cells j qj;obtain⟨Y,hY⟩:∃Y:ByteArray,⟨ts[j].text.toArray⟩=Y:=⟨_,rfl⟩;rw[hY]at e1;have HY:Hid (Y=⟨(V.getD (j-(i+1)) []).toArray⟩):=EP (by rw[<-hY,sH]);have Zg:j<n:=by omega
         clear aI sH hY qj;go_wp2_with fail;go_region
         go_wp2_with fail;go_roundg (j-1-i)
         case measure=>omega
         case rel =>
          have aA:=aF.o.size;have h9:w.heap.size<w1.heap.size:=cZ;refine⟨j-1,5,Y,0,some ⟨wr.heap.size,0,none⟩,1,1,by omega,by go_num,by omega,by omega,((Fh _ _ _ _ se.o).alloc _).drew,((Vt (by omega) cK.o).alloc _).drew,((GH aF.o _ _ _ _ (by omega)).alloc (by simp;omega) _).drew,λt0 h=>?_⟩;rw[VE V (j-1-i) t0 (by have:=Br.o;omega),show j-1-i+1=j-i by omega];refine VF (w:=wr) (by rw[HY.o,show j-1-i=j-(i+1) by omega]) (cg.o t0 h) (λg hg=>?_) (λg hg=>?_) ?_ ?_
          ·have:=hg.2.1
           exact⟨hg.1,by simp;omega,hg.2.2⟩
          ·exact(BX _ _ _ (by simp;exact hg.2.1)).trans (G3 _ _ _ _ _ _ _ hg.2.2)
          ·exact⟨by omega,by simp,by omega⟩
          ·intro d u hu
           have:=Iz ((((wr.setCell ⟨w1.heap.size,0,none⟩ (.int .i64 5)).setCell ⟨w1.heap.size,1,none⟩ (.string Y)).setCell ⟨w1.heap.size,2,none⟩ (.int .i64 0)).setCell ⟨w1.heap.size,3,none⟩ (.slice (some ⟨wr.heap.size,0,none⟩) 1 1)) #[.int .i64 K,.string X,.int .i64 Z,.slice A mm cc] 43 wr.heap.size (by simp) d u hu;rw[Q_]at this;exact this
        ·clear aI
         go_wp2_with fail;try simp only[Exit.inBlock,Exit.then]
         refine Ce (FC rfl _ _ w.heap.size 43 _ (0,0) _ rfl (Fh _ _ _ _ cK.o) underlying43 rfl (by kernel_rfl)) rfl ?_;exact KU ts i w _ _ _ K X Z A mm cc (GH aF.o _ _ _ _ (BU _)) HO.o rfl
      ·have HO:Hid (O=some (G5 V t,ts.drop k2)):=EP (HO.o.trans (by rw[ho];rfl))
       have HT:=EP hr;clear ho hr;go_wp2_with fail;go_loopg [11] (k-1-i) (λgg vj wr=>zkw i k w1.heap.size V (some t) w gg vj wr)
       case atStart =>
        refine⟨k-1,K1,X1,Z1,A1,m1,c1,by omega,by go_num,by omega,by omega,BZ _ _,cK.o.alloc _,(J1 B1.o (BU _)).alloc (by omega) _,?_⟩;intro t0 h;injection h with h;subst h;rw[CH (by have:=Br.o;omega)]
        exact HT.o.al (λg hg=>by simp at hg ⊢;omega) (λg hg=>BX _ _ _ hg.2)
       case round =>
        obtain⟨j,K,X,Z,A,mm,cc,rfl,rfl,oR,hjK,cM,aB,aI,aG⟩:=hrel;obtain⟨p0,p1,p2,p3,s0,s1,s2,s3,dp⟩:=n_ cM;obtain⟨a0,a1,a2,a3,r0,r1,r2,r3,kr⟩:=n_ aB;have se:=EP cM;have cK:=EP aB;have aF:=EP aI;have cg:=EP aG;have qm:g<wr.heap.size:=by have:=aI.size;omega
        clear cM aB aG;by_cases Rh:i<j
        ·obtain⟨qj,-,sH⟩:=fO.o j (by omega) (by omega)
         obtain⟨-,e1⟩:=(HV.o.below aI).cells j qj;obtain⟨Y,hY⟩:∃Y:ByteArray,⟨ts[j].text.toArray⟩=Y:=⟨_,rfl⟩;rw[hY]at e1;have HY:Hid (Y=⟨(V.getD (j-(i+1)) []).toArray⟩):=EP (by rw[<-hY,sH]);have Zg:j<n:=by omega
         clear aI sH hY qj;go_wp2_with fail;go_region
         go_wp2_with fail;go_roundg (j-1-i)
         case measure=>omega
         case rel =>
          have aA:=aF.o.size;have h9:w.heap.size<w1.heap.size:=cZ;refine⟨j-1,5,Y,0,some ⟨wr.heap.size,0,none⟩,1,1,by omega,by go_num,by omega,by omega,((Fh _ _ _ _ se.o).alloc _).drew,((Vt (by omega) cK.o).alloc _).drew,((GH aF.o _ _ _ _ (by omega)).alloc (by simp;omega) _).drew,λt0 h=>?_⟩;rw[VE V (j-1-i) t0 (by have:=Br.o;omega),show j-1-i+1=j-i by omega];refine VF (w:=wr) (by rw[HY.o,show j-1-i=j-(i+1) by omega]) (cg.o t0 h) (λg hg=>?_) (λg hg=>?_) ?_ ?_
          ·have:=hg.2.1
           exact⟨hg.1,by simp;omega,hg.2.2⟩
          ·exact(BX _ _ _ (by simp;exact hg.2.1)).trans (G3 _ _ _ _ _ _ _ hg.2.2)
          ·exact⟨by omega,by simp,by omega⟩
          ·intro d u hu
           have:=Iz ((((wr.setCell ⟨w1.heap.size,0,none⟩ (.int .i64 5)).setCell ⟨w1.heap.size,1,none⟩ (.string Y)).setCell ⟨w1.heap.size,2,none⟩ (.int .i64 0)).setCell ⟨w1.heap.size,3,none⟩ (.slice (some ⟨wr.heap.size,0,none⟩) 1 1)) #[.int .i64 K,.string X,.int .i64 Z,.slice A mm cc] 43 wr.heap.size (by simp) d u hu;rw[Q_]at this;exact this
        ·clear aI
         go_wp2_with fail;try simp only[Exit.inBlock,Exit.then]
         refine Ce (FC rfl _ _ w.heap.size 43 _ (0,0) _ rfl (Fh _ _ _ _ cK.o) underlying43 rfl (by kernel_rfl)) rfl ?_;obtain rfl:i=j:=by omega
         have hr:=cg.o t rfl;rw[Nat.sub_self,DR]at hr;refine MJ ts i w _ _ _ K X Z A mm cc (G5 V t) k2 (GH aF.o _ _ _ _ (BU _)) (by omega) mP HO.o rfl ?_;exact hr.al (λg hg=>by simp at hg ⊢;omega) (λg hg=>G3 _ _ _ _ _ _ _ (by omega))
   ·cases q
    ·have HO:Hid (O=none):=EP (HO.o.trans (by rw[HQ.o];simp))
     go_wp2_with (go_at_call 97;refine(jD _ (HV.o.alloc _)).mono ?_;rintro e w2 ⟨rfl,rfl⟩);try simp only[Exit.inBlock,Exit.then]
     refine Ce (FC rfl _ _ w.heap.size 43 _ (0,0) _ rfl (BZ _ _) underlying43 rfl (by kernel_rfl)) rfl ?_;exact KU ts i w _ _ _ 0 ⟨#[]⟩ 0 none 0 0 ((Cc _ w).alloc (BU _) _) HO.o rfl
    ·exact absurd (Qu _ _ _ _ HQ.o) (by rw[HN.o];exact cA)
theorem zoy(ts:List Tok)(v:Value)(hg:E_ ts)(hn:ts.length<=100000)(f:Nat):∀f1,f1<=f ->
  (∀(w:World)(i:Nat),GJ w v ts->i<=ts.length->4*(ts.length-i)+4<=f1->Calls prog 54 #[v,.int .i64 i] w (Gj ts i w (read f1 (ts.drop i)))) /\
  (∀(w:World)(i:Nat),GJ w v ts->i<=ts.length->4*(ts.length-i)+3<=f1->Calls prog 98 #[v,.int .i64 i] w (Gj ts i w (app f1 (ts.drop i)))) /\
  (∀(w:World)(i:Nat),GJ w v ts->i<=ts.length->4*(ts.length-i)+2<=f1->Calls prog 146 #[v,.int .i64 i] w (Gj ts i w (atom f1 (ts.drop i)))):=by
 induction f with
 |zero =>
  intro f1 h;exact⟨λw i _ _ h2=>by omega,λw i _ _ h2=>by omega,λw i _ _ h2=>by omega⟩
 |succ f ih =>
  intro f1 h1;by_cases h:f1<=f
  ·exact ih f1 h
  ·obtain rfl:f1=f+1:=by omega
   have i0:=ih f (BU _);refine⟨λw i hv hi hf=>?_,λw i hv hi hf=>?_,λw i hv hi hf=>?_⟩
   ·cases hq:GL ts i 3 ub with
    |true=>exact ziE f ts v w i hv hn hf hq i0.1
    |false=>exact ziD f ts v w i hv hn hi hf hq i0.2.1 i0.1
   ·exact zox f ts v w i hv hn hi hf (λf1 h=>(ih f1 h).2.2)
   ·exact zmA f ts v w i hv hg hn hi hf i0.1
theorem zmC(ts:List Tok)(v:Value)(w:World)(hg:E_ ts)(hn:ts.length<=100000)(hv:GJ w v ts):Calls prog 54 #[v,.int .i64 0] w (Gj ts 0 w (read (FH ts) ts)):=by
 have:=(zoy ts v hg hn (FH ts) (FH ts) (BU _)).1 w 0 hv (Cw _) (by unfold FH;omega);rwa [DR]at this
end
section
open Go.RowKit Lx Tx
set_option maxRecDepth 100000
theorem zlh(s:ByteArray)(w:World)(hs:s.size<=maxLen):Calls prog 19 #[.string s] w (Lz s.data.toList w):=by
 go_in;go_wp2_with fail;refine(zqB s _ hs).mono ?_;rintro e w1 ⟨b1,v,ts,a,er,sk,rfl,aj⟩;have aB:ar w1 w.heap.size 43 #[.int .i64 0,.string ⟨#[]⟩,.int .i64 0,.slice none 0 0]:=ar.below (BZ _ _) b1 (by simp);obtain⟨a0,a1,a2,a3,r0,r1,r2,r3,cZ⟩:=n_ aB;have cK:=EP aB;have B1:=EP b1;have pK:=EP sk;have cg:=EP (GJ.Jy aj);obtain⟨P,c,rfl⟩:∃P c,v=.slice P ts.length c:=GS aj;clear aB b1 sk aj;by_cases he:er=0
 ·subst he
  obtain⟨hG,hL⟩:=zhT _ _ _ pK.o;have HR:=EP (zmC ts (.slice P ts.length c) w1 hG (by omega) cg.o);obtain⟨n,hN⟩:∃n,ts.length=n:=⟨_,rfl⟩;have HN:=EP hN;rw[hN]at HR hL ⊢;clear hN;go_wp2_with fail;refine HR.o.mono ?_;rintro e w2 ⟨b2,K1,X1,Z1,A1,m1,c1,aD⟩;have aB:=cK.o.below b2 cZ;obtain⟨a0,a1,a2,a3,r0,r1,r2,r3,ju⟩:=n_ aB;have iP:=EP aB;have B2:=EP b2;have aF:=EP (Hf (J1 B1.o (BU _)) b2 (BU _));clear aB b2;rcases aD with⟨ho,rfl⟩|⟨t,k,hk,cA,ho,rfl,hr⟩
  ·have HP:=EP (SS _ _ _ pK.o (by rw[ho];simp))
   have dn:((-1:Int) !=(n:Int))=true:=Ng _ _ (by omega);clear ho;go_wp2_with fail;try simp only[Exit.inBlock,Exit.then]
   refine Ce (FC rfl _ _ w.heap.size 43 _ (0,0) _ rfl ((Fh _ _ _ _ iP.o).alloc _) underlying43 rfl (by kernel_rfl)) rfl ?_;exact PO _ _ _ _ 20 20 ((GH aF.o _ _ _ _ (BU _)).alloc (by simp;omega) _) (by decide) HP.o rfl rfl
  ·by_cases ig:k=n
   ·have dn:((k:Int) !=(n:Int))=false:=Y1 _ _ (by rw[ig])
    have HP:=EP (zgO _ _ _ t pK.o (by rw[ho,CH (by rw[HN.o];omega)]));have HT:=EP hr;have jZ:t.size<=4000:=by
     have:=((Qq _).1 ts t _ hG ho).2.2;have:=HN.o;omega
    clear ho hr ig hG;have HD:=EP (λw v hv hS=>zlg 1000000 t (λg=>w1.heap.size<=g/\g<w2.heap.size) v w (by omega) (by omega) hv hS);obtain⟨D,hD⟩:∃D,t.depth=D:=⟨_,rfl⟩;rw[hD]at HP HD;clear hD;go_wp2_with fail;refine(HD.o _ _ (HT.o.al (λ_ h=>h) (λg hg=>BX _ _ _ hg.2)) (λg hg=>by simp;omega)).mono ?_;rintro e w3 ⟨rfl,b3⟩;have aB:=(iP.o.alloc (.cells #[.int .i64 K1,.string X1,.int .i64 Z1,.slice A1 m1 c1] 43)).below b3 (by simp;omega);have fk:ar w3 w2.heap.size 43 #[.int .i64 K1,.string X1,.int .i64 Z1,.slice A1 m1 c1]:=ar.below (BZ _ _) b3 (by simp);obtain⟨a0,a1,a2,a3,r0,r1,r2,r3,kr⟩:=n_ aB;obtain⟨p0,p1,p2,p3,s0,s1,s2,s3,uk⟩:=n_ fk;have HE0:=EP aB;have sU:=EP (Hf aF.o (J1 b3 (BU _)) (by have:=aF.o.size;omega));have gu:=EP (HT.o.al (S':=λg=>w1.heap.size<=g/\g<w2.heap.size) (λ_ h=>h) (λg hg=>(J1 b3 (BU _)).block g hg.2));have xY:=(J1 b3 (BU _)).size;have j5:=aF.o.size;have mA:=(J1 B1.o (BU _)).size;clear aB fk b3;by_cases hd:50<D
    ·have dd:decide ((50:Int)<(D:Int))=true:=CD (by omega)
     have HP:=EP (HP.o.trans (Ch hd));clear hd;go_wp2_with fail;try simp only[Exit.inBlock,Exit.then]
     refine Ce (FC rfl _ _ w.heap.size 43 _ (0,0) _ rfl (Fh _ _ _ _ HE0.o) underlying43 rfl (by kernel_rfl)) rfl ?_;exact PO _ _ _ _ 3 3 (GH sU.o _ _ _ _ (BU _)) (by decide) HP.o rfl rfl
    ·have dd:decide ((50:Int)<(D:Int))=false:=CF (by omega)
     have HP:=EP (HP.o.trans (Cg hd));clear hd;go_wp2_with fail;try simp only[Exit.inBlock,Exit.then]
     refine Ce (FC rfl _ _ w.heap.size 43 _ (0,0) _ rfl (Fh _ _ _ _ HE0.o) underlying43 rfl (by kernel_rfl)) rfl ?_;refine⟨GH sU.o _ _ _ _ (BU _),K1,X1,Z1,A1,m1,c1,.inr ⟨t,HP.o,rfl,?_⟩⟩;exact gu.o.al (λg hg=>by simp;omega) (λg hg=>G3 _ _ _ _ _ _ _ (by omega))
   ·have dn:((k:Int) !=(n:Int))=true:=Ng _ _ (by omega)
    have HP:=EP (SS _ _ _ pK.o (by
     rw[ho];intro t' e;injection e with e;injection e with _ e;have:=Cp List.length e;rw[Dk,HN.o]at this
     simp at this;rw[HN.o]at cA;omega))
    clear ho hr ig;go_wp2_with fail;try simp only[Exit.inBlock,Exit.then]
    refine Ce (FC rfl _ _ w.heap.size 43 _ (0,0) _ rfl ((Fh _ _ _ _ iP.o).alloc _) underlying43 rfl (by kernel_rfl)) rfl ?_;exact PO _ _ _ _ 20 20 ((GH aF.o _ _ _ _ (BU _)).alloc (by simp;omega) _) (by decide) HP.o rfl rfl
 ·have de:=Ng (er:Int) 0 (by omega)
  have HP:=EP (zhU _ _ _ _ pK.o he);have HE:=EP he;clear he;go_wp2_with fail;try simp only[Exit.inBlock,Exit.then]
  refine Ce (FC rfl _ _ w.heap.size 43 _ (0,0) _ rfl (Fh _ _ _ _ cK.o) underlying43 rfl (by kernel_rfl)) rfl ?_;exact PO _ _ _ _ er er (GH (J1 B1.o (BU _)) _ _ _ _ (BU _)) HE.o HP.o rfl rfl
end
end Go.Proofs.YtfafilmklhnngaaGreatDoor
