/-
  Contracts of the code's functions, part 10.
-/
import Derived.Test.YtknkclefoiohpaaGreatDoorKbG
import Derived.Test.YtknkclefoiohpaaGreatDoorKbF
import Derived.Laws.IdiomStrings
import Derived.Deep.RegionWith
import Derived.Deep.RegionHeld3
import Derived.Deep.AppendLies
import Derived.IntWalk
import Derived.Maps.AppendAt
namespace Go.Proofs.YtknkclefoiohpaaGreatDoor
open Go.RowKit Lx Tx
set_option maxRecDepth 100000
theorem ret_string {a b:ByteArray}(h:a=b):Ending.returned (.string a)=.returned (.string b):=by rw[h]
theorem app_mk(l:List UInt8)(b:UInt8):((⟨l.toArray⟩:ByteArray)++(⟨#[b]⟩:ByteArray))=⟨(l++[b]).toArray⟩:=by
 apply ByteArray.ext
 simp
theorem printL_snoc(l:List Ty)(t:Ty):printL (l++[t])=printL l++(if t.big then 32::40::(t.print++[41]) else 32::t.print):=by
 induction l with
 | nil=>simp[printL]
 | cons a r ih=>rw[List.cons_append,printL,printL,ih];simp
theorem printL_take(l:List Ty)(i:Nat)(hi:i<l.length):printL (l.take (i+1))=printL (l.take i)++(if l[i].big then 32::40::(l[i].print++[41]) else 32::l[i].print):=by
 rw[take_snoc l i hi,printL_snoc]
theorem printL_take_le(l:List Ty)(i:Nat):(printL (l.take i)).length<=(printL l).length:=by
 induction l generalizing i with
 | nil=>simp
 | cons t r ih =>
  cases i with
  | zero=>simp[printL]
  | succ i=>rw[List.take_succ_cons,printL,printL];have:=ih i;simp;omega
theorem printL_kid(l:List Ty)(i:Nat)(hi:i<l.length):l[i].print.length<(printL l).length:=by
 induction l generalizing i with
 | nil=>simp at hi
 | cons t r ih =>
  rw[printL]
  cases i with
  | zero =>
   simp only[List.getElem_cons_zero,List.length_append]
   split
   ·simp;omega
   ·simp;omega
  | succ i=>have:=ih i (by simpa using hi);simp;omega
theorem big_ways(t:Ty)(h:t.big=true):((kd t:Int)==4)=true\/(((kd t:Int)==4)=false/\((kd t:Int)==5)=true)\/(((kd t:Int)==4)=false/\((kd t:Int)==5)=false/\((kd t:Int)==3)=true/\0<(kids t).length):=by
 cases t with
 | var x=>simp[Ty.big]at h
 | mt n=>simp[Ty.big]at h
 | con c l =>
  cases l with
  | nil=>simp[Ty.big]at h
  | cons a r=>exact .inr (.inr ⟨rfl,rfl,rfl,by simp[kids]⟩)
 | fn a b=>exact .inl rfl
 | all x t=>exact .inr (.inl ⟨rfl,rfl⟩)
theorem small_ways(t:Ty)(h:t.big=false):((kd t:Int)==4)=false/\((kd t:Int)==5)=false/\(((kd t:Int)==3)=false\/(((kd t:Int)==3)=true/\(kids t).length=0)):=by
 cases t with
 | var x=>exact⟨rfl,rfl,.inl rfl⟩
 | mt n=>exact⟨rfl,rfl,.inl rfl⟩
 | con c l =>
  cases l with
  | nil=>exact⟨rfl,rfl,.inr ⟨rfl,rfl⟩⟩
  | cons a r=>simp[Ty.big]at h
 | fn a b=>simp[Ty.big]at h
 | all x t=>simp[Ty.big]at h
theorem nm_kid {t:Ty}(h:Nm t)(i:Nat)(hi:i<(kids t).length):Nm (kids t)[i]:=by
 cases h with
 | var x _=>simp[kids]at hi
 | mt n _=>simp[kids]at hi
 | con c l _ hl=>exact hl _ (List.getElem_mem hi)
 | fn a b ha hb =>
  match i,hi with
  | 0,_=>exact ha
  | 1,_=>exact hb
  | i+2,hi=>exact absurd hi (by simp[kids])
 | all x t _ ht =>
  match i,hi with
  | 0,_=>exact ht
  | i+1,hi=>simp[kids]at hi
theorem app_q(l:List UInt8):((⟨#[63]⟩:ByteArray)++(⟨l.toArray⟩:ByteArray))=⟨(63::l).toArray⟩:=by
 apply ByteArray.ext
 simp
theorem cat_small(a p:List UInt8):(⟨a.toArray⟩:ByteArray)++(⟨#[32]⟩:ByteArray)++(⟨p.toArray⟩:ByteArray)=⟨(a++32::p).toArray⟩:=by
 apply ByteArray.ext
 simp
theorem cat_big(a p:List UInt8):(⟨a.toArray⟩:ByteArray)++(⟨#[32,40]⟩:ByteArray)++(⟨p.toArray⟩:ByteArray)++(⟨#[41]⟩:ByteArray)=⟨(a++32::40::(p++[41])).toArray⟩:=by
 apply ByteArray.ext
 simp
theorem mk_size(l:List UInt8):(⟨l.toArray⟩:ByteArray).size=l.length:=rfl
theorem kid_cells2 {S:Nat->Prop} {w w':World} {t:Ty} {A:Option Addr} {i m:Nat}(h:Args S w t A)(hm:(kids t).length=m)(hi:i<m)(hk:∀g,S g->w'.heap[g]? = w.heap[g]?) :
  ∃g u K X Z A1 n1 c1,A=some ⟨g,0,none⟩/\S g/\w'.cell? ⟨g,i*4,none⟩=some (.int .i64 K)/\w'.cell? ⟨g,i*4+1,none⟩=some (.string X)/\w'.cell? ⟨g,i*4+2,none⟩=some (.int .i64 Z) /\
   w'.cell? ⟨g,i*4+3,none⟩=some (.slice A1 n1 c1)/\(∃hi:i<(kids t).length,(kids t)[i]=u)/\RdV S w' u (.agg #[.int .i64 K,.string X,.int .i64 Z,.slice A1 n1 c1])/\u.size<t.size/\K=(kd u:Nat)/\n1=(kids u).length:=by
 subst hm
 obtain⟨g,h1,h2,A1,c1,h3,h4⟩:=h.kid i hi
 obtain⟨e0,e1,e2,e3⟩:=h3.keep (hk g h2)
 exact⟨g,(kids t)[i],_,_,_,A1,_,c1,h1,h2,e0,e1,e2,e3,⟨hi,rfl⟩,⟨A1,c1,rfl,h4.keep (λ_ h=>h) hk⟩,kid_size t i hi,rfl,rfl⟩
theorem fa_ways(t:Ty)(h:t.isFA=true):((kd t:Int)==4)=true\/(((kd t:Int)==4)=false/\((kd t:Int)==5)=true):=by
 cases t with
 | var x=>simp[Ty.isFA]at h
 | mt n=>simp[Ty.isFA]at h
 | con c l=>simp[Ty.isFA]at h
 | fn a b=>exact .inl rfl
 | all x t=>exact .inr ⟨rfl,rfl⟩
theorem fa_not(t:Ty)(h:t.isFA=false):((kd t:Int)==4)=false/\((kd t:Int)==5)=false:=by
 cases t with
 | var x=>exact⟨rfl,rfl⟩
 | mt n=>exact⟨rfl,rfl⟩
 | con c l=>exact⟨rfl,rfl⟩
 | fn a b=>simp[Ty.isFA]at h
 | all x t=>simp[Ty.isFA]at h
theorem cat_arrow(p q:List UInt8):(⟨p.toArray⟩:ByteArray)++(⟨#[32,45,62,32]⟩:ByteArray)++(⟨q.toArray⟩:ByteArray)=⟨(p++[32,45,62,32]++q).toArray⟩:=by
 apply ByteArray.ext
 simp
theorem cat_arrow2(p q:List UInt8):(⟨#[40]⟩:ByteArray)++(⟨p.toArray⟩:ByteArray)++(⟨#[41,32,45,62,32]⟩:ByteArray)++(⟨q.toArray⟩:ByteArray)=⟨(40::(p++[41])++[32,45,62,32]++q).toArray⟩:=by
 apply ByteArray.ext
 simp
theorem cell4_parts {S:Nat->Prop} {w:World} {u:Ty} {A:Option Addr} {c g o:Nat}(h:Cell4 w u A c g o)(ha:Args S w u A) :
  ∃K X Z n,w.cell? ⟨g,o,none⟩=some (.int .i64 K)/\w.cell? ⟨g,o+1,none⟩=some (.string X)/\w.cell? ⟨g,o+2,none⟩=some (.int .i64 Z)/\w.cell? ⟨g,o+3,none⟩=some (.slice A n c) /\
   RdV S w u (.agg #[.int .i64 K,.string X,.int .i64 Z,.slice A n c])/\K=(kd u:Nat)/\n=(kids u).length :=
 ⟨_,_,_,_,h.1,h.2.1,h.2.2.1,h.2.2.2,⟨A,c,rfl,ha⟩,rfl,rfl⟩
theorem not_all(u:Ty)(h:¬ ∃y t,u=.all y t):((kd u:Int)==5)=false/\printA u=[46,32]++u.print:=by
 refine⟨?_,printA_other u (λy t e=>h ⟨y,t,e⟩)⟩
 cases u with
 | all y t=>exact absurd ⟨y,t,rfl⟩ h
 | var x=>rfl
 | mt k=>rfl
 | con c l=>rfl
 | fn a b=>rfl
theorem cat_name(a y:List UInt8)(X Y:ByteArray)(hX:X.data.toList=a)(hY:Y=⟨y.toArray⟩):(X++(⟨#[32]⟩:ByteArray)++Y).data.toList=a++32::y:=by
 subst hX hY
 simp
theorem cat_last(p:List UInt8)(X:ByteArray):X++(⟨#[46,32]⟩:ByteArray)++(⟨p.toArray⟩:ByteArray)=⟨(X.data.toList++([46,32]++p)).toArray⟩:=by
 apply ByteArray.ext
 simp
theorem all_open {S:Nat->Prop} {w:World} {y:List UInt8} {u:Ty} {K Z:Int} {X:ByteArray} {A:Option Addr} {m c:Nat}(h:RdV S w (.all y u) (.agg #[.int .i64 K,.string X,.int .i64 Z,.slice A m c])) :
  K=5/\X=⟨y.toArray⟩/\m=1/\∃g,A=some ⟨g,0,none⟩/\S g/\∃K1 X1 Z1 A1 n1 c1,w.cell? ⟨g,0,none⟩=some (.int .i64 K1)/\w.cell? ⟨g,1,none⟩=some (.string X1)/\w.cell? ⟨g,2,none⟩=some (.int .i64 Z1)/\w.cell? ⟨g,3,none⟩=some (.slice A1 n1 c1) /\
   RdV S w u (.agg #[.int .i64 K1,.string X1,.int .i64 Z1,.slice A1 n1 c1]):=by
 obtain⟨A',c',hv,ha⟩:=h
 injection hv with hv
 have hv:=congrArg Array.toList hv
 simp only[List.cons.injEq,Value.int.injEq,Value.string.injEq,Value.slice.injEq,and_true,true_and]at hv
 obtain⟨rfl,rfl,rfl,rfl,rfl,rfl⟩:=hv
 rw[Args]at ha
 obtain⟨g,rfl,hg,A1,c1,h1,r1⟩:=ha
 obtain⟨K1,X1,Z1,n1,e0,e1,e2,e3,rd1,-,-⟩:=cell4_parts h1 r1
 exact⟨rfl,rfl,rfl,g,rfl,hg,K1,X1,Z1,A1,n1,c1,e0,e1,e2,e3,rd1⟩
theorem rd_kind {S:Nat->Prop} {w:World} {u:Ty} {K Z:Int} {X:ByteArray} {A:Option Addr} {m c:Nat}(h:RdV S w u (.agg #[.int .i64 K,.string X,.int .i64 Z,.slice A m c])):K=(kd u:Nat)/\m=(kids u).length:=by
 obtain⟨A',c',hv,ha⟩:=h
 injection hv with hv
 have hv:=congrArg Array.toList hv
 simp only[List.cons.injEq,Value.int.injEq,Value.string.injEq,Value.slice.injEq,and_true,true_and]at hv
 exact⟨hv.1,hv.2.2.2.2.1⟩
theorem alloc_at(w:World)(o:Obj)(g:Nat)(hg:g=w.heap.size):(w.alloc o).heap[g]? = some o:=by
 subst hg;exact heap_alloc_new w o
end Go.Proofs.YtknkclefoiohpaaGreatDoor

namespace Go.Proofs.YtknkclefoiohpaaGreatDoor
open Go.RowKit Lx Tx
set_option maxRecDepth 100000
theorem conv_byte(W:World)(x:Int)(b:UInt8)(hx:x=b.toNat) :
  (convert 55 9 (.slice (some ⟨W.heap.size,0,none⟩) 1 1)).run Tryz.prog (W.alloc (.cells #[.int .u8 x] 5))=.ok (.string ⟨#[b]⟩) (W.alloc (.cells #[.int .u8 x] 5)):=by
 subst hx
 refine run_convert_bytes_back (W.alloc (.cells #[.int .u8 (b.toNat:Int)] 5)) 55 9 5 ⟨W.heap.size,0,none⟩ 1 [b] Tryz.underlying55 Tryz.underlying5 Tryz.underlying9 ?_
 intro j hj
 simp at hj
 subst hj
 rw[show(⟨W.heap.size,0,none⟩:Addr).add 0=⟨W.heap.size,0,none⟩ from rfl,cell_of_row _ _ _ _ 5 (0,0) (heap_alloc_new _ _)]
 rfl
theorem conv_cell(W:World)(g:Nat)(x:Int)(b:UInt8)(hx:x=b.toNat)(hc:W.cell? ⟨g,0,none⟩=some (.int .u8 x)) :
  (convert 55 9 (.slice (some ⟨g,0,none⟩) 1 1)).run Tryz.prog W=.ok (.string ⟨#[b]⟩) W:=by
 subst hx
 refine run_convert_bytes_back W 55 9 5 ⟨g,0,none⟩ 1 [b] Tryz.underlying55 Tryz.underlying5 Tryz.underlying9 ?_
 intro j hj
 simp at hj
 subst hj
 rw[show(⟨g,0,none⟩:Addr).add 0=⟨g,0,none⟩ from rfl]
 exact hc
set_option maxHeartbeats 400000 in
theorem ref2_decF(f:Nat):∀(n:Nat)(w:World),n<10 ^ f->n<10 ^ 18->1<=f->f<=20 ->
  Calls Tryz.prog 91 #[.int .i64 n] w λe w'=>e=.returned (.string ⟨(decF f n).toArray⟩)/\Below w.heap.size w w':=by
 induction f with
 | zero=>intro n w _ _ h;omega
 | succ f ih =>
  intro n w hn h18 _ hf20
  by_cases h10:n<10
  ·have hconv:=λW=>conv_byte W (48+(n:Int)) (digit n) (by rw[digit_nat];omega)
   have hd:=hidE (show decF (f+1) n=[digit n] by rw[decF,if_pos h10])
   clear ih hn
   go_enter Tryz.func91,Tryz.ntmps91
   go_wp2_with fail
   go_ret
   exact⟨ret_string (by rw[hd.out]),(Below.refl _ _).alloc (Nat.le_refl _) _⟩
  ·obtain⟨m,hm⟩:∃m,n / 10=m:=⟨_,rfl⟩
   obtain⟨d,hd0⟩:∃d,n % 10=d:=⟨_,rfl⟩
   have hd:=hidE (show decF (f+1) n=decF f m++[digit n] by rw[decF,if_neg h10,hm])
   have hf:1<=f:=by
    rcases Nat.eq_zero_or_pos f with e|e
    ·subst e;simp at hn;omega
    ·exact e
   have hconv:=λW g=>conv_cell W g (48+(d:Int)) (digit n) (by rw[digit_nat,hd0];omega)
   have IH:=λw=>ih m w (by rw[Nat.pow_succ]at hn;omega) (by omega) hf (by omega)
   have hlen:(decF f m).length<=20:=decF_len f 20 m (by omega) (by omega)
   obtain⟨D,hD⟩:∃D:ByteArray,⟨(decF f m).toArray⟩=D:=⟨_,rfl⟩
   have hDz:D.size<=20:=by rw[<-hD];exact hlen
   rw[hD]at IH
   have HD:=hidE hD
   have q1:IntKind.i64.wrap ((n:Int) / 10)=(m:Int):=by rw[IntWalk.i64_in _ (by omega)];omega
   have q2:(n:Int).tmod 10=(d:Int):=by rw[Int.tmod_eq_emod_of_nonneg (by omega)];omega
   have q3:IntKind.i64.wrap (48+(d:Int))=48+(d:Int):=IntWalk.i64_in _ (by omega)
   have q4:IntKind.u8.wrap (48+(d:Int))=48+(d:Int):=by simp[IntKind.wrap,IntKind.signed,IntKind.bits];omega
   have hd9:d<=9:=by omega
   clear ih hn hD hlen hm hd0
   go_enter Tryz.func91,Tryz.ntmps91
   go_wp2_with fail
   go_region_with (go_at_call 91;(with_reducible refine(IH _).mono ?_);rintro e w1 ⟨rfl,b1⟩;have B1:=hidE b1;(try have hc:w1.cell? ⟨w.heap.size,0,none⟩=some (.int .u8 (48+(d:Int))):=(b1.cell (p:=⟨w.heap.size,0,none⟩) (by simp)).trans (cell_of_row _ _ _ _ _ _ (heap_alloc_new _ _)));clear b1)
   all_goals (go_wp2_with fail;go_ret)
   ·have B:Below w.heap.size w w1:=(Below.refl w.heap.size w).drew.trans B1.out
    exact⟨ret_string (by rw[hd.out,<-HD.out,app_mk]),B.alloc B.size _⟩
   all_goals
    have B:Below w.heap.size w w1:=((Below.refl w.heap.size w).alloc (Nat.le_refl _) _).drew.trans (B1.out.mono (by simp))
    exact⟨ret_string (by rw[hd.out,<-HD.out,app_mk]),B⟩
theorem ref2_dec(n:Nat)(w:World)(h:n<10 ^ 18):Calls Tryz.prog 91 #[.int .i64 n] w λe w'=>e=.returned (.string ⟨(dec n).toArray⟩)/\Below w.heap.size w w' :=
 ref2_decF 20 n w (by omega) h (by omega) (by omega)
end Go.Proofs.YtknkclefoiohpaaGreatDoor

namespace Go.Proofs.YtknkclefoiohpaaGreatDoor
open Go.RowKit Lx Tx
set_option maxRecDepth 100000
set_option maxHeartbeats 800000 in
theorem ref2_is(v:Value)(ts:List Tok)(i K:Nat)(X:ByteArray)(k:Int)(hkK:k=K)(w:World)(h:RdT w v ts) :
  Calls Tryz.prog 85 #[v,.int .i64 i,.int .i64 k,.string X] w λe w'=>e=.returned (.bool (isAt ts i K X.data.toList))/\w=w':=by
 subst hkK
 obtain⟨R,hR⟩:∃R,isAt ts i K X.data.toList=R:=⟨_,rfl⟩
 rw[hR]
 by_cases hi:i<ts.length
 ·obtain⟨g,c,rfl,h0,h1,h2⟩:=h.at_ i hi
  rw[isAt_at ts i K _ hi]at hR
  obtain⟨T,hT⟩:∃T:ByteArray,⟨ts[i].text.toArray⟩=T:=⟨_,rfl⟩
  have hT':ts[i].text=T.data.toList:=by rw[<-hT]
  obtain⟨m,hm⟩:∃m,ts[i].kind=m:=⟨_,rfl⟩
  rw[hT]at h1
  rw[hm]at h0 hR
  rw[hT']at hR
  clear h2 hT hT' hm h
  obtain⟨n,hn⟩:∃n,ts.length=n:=⟨_,rfl⟩
  rw[hn]at hi ⊢
  clear hn
  by_cases hk:m=K
  ·have dk:=kT m K hk
   by_cases hx:X=⟨#[]⟩
   ·have dx:X.toList.isEmpty=true:=by rw[hx,Lib.toList_data];rfl
    have hr:=hidE (show R=true by rw[<-hR,hx,hk];simp)
    clear hk hx hR
    go_enter Tryz.func85,Tryz.ntmps85
    go_wp2
    go_ret
    exact⟨ret_bool hr.out.symm,rfl⟩
   ·have hx':X.data.toList≠[]:=λe=>hx (ByteArray.ext (by simpa using e))
    have dx:X.toList.isEmpty=false:=by rw[Lib.toList_data];cases hz:X.data.toList with|nil=>exact absurd hz hx'|cons a b=>rfl
    by_cases he:T=X
    ·have dt:=strT T X he
     have hr:=hidE (show R=true by rw[<-hR,he,hk];simp)
     clear hk hx hx' he hR
     go_enter Tryz.func85,Tryz.ntmps85
     go_wp2
     go_ret
     exact⟨ret_bool hr.out.symm,rfl⟩
    ·have dt:=strF T X he
     have he':¬T.data.toList=X.data.toList:=λe=>he (ByteArray.ext (by simpa using e))
     have hr:=hidE (show R=false by rw[<-hR,hk,beq_eq_false_iff_ne.2 hx',beq_eq_false_iff_ne.2 he'];simp)
     clear hk hx hx' he he' hR
     go_enter Tryz.func85,Tryz.ntmps85
     go_wp2
     go_ret
     exact⟨ret_bool hr.out.symm,rfl⟩
  ·have dk:=kF m K hk
   have hr:=hidE (show R=false by rw[<-hR];simp[hk])
   clear hk hR
   go_enter Tryz.func85,Tryz.ntmps85
   go_wp2
   go_ret
   exact⟨ret_bool hr.out.symm,rfl⟩
 ·rw[isAt_end ts i K _ (by omega)]at hR
  obtain⟨A,c,rfl,_⟩:=h
  obtain⟨n,hn⟩:∃n,ts.length=n:=⟨_,rfl⟩
  rw[hn]at hi ⊢
  clear hn
  have hr:=hidE hR
  clear hR
  go_enter Tryz.func85,Tryz.ntmps85
  go_wp2
  go_ret
  exact⟨ret_bool hr.out,rfl⟩
set_option maxHeartbeats 800000 in
theorem ref2_number(s:ByteArray)(w:World)(hd:∀c∈s.data.toList,isDig c=true)(hs:s.size<=6) :
  Calls Tryz.prog 203 #[.string s] w λe w'=>e=.returned (.int .i64 (numOf s.data.toList:Nat))/\w=w':=by
 obtain⟨R,hR⟩:∃R,numOf s.data.toList=R:=⟨_,rfl⟩
 have HR:=hidE hR
 have HD:=hidE hd
 rw[hR]
 clear hR hd
 go_enter Tryz.func203,Tryz.ntmps203
 go_wp2
 go_loopg [3,4] s.size (λgg vn v wr=>∃k n:Nat,gg=s.size-k/\vn=.int .i64 n/\v=.int .i64 k/\wr=w/\k<=s.size/\n<1000000/\Hid (numOf (s.data.toList.take k)=n))
 case atStart=>exact⟨0,0,rfl,rfl,rfl,rfl,by omega,by omega,hidE rfl⟩
 case round =>
  obtain⟨k,n,rfl,rfl,rfl,rfl,hk,hn6,hn⟩:=hrel
  by_cases hlt:k<s.size
  ·have hkl:k<s.data.toList.length:=by rw[<-Lib.size_eq];exact hlt
   have hdg:isDig s[k]=true:=HD.out _ (by rw[show s[k]=s.data.toList[k] from rfl];exact List.getElem_mem _)
   have h48:48<=s[k].toNat:=by simp[isDig]at hdg;exact hdg.1
   obtain⟨d,hd⟩:∃d,s[k].toNat-48=d:=⟨_,rfl⟩
   have hlt2:s[k].toNat<256:=s[k].toNat_lt
   have q1:IntKind.u8.wrap ((s[k].toNat:Int)-48)=(d:Int):=by simp[IntKind.wrap,IntKind.signed,IntKind.bits];omega
   have hr:Hid (numOf (s.data.toList.take (k+1))=10*n+d):=hidE (by rw[take_snoc _ k hkl,numOf_snoc,hn.out,<-hd];rfl)
   have hn7:10*n+d<1000000:=by
    rw[<-hr.out]
    refine Nat.lt_of_lt_of_le (numOf_lt _ (λc hc=>HD.out c (List.mem_of_mem_take hc))) ?_
    rw[List.length_take]
    exact Nat.le_trans (Nat.pow_le_pow_right (by omega) (show min (k+1) s.data.toList.length<=6 by omega)) (by decide)
   have hd8:d<256:=by omega
   clear hdg hd hlt2
   go_wp2
   go_roundg (s.size-(k+1))
   case measure=>omega
   case rel=>exact⟨k+1,10*n+d,rfl,by go_num,by go_num,rfl,by omega,hn7,hr⟩
  ·have hr:=hidE (show n=R by rw[<-HR.out,<-hn.out,List.take_of_length_le (by rw[<-Lib.size_eq];omega)])
   go_wp2
   go_ret
   exact⟨ret_i64 (by rw[hr.out]),rfl⟩
end Go.Proofs.YtknkclefoiohpaaGreatDoor

namespace Go.Proofs.YtknkclefoiohpaaGreatDoor
open Go.RowKit Lx Tx
set_option maxRecDepth 100000
set_option maxHeartbeats 800000 in
theorem ref2_depth(n:Nat):∀(t:Ty)(S:Nat->Prop)(v:Value)(w:World),t.size<=n->n<=1000000->RdV S w t v->(∀g,S g->g<w.heap.size) ->
  Calls Tryz.prog 86 #[v] w λe w'=>e=.returned (.int .i64 (t.depth:Nat))/\Below w.heap.size w w':=by
 induction n with
 | zero=>intro t S v w h;rw[size_kids]at h;omega
 | succ n ih =>
  intro t S v w hn h5 hv hS
  obtain⟨K,X,Z,A,m,c,rfl,-,-,-,hm,ha⟩:=hv.parts
  obtain⟨R,hR⟩:∃R,t.depth=R:=⟨_,rfl⟩
  have hR1:depthL (kids t)+1=R:=by rw[<-depth_kids];exact hR
  have hm6:m<=n:=by have:=kids_len t;omega
  have hR6:R<=n+1:=by have:=depth_size t;omega
  have HM:=hidE hm
  have HA:=hidE ha
  have IH:=hidE ih
  have HS:=hidE hS
  have HN:=hidE hn
  have HR1:=hidE hR1
  rw[hR]
  clear hm hR ha ih hS hn hR1 hv
  go_enter Tryz.func86,Tryz.ntmps86
  go_wp2
  go_loopg [3,4] m (λgg va vi wr=>∃i a:Nat,gg=m-i/\va=.int .i64 a/\vi=.int .i64 i/\i<=m/\Hid (depthL ((kids t).take i)=a)/\Below (w.heap.size+1) (w.alloc (.cells #[.int .i64 K,.string X,.int .i64 Z,.slice A m c] 44)) wr)
  case atStart=>exact⟨0,0,rfl,rfl,rfl,by omega,hidE rfl,Below.refl _ _⟩
  case round =>
   obtain⟨i,a,rfl,rfl,rfl,hi,hd,hb⟩:=hrel
   have c3:wr.cell? ⟨w.heap.size,3,none⟩=some (.slice A m c):=(hb.cell (p:=⟨w.heap.size,3,none⟩) (by simp)).trans (cell_of_row _ _ _ _ _ _ (heap_alloc_new _ _))
   have HB:=hidE hb
   clear hb
   by_cases hlt:i<m
   ·obtain⟨g,u,K1,X1,Z1,A1,n1,c1,rfl,hg,e0,e1,e2,e3,hu,hrd,hsz⟩:=kid_cells (w':=wr) HA.out HM.out hlt (λg hg=>by rw[HB.out.block g (by have:=HS.out g hg;omega),Below.heap_alloc _ _ _ (HS.out g hg)])
    have hcall:=IH.out u S _ wr (by have:=HN.out;omega) (by omega) hrd (λg hg=>by have:=HB.out.size;have:=HS.out g hg;simp at *;omega)
    have hmx:=hidE (depth_take _ _ _ _ hd hu)
    obtain⟨D,hD⟩:∃D,u.depth=D:=⟨_,rfl⟩
    rw[hD]at hmx hcall
    clear hrd hu hD
    go_wp2_with (go_at_call 86;refine hcall.mono ?_;rintro e w1 ⟨rfl,b1⟩)
    all_goals
     have HB2:=hidE (HB.out.trans (b1.mono (by have:=HB.out.size;simp at this;omega)))
     go_roundg (m-(i+1))
     case measure=>omega
     case rel=>exact⟨i+1,_,rfl,rfl,by go_num,by omega,hidE (by rw[hmx.out];omega),HB2.out⟩
   ·have hr:=hidE (show a+1=R by rw[List.take_of_length_le (by rw[HM.out];omega)]at hd;rw[hd.out]at HR1;exact HR1.out)
    have ha6:a<1000001:=by have:=hr.out;omega
    go_wp2_with fail
    go_ret
    exact⟨ret_i64 (by rw[<-hr.out];rfl),((Below.refl _ w).alloc (Nat.le_refl _) _).trans (HB.out.mono (by omega))⟩
end Go.Proofs.YtknkclefoiohpaaGreatDoor

namespace Go.Proofs.YtknkclefoiohpaaGreatDoor
open Go.RowKit Lx Tx
set_option maxRecDepth 100000
set_option maxHeartbeats 800000 in
theorem ref2_atom(f:Nat)(ts:List Tok)(v:Value)(w:World)(i:Nat)(hv:RdT w v ts)(hg:AllG ts)(hn:ts.length<=100000)(hi:i<=ts.length)(hf:4*(ts.length-i)+2<=f+1)
  (IH:∀(w:World)(i:Nat),RdT w v ts->i<=ts.length->4*(ts.length-i)+4<=f->Calls Tryz.prog 133 #[v,.int .i64 i] w (RPost ts i w (read f (ts.drop i)))) :
  Calls Tryz.prog 187 #[v,.int .i64 i] w (RPost ts i w (atom (f+1) (ts.drop i))):=by
 by_cases hlt:i<ts.length
 ·have hdr:=drop_tok ts i hlt
  obtain⟨g,c,rfl,h0,h1,h2⟩:=hv.at_ i hlt
  have hgood:=hg _ (List.getElem_mem hlt)
  have hgl:=hv.lt (by omega)
  rw[hdr]
  generalize hT:ts[i]=T at *
  obtain⟨m,s,p⟩:=T
  obtain⟨X,hX⟩:∃X:ByteArray,⟨s.toArray⟩=X:=⟨_,rfl⟩
  obtain⟨n,hN⟩:∃n,ts.length=n:=⟨_,rfl⟩
  have HX:=hidE hX
  have HN:=hidE hN
  simp only at h0 h1 h2
  rw[hX]at h1
  rw[hN]at hv hlt hn hi hf IH ⊢
  have HV:=hidE hv
  have HIH:=hidE IH
  have HG:=hidE hgood
  clear h2 hv IH hX hN hgood hT hdr hg
  obtain⟨O,hO⟩:∃O,atom (f+1) (⟨m,s,p⟩::ts.drop (i+1))=O:=⟨_,rfl⟩
  rw[hO]
  rw[atom]at hO
  replace hO:=hO.symm
  simp only at hO
  by_cases k1:m=1
  ·have HO:=hidE (hO.trans (if_pos k1))
   subst k1
   clear hO
   have h0:w.cell? ⟨g,i*3,none⟩=some (.int .i64 1):=h0
   go_enter Tryz.func187,Tryz.ntmps187
   go_wp2_with fail
   try simp only[Exit.inBlock,Exit.then]
   refine bodyPost_ret (results_ct rfl _ _ w.heap.size 44 _ (0,0) _ rfl (heap_alloc_new _ _) Tryz.underlying44 rfl (by kernel_rfl)) rfl ?_
   exact rpost_some ts i w _ _ _ 1 X 0 none 0 0 (.var s) (i+1) ((Below.refl _ w).alloc (Nat.le_refl _) _) (by omega) (by rw[HN.out];omega) HO.out rfl ⟨none,0,by rw[<-HX.out];rfl,by rw[Args];trivial⟩
  ·have d1:=neq_int m 1 1 rfl k1
   rw[if_neg k1]at hO
   by_cases k2:m=2
   ·have HO:=hidE (hO.trans (if_pos k2))
    subst k2
    clear hO
    have h0:w.cell? ⟨g,i*3,none⟩=some (.int .i64 2):=h0
    go_enter Tryz.func187,Tryz.ntmps187
    go_wp2_with fail
    try simp only[Exit.inBlock,Exit.then]
    refine bodyPost_ret (results_ct rfl _ _ w.heap.size 44 _ (0,0) _ rfl (heap_alloc_new _ _) Tryz.underlying44 rfl (by kernel_rfl)) rfl ?_
    exact rpost_some ts i w _ _ _ 3 X 0 none 0 0 (.con s []) (i+1) ((Below.refl _ w).alloc (Nat.le_refl _) _) (by omega) (by rw[HN.out];omega) HO.out rfl ⟨none,0,by rw[<-HX.out];rfl,by rw[Args];intro h;exact absurd rfl h⟩
   ·have d2:=neq_int m 2 2 rfl k2
    rw[if_neg k2]at hO
    by_cases k5:m=5
    ·have HO:=hidE (hO.trans (if_pos k5))
     subst k5
     clear hO
     have h0:w.cell? ⟨g,i*3,none⟩=some (.int .i64 5):=h0
     obtain⟨g1,g2,g3⟩:=good_meta _ HG.out rfl
     have hXs:X.data.toList=s:=by rw[<-HX.out]
     have hX1:1<=X.size:=by rw[Lib.size_eq,hXs];exact g3
     have hXe:(X.extract 1 X.size).data.toList=s.drop 1:=by rw[Lib.extract_eq,hXs];simp only[];rw[List.take_of_length_le];rw[List.length_drop,<-hXs,<-Lib.size_eq];omega
     have hnum:=λw=>ref2_number (X.extract 1 X.size) w (by rw[hXe];exact g1) (by rw[Lib.size_eq,hXe];exact g2)
     rw[hXe]at hnum
     clear hXe hXs g1 g2 g3
     obtain⟨N,hNn⟩:∃N,numOf (s.drop 1)=N:=⟨_,rfl⟩
     rw[hNn]at hnum HO
     clear hNn
     go_enter Tryz.func187,Tryz.ntmps187
     go_wp2_with (go_at_call 203;refine(hnum _).mono ?_;rintro e w1 ⟨rfl,rfl⟩)
     try simp only[Exit.inBlock,Exit.then]
     refine bodyPost_ret (results_ct rfl _ _ w.heap.size 44 _ (0,0) _ rfl (heap_alloc_new _ _) Tryz.underlying44 rfl (by kernel_rfl)) rfl ?_
     exact rpost_some ts i w _ _ _ 2 ⟨#[]⟩ (N:Nat) none 0 0 (.mt N) (i+1) ((Below.refl _ w).alloc (Nat.le_refl _) _) (by omega) (by rw[HN.out];omega) HO.out rfl ⟨none,0,rfl,by rw[Args];trivial⟩
    ·have d5:=neq_int m 5 5 rfl k5
     rw[if_neg k5]at hO
     by_cases k40:s=[40]
     ·have dX:(X.toList==[40])=true:=by rw[Lib.toList_data,<-HX.out,k40];rfl
      have HO:=hidE (hO.trans (if_pos k40))
      clear hO k40
      go_enter Tryz.func187,Tryz.ntmps187
      go_wp2_with fail
      refine(HIH.out _ (i+1) (HV.out.alloc _) (by omega) (by omega)).mono ?_
      rintro e w1 ⟨b1,K1,X1,Z1,A1,m1,c1,hcases⟩
      have hblk:Blk w1 w.heap.size 44 #[.int .i64 0,.string ⟨#[]⟩,.int .i64 0,.slice none 0 0]:=Blk.below (heap_alloc_new _ _) b1 (by simp)
      obtain⟨a0,a1,a2,a3,r0,r1,r2,r3,hlw⟩:=blk_facts4 hblk
      have HBLK:=hidE hblk
      clear hblk
      rcases hcases with⟨ho,rfl⟩|⟨t,k,hk,hkn,ho,rfl,hr⟩
      ·have HO:=hidE (HO.out.trans (by rw[ho]))
       have B1:=hidE b1
       clear b1 ho
       go_wp2_with fail
       try simp only[Exit.inBlock,Exit.then]
       refine bodyPost_ret (results_ct rfl _ _ w.heap.size 44 _ (0,0) _ rfl ((blk_set4 _ _ _ _ HBLK.out).alloc _) Tryz.underlying44 rfl (by kernel_rfl)) rfl ?_
       exact rpost_none ts i w _ _ _ 0 ⟨#[]⟩ 0 none 0 0 ((below_set4 (below_pre B1.out (Nat.le_refl _)) _ _ _ _ (Nat.le_refl _)).alloc (by simp;omega) _) HO.out rfl
      ·obtain⟨q,hq⟩:∃q,isAt ts k 6 [41]=q:=⟨_,rfl⟩
       have HO:Hid (O=(eat (isSign · [41]) (ts.drop k)).map λr3=>(t,r3)):=hidE (HO.out.trans (by rw[ho]))
       have B1:=hidE b1
       have HQ:=hidE hq
       have hIs:∀w,RdT w (.slice (some ⟨g,0,none⟩) n c) ts->Calls Tryz.prog 85 #[.slice (some ⟨g,0,none⟩) n c,.int .i64 k,.int .i64 6,.string ⟨#[41]⟩] w λe w'=>e=.returned (.bool q)/\w=w':=by
        intro w hv
        rw[<-hq]
        exact ref2_is _ ts k 6 ⟨#[41]⟩ 6 rfl w hv
       clear hq
       have HR:=hidE hr
       clear b1 ho hr
       cases q
       ·go_wp2_with (go_at_call 85;refine(hIs _ (((HV.out.alloc _).below B1.out).alloc _)).mono ?_;rintro e w2 ⟨rfl,rfl⟩)
        try simp only[Exit.inBlock,Exit.then]
        refine bodyPost_ret (results_ct rfl _ _ w.heap.size 44 _ (0,0) _ rfl ((blk_set4 _ _ _ _ HBLK.out).alloc _) Tryz.underlying44 rfl (by kernel_rfl)) rfl ?_
        exact rpost_none ts i w _ _ _ 0 ⟨#[]⟩ 0 none 0 0 ((below_set4 (below_pre B1.out (Nat.le_refl _)) _ _ _ _ (Nat.le_refl _)).alloc (by simp;omega) _) (HO.out.trans (by rw[eat_sign _ _ _ (by simp),HQ.out,if_neg (by simp)];rfl)) rfl
       ·have hkl:=isAt_lt _ _ _ _ HQ.out
        have hk5:k<100000:=by rw[HN.out]at hkl;omega
        go_wp2_with (go_at_call 85;refine(hIs _ (((HV.out.alloc _).below B1.out).alloc _)).mono ?_;rintro e w2 ⟨rfl,rfl⟩)
        try simp only[Exit.inBlock,Exit.then]
        refine bodyPost_ret (results_ct rfl _ _ w.heap.size 44 _ (0,0) _ rfl ((blk_set4 _ _ _ _ HBLK.out).alloc _) Tryz.underlying44 rfl (by kernel_rfl)) rfl ?_
        refine rpost_some ts i w _ _ _ K1 X1 Z1 A1 m1 c1 t (k+1) ((below_set4 (below_pre B1.out (Nat.le_refl _)) _ _ _ _ (Nat.le_refl _)).alloc (by simp;omega) _) (by omega) (by omega) (HO.out.trans (by rw[eat_sign _ _ _ (by simp),HQ.out,if_pos rfl];rfl)) rfl ?_
        exact HR.out.keep (λg hg=>by simp at hg ⊢;omega) (λg hg=>by
         simp at hg
         rw[Below.heap_alloc _ _ _ (by simp;omega),Below.heap_setCell _ _ _ _ (by simp;omega),Below.heap_setCell _ _ _ _ (by simp;omega),Below.heap_setCell _ _ _ _ (by simp;omega),Below.heap_setCell _ _ _ _ (by simp;omega)])
     ·have dX:(X.toList==[40])=false:=by rw[Lib.toList_data,<-HX.out];exact beq_eq_false_iff_ne.2 k40
      have HO:=hidE (hO.trans (if_neg k40))
      clear hO k40
      go_enter Tryz.func187,Tryz.ntmps187
      go_wp2_with fail
      try simp only[Exit.inBlock,Exit.then]
      refine bodyPost_ret (results_ct rfl _ _ w.heap.size 44 _ (0,0) _ rfl (heap_alloc_new _ _) Tryz.underlying44 rfl (by kernel_rfl)) rfl ?_
      exact rpost_none ts i w _ _ _ 0 ⟨#[]⟩ 0 none 0 0 ((Below.refl _ w).alloc (Nat.le_refl _) _) HO.out rfl
 ·have HO:atom (f+1) (ts.drop i)=none:=by rw[List.drop_eq_nil_of_le (by omega),atom]
  obtain⟨A,c,rfl,_⟩:=hv
  obtain⟨n,hN⟩:∃n,ts.length=n:=⟨_,rfl⟩
  rw[hN]at hlt hn hi ⊢
  rw[HO]
  clear hN IH HO hf hg
  go_enter Tryz.func187,Tryz.ntmps187
  go_wp2_with fail
  try simp only[Exit.inBlock,Exit.then]
  refine bodyPost_ret (results_ct rfl _ _ w.heap.size 44 _ (0,0) _ rfl (heap_alloc_new _ _) Tryz.underlying44 rfl (by kernel_rfl)) rfl ?_
  exact rpost_none ts i w _ _ _ 0 ⟨#[]⟩ 0 none 0 0 ((Below.refl _ w).alloc (Nat.le_refl _) _) rfl rfl
end Go.Proofs.YtknkclefoiohpaaGreatDoor

namespace Go.Proofs.YtknkclefoiohpaaGreatDoor
open Go.RowKit Lx Tx
set_option maxRecDepth 100000
theorem ref2_info:(Tryz.prog.info? 44).map (λi=>(i.zero,i.size,i.bytes))=some (some (.agg #[.int .i64 0,.string ⟨#[]⟩,.int .i64 0,.slice none 0 0]),4,56):=by kernel_rfl
def HeadA(ts:List Tok)(f n i:Nat)(X:ByteArray)(w:World)(g:Nat)(vk:Value)(wr:World):Prop :=
 ∃k f' done v',g=n-k/\vk=.int .i64 k/\i<k/\k<=n/\4*(n-k)+3<=f'/\f'<=f/\Hid (args f (ts.drop (i+1))=(args f' (ts.drop k)).map λy=>(done++y.1,y.2))/\done.length<=k /\
  Built (λ_=>False) (w.heap.size+2) 44 wr done v'/\Blk wr (w.heap.size+1) 44 #[.int .i64 3,.string X,.int .i64 0,v'] /\
  Blk wr w.heap.size 44 #[.int .i64 0,.string ⟨#[]⟩,.int .i64 0,.slice none 0 0]/\Below w.heap.size w wr
set_option maxHeartbeats 1600000 in
theorem ref2_app(f:Nat)(ts:List Tok)(v:Value)(w:World)(i:Nat)(hv:RdT w v ts)(hn:ts.length<=100000)(hi:i<=ts.length)(hf:4*(ts.length-i)+3<=f+1)
  (IH:∀f1,f1<=f->∀(w:World)(i:Nat),RdT w v ts->i<=ts.length->4*(ts.length-i)+2<=f1->Calls Tryz.prog 187 #[v,.int .i64 i] w (RPost ts i w (atom f1 (ts.drop i)))) :
  Calls Tryz.prog 167 #[v,.int .i64 i] w (RPost ts i w (app (f+1) (ts.drop i))):=by
 obtain⟨q,hq⟩:∃q,isAt ts i 2 []=q:=⟨_,rfl⟩
 have HQ:=hidE hq
 have hIs:∀w,RdT w v ts->Calls Tryz.prog 85 #[v,.int .i64 i,.int .i64 2,.string ⟨#[]⟩] w λe w'=>e=.returned (.bool q)/\w=w':=by
  intro w hv
  rw[<-hq]
  exact ref2_is _ ts i 2 ⟨#[]⟩ 2 rfl w hv
 clear hq
 have HV:=hidE hv
 have HIH:=hidE IH
 clear IH
 cases q
 ·have HO:Hid (app (f+1) (ts.drop i)=atom f (ts.drop i)):=by
   refine hidE ?_
   by_cases hlt:i<ts.length
   ·have h2:=HQ.out
    rw[isAt_at ts i 2 [] hlt]at h2
    simp at h2
    rw[drop_tok ts i hlt,app]
    simp only[if_neg h2]
   ·rw[List.drop_eq_nil_of_le (by omega),app]
    obtain⟨f',rfl⟩:∃f',f=f'+1:=⟨f-1,by omega⟩
    rw[atom]
  rw[HO.out]
  clear HO hv
  go_enter Tryz.func167,Tryz.ntmps167
  go_wp2_with (go_at_call 85;refine(hIs _ (HV.out.alloc _)).mono ?_;rintro e w2 ⟨rfl,rfl⟩)
  go_at_call 187
  refine(HIH.out f (Nat.le_refl _) _ i (HV.out.alloc _) hi (by omega)).mono ?_
  rintro e w1 ⟨b1,K1,X1,Z1,A1,m1,c1,hcases⟩
  have hblk:Blk w1 w.heap.size 44 #[.int .i64 0,.string ⟨#[]⟩,.int .i64 0,.slice none 0 0]:=Blk.below (heap_alloc_new _ _) b1 (by simp)
  obtain⟨a0,a1,a2,a3,r0,r1,r2,r3,hlw⟩:=blk_facts4 hblk
  have HBLK:=hidE hblk
  have B1:=hidE b1
  clear hblk b1
  rcases hcases with⟨ho,rfl⟩|⟨t,k,hk,hkn,ho,rfl,hr⟩
  ·have HO:=hidE ho
   clear ho
   go_wp2_with fail
   try simp only[Exit.inBlock,Exit.then]
   refine bodyPost_ret (results_ct rfl _ _ w.heap.size 44 _ (0,0) _ rfl (blk_set4 _ _ _ _ HBLK.out) Tryz.underlying44 rfl (by kernel_rfl)) rfl ?_
   exact rpost_none ts i w _ _ _ K1 X1 Z1 A1 m1 c1 (below_set4 (below_pre B1.out (Nat.le_refl _)) _ _ _ _ (Nat.le_refl _)) HO.out rfl
  ·have HO:=hidE ho
   have HR:=hidE hr
   clear ho hr
   go_wp2_with fail
   try simp only[Exit.inBlock,Exit.then]
   refine bodyPost_ret (results_ct rfl _ _ w.heap.size 44 _ (0,0) _ rfl (blk_set4 _ _ _ _ HBLK.out) Tryz.underlying44 rfl (by kernel_rfl)) rfl ?_
   refine rpost_some ts i w _ _ _ K1 X1 Z1 A1 m1 c1 t k (below_set4 (below_pre B1.out (Nat.le_refl _)) _ _ _ _ (Nat.le_refl _)) hk hkn HO.out rfl ?_
   exact HR.out.keep (λg hg=>by simp at hg ⊢;omega) (λg hg=>heap_set4 _ _ _ _ _ _ _ (by simp at hg;omega))
 ·have hlt:=isAt_lt _ _ _ _ HQ.out
  have hk2:=HQ.out
  rw[isAt_at ts i 2 [] hlt]at hk2
  simp at hk2
  obtain⟨g,c,rfl,h0,h1,_⟩:=hv.at_ i hlt
  have hgl:=hv.lt (by omega)
  obtain⟨X,hX⟩:∃X:ByteArray,⟨ts[i].text.toArray⟩=X:=⟨_,rfl⟩
  obtain⟨n,hN⟩:∃n,ts.length=n:=⟨_,rfl⟩
  have HO:Hid (app (f+1) (ts.drop i)=(args f (ts.drop (i+1))).map λx=>(.con X.data.toList x.1,x.2)):=by
   refine hidE ?_
   rw[drop_tok ts i hlt,app,<-hX]
   simp only[if_pos hk2]
  have HN:=hidE hN
  rw[hX]at h1
  rw[HO.out]
  clear hX h0 hv HQ hk2
  have hlt':i<n:=by omega
  obtain⟨i0,hi0,hz0,hz1,hz2⟩:=info_parts ref2_info
  rw[hN]at hn hi hf HIH HV hIs ⊢
  clear hN HO
  go_enter Tryz.func167,Tryz.ntmps167
  go_wp2_with (go_at_call 85;refine(hIs _ (HV.out.alloc _)).mono ?_;rintro e w2 ⟨rfl,rfl⟩)
  go_loopg [8] (n-(i+1)) (λgg vk wr=>HeadA ts f n i X w gg vk wr)
  case atStart =>
   refine⟨i+1,f,[],.slice none 0 0,rfl,by go_num,by omega,by omega,by omega,Nat.le_refl _,hidE (by simp),by simp,Built.nil _ _ _ _,?_,?_,((Below.refl _ w).alloc (Nat.le_refl _) _).alloc (by simp) _⟩
   ·exact heap_alloc2_new _ _ _
   ·exact heap_alloc2_old _ _ _
  case round =>
   obtain⟨k,f',done,v',rfl,rfl,hik,hkn,hf1,hf2,hargs,hdl,hbuilt,hb1,hb0,hbel⟩:=hrel
   obtain⟨f1,rfl⟩:∃f1,f'=f1+1:=⟨f'-1,by omega⟩
   obtain⟨vs,hown,hrow⟩:=hbuilt
   obtain⟨A0,c0,rfl⟩:=own_shape hown
   have hvt:=HV.out.below hbel
   have HVT:=hidE hvt
   have HOWN:=hidE hown
   have HROW:=hidE hrow
   have HB1:=hidE hb1
   have HB0:=hidE hb0
   have HBEL:=hidE hbel
   have hown2:=hown.lt
   have HLT:=hidE hown2
   obtain⟨a0,a1,a2,a3,r0,r1,r2,r3,hlw⟩:=blk_facts4 hb0
   obtain⟨p0,p1,p2,p3,s0,s1,s2,s3,hlx⟩:=blk_facts4 hb1
   by_cases hkl:k<n
   ·have hkt:k<ts.length:=by rw[HN.out];exact hkl
    obtain⟨e0,e1⟩:=hvt.cells k hkt
    obtain⟨Y,hY⟩:∃Y:ByteArray,⟨ts[k].text.toArray⟩=Y:=⟨_,rfl⟩
    rw[hY]at e1
    by_cases hat:atomic ts[k]=true
    ·have hw:=atomic_ways _ Y hY hat
     have HAT:=hidE hat
     obtain⟨m,hm⟩:∃m,ts[k].kind=m:=⟨_,rfl⟩
     rw[hm]at e0 hw
     have hglw:g<wr.heap.size:=by have:=hbel.size;omega
     clear hY hat hm hvt hown hrow hb1 hb0 hbel hown2
     rcases hw with d1|⟨d1,d5⟩|⟨d1,d5,d2⟩|⟨d1,d5,d2,dX⟩
     ·go_wp2_with fail
      refine(HIH.out f1 (by omega) wr k HVT.out (by omega) (by omega)).mono ?_
      rintro e w1 ⟨b1,K1,X1,Z1,A1,m1,c1,hcases⟩
      have hb0:=HB0.out.below b1 hlw
      have hb1:=HB1.out.below b1 hlx
      obtain⟨a0,a1,a2,a3,r0,r1,r2,r3,hlw1⟩:=blk_facts4 hb0
      obtain⟨p0,p1,p2,p3,s0,s1,s2,s3,hlx1⟩:=blk_facts4 hb1
      have HC0:=hidE hb0
      have HC1:=hidE hb1
      have BB1:=hidE b1
      clear b1 hb0 hb1
      rcases hcases with⟨ho,rfl⟩|⟨t,k2,hk,hk2n,ho,rfl,hr⟩
      ·have HO:Hid (args f (ts.drop (i+1))=none):=hidE (hargs.out.trans (by rw[args_none f1 ts k hkt HAT.out ho];rfl))
       clear ho
       go_wp2_with fail
       try simp only[Exit.inBlock,Exit.then]
       refine bodyPost_ret (results_ct rfl _ _ w.heap.size 44 _ (0,0) _ rfl ((blk_set4 _ _ _ _ HC0.out).alloc _) Tryz.underlying44 rfl (by kernel_rfl)) rfl ?_
       exact rpost_none ts i w _ _ _ 0 ⟨#[]⟩ 0 none 0 0 ((below_set4 (bnext HBEL.out BB1.out (Nat.le_refl _)) _ _ _ _ (Nat.le_refl _)).alloc (by simp;omega) _) (by rw[HO.out];rfl) rfl
      ·have HO:=hidE (app_step (hargs.out.trans (by rw[args_some f1 ts k hkt HAT.out t _ ho])))
       have HR:=hidE hr
       have hown2:=hidE (((own_below HOWN.out BB1.out).alloc (.cells #[.int .i64 K1,.string X1,.int .i64 Z1,.slice A1 m1 c1] 44)).alloc (.cells #[.int .i64 K1,.string X1,.int .i64 Z1,.slice A1 m1 c1] 44))
       clear ho hr
       go_wp2_with (at_builtin;refine wpList_append_own_at _ rfl (.tmp 75) (.tmp 77) 42 rfl (w.heap.size+2) 44 i0 _ 4 56 Tryz.underlying42 hi0 hz0 hz1 hz2 rfl (by decide) _ done.length vs rfl hown2.out ⟨w1.heap.size+1,0,none⟩ 1 1 [.int .i64 K1,.string X1,.int .i64 Z1,.slice A1 m1 c1] rfl rfl (new_cells' _ _ _ _ (by simp)) (by intro u hu;simp at hu;rcases hu with rfl|rfl|rfl|rfl <;> rfl) (by unfold maxLen;omega) (by omega) (by have:=BB1.out.size;have:=HBEL.out.size;simp;omega) ?_;intro v2 w3 hown3 hgrow _ hat3;obtain⟨A2,c2,rfl⟩:=own_shape hown3;have HO3:=hidE hown3;have HG3:=hidE hgrow;have HT3:=hidE hat3;clear hown3 hgrow hat3;have hc1:=((HC1.out.alloc _).alloc _).grown HG3.out (λe=>by have:=HLT.out _ e.symm;omega);have hc0:=((HC0.out.alloc _).alloc _).grown HG3.out (λe=>by have:=HLT.out _ e.symm;omega);obtain⟨y0,y1,y2,y3,z0,z1,z2,z3,hly⟩:=blk_facts4 hc1;have HD1:=hidE hc1;have HD0:=hidE hc0;clear hc1 hc0)
       go_roundg (n-k2)
       case measure=>omega
       case rel =>
        have hb:=Built.next (w:=wr) (w1:=w1) (λ_ h=>h.elim) (by omega) HOWN.out HROW.out BB1.out (HR.out.keep (λ_ h=>.inr h) (λ_ _=>rfl)) (((Below.refl _ w1).alloc (Nat.le_refl _) _).alloc (by simp) _) HO3.out HG3.out HT3.out
        have hsz:=HBEL.out.size
        have hsz1:=BB1.out.size
        refine⟨k2,f1,done++[t],_,rfl,rfl,by omega,by rw[HN.out]at hk2n;exact hk2n,by omega,by omega,HO,by simp;omega,hb.setCell _ (by simp) (λh=>h),heap_setCell_same _ _ 3 _ _ _ HD1.out,HD0.out.far (by simp) _,?_⟩
        exact(((bnext HBEL.out BB1.out (Nat.le_refl _)).alloc (by omega) _).alloc (by simp;omega) _ |>.grown HG3.out (by simp;omega) (λj hj=>by have:=HLT.out _ hj;omega)).setCell (by simp) _
     ·go_wp2_with fail
      refine(HIH.out f1 (by omega) wr k HVT.out (by omega) (by omega)).mono ?_
      rintro e w1 ⟨b1,K1,X1,Z1,A1,m1,c1,hcases⟩
      have hb0:=HB0.out.below b1 hlw
      have hb1:=HB1.out.below b1 hlx
      obtain⟨a0,a1,a2,a3,r0,r1,r2,r3,hlw1⟩:=blk_facts4 hb0
      obtain⟨p0,p1,p2,p3,s0,s1,s2,s3,hlx1⟩:=blk_facts4 hb1
      have HC0:=hidE hb0
      have HC1:=hidE hb1
      have BB1:=hidE b1
      clear b1 hb0 hb1
      rcases hcases with⟨ho,rfl⟩|⟨t,k2,hk,hk2n,ho,rfl,hr⟩
      ·have HO:Hid (args f (ts.drop (i+1))=none):=hidE (hargs.out.trans (by rw[args_none f1 ts k hkt HAT.out ho];rfl))
       clear ho
       go_wp2_with fail
       try simp only[Exit.inBlock,Exit.then]
       refine bodyPost_ret (results_ct rfl _ _ w.heap.size 44 _ (0,0) _ rfl ((blk_set4 _ _ _ _ HC0.out).alloc _) Tryz.underlying44 rfl (by kernel_rfl)) rfl ?_
       exact rpost_none ts i w _ _ _ 0 ⟨#[]⟩ 0 none 0 0 ((below_set4 (bnext HBEL.out BB1.out (Nat.le_refl _)) _ _ _ _ (Nat.le_refl _)).alloc (by simp;omega) _) (by rw[HO.out];rfl) rfl
      ·have HO:=hidE (app_step (hargs.out.trans (by rw[args_some f1 ts k hkt HAT.out t _ ho])))
       have HR:=hidE hr
       have hown2:=hidE (((own_below HOWN.out BB1.out).alloc (.cells #[.int .i64 K1,.string X1,.int .i64 Z1,.slice A1 m1 c1] 44)).alloc (.cells #[.int .i64 K1,.string X1,.int .i64 Z1,.slice A1 m1 c1] 44))
       clear ho hr
       go_wp2_with (at_builtin;refine wpList_append_own_at _ rfl (.tmp 75) (.tmp 77) 42 rfl (w.heap.size+2) 44 i0 _ 4 56 Tryz.underlying42 hi0 hz0 hz1 hz2 rfl (by decide) _ done.length vs rfl hown2.out ⟨w1.heap.size+1,0,none⟩ 1 1 [.int .i64 K1,.string X1,.int .i64 Z1,.slice A1 m1 c1] rfl rfl (new_cells' _ _ _ _ (by simp)) (by intro u hu;simp at hu;rcases hu with rfl|rfl|rfl|rfl <;> rfl) (by unfold maxLen;omega) (by omega) (by have:=BB1.out.size;have:=HBEL.out.size;simp;omega) ?_;intro v2 w3 hown3 hgrow _ hat3;obtain⟨A2,c2,rfl⟩:=own_shape hown3;have HO3:=hidE hown3;have HG3:=hidE hgrow;have HT3:=hidE hat3;clear hown3 hgrow hat3;have hc1:=((HC1.out.alloc _).alloc _).grown HG3.out (λe=>by have:=HLT.out _ e.symm;omega);have hc0:=((HC0.out.alloc _).alloc _).grown HG3.out (λe=>by have:=HLT.out _ e.symm;omega);obtain⟨y0,y1,y2,y3,z0,z1,z2,z3,hly⟩:=blk_facts4 hc1;have HD1:=hidE hc1;have HD0:=hidE hc0;clear hc1 hc0)
       go_roundg (n-k2)
       case measure=>omega
       case rel =>
        have hb:=Built.next (w:=wr) (w1:=w1) (λ_ h=>h.elim) (by omega) HOWN.out HROW.out BB1.out (HR.out.keep (λ_ h=>.inr h) (λ_ _=>rfl)) (((Below.refl _ w1).alloc (Nat.le_refl _) _).alloc (by simp) _) HO3.out HG3.out HT3.out
        have hsz:=HBEL.out.size
        have hsz1:=BB1.out.size
        refine⟨k2,f1,done++[t],_,rfl,rfl,by omega,by rw[HN.out]at hk2n;exact hk2n,by omega,by omega,HO,by simp;omega,hb.setCell _ (by simp) (λh=>h),heap_setCell_same _ _ 3 _ _ _ HD1.out,HD0.out.far (by simp) _,?_⟩
        exact(((bnext HBEL.out BB1.out (Nat.le_refl _)).alloc (by omega) _).alloc (by simp;omega) _ |>.grown HG3.out (by simp;omega) (λj hj=>by have:=HLT.out _ hj;omega)).setCell (by simp) _
     ·go_wp2_with fail
      refine(HIH.out f1 (by omega) wr k HVT.out (by omega) (by omega)).mono ?_
      rintro e w1 ⟨b1,K1,X1,Z1,A1,m1,c1,hcases⟩
      have hb0:=HB0.out.below b1 hlw
      have hb1:=HB1.out.below b1 hlx
      obtain⟨a0,a1,a2,a3,r0,r1,r2,r3,hlw1⟩:=blk_facts4 hb0
      obtain⟨p0,p1,p2,p3,s0,s1,s2,s3,hlx1⟩:=blk_facts4 hb1
      have HC0:=hidE hb0
      have HC1:=hidE hb1
      have BB1:=hidE b1
      clear b1 hb0 hb1
      rcases hcases with⟨ho,rfl⟩|⟨t,k2,hk,hk2n,ho,rfl,hr⟩
      ·have HO:Hid (args f (ts.drop (i+1))=none):=hidE (hargs.out.trans (by rw[args_none f1 ts k hkt HAT.out ho];rfl))
       clear ho
       go_wp2_with fail
       try simp only[Exit.inBlock,Exit.then]
       refine bodyPost_ret (results_ct rfl _ _ w.heap.size 44 _ (0,0) _ rfl ((blk_set4 _ _ _ _ HC0.out).alloc _) Tryz.underlying44 rfl (by kernel_rfl)) rfl ?_
       exact rpost_none ts i w _ _ _ 0 ⟨#[]⟩ 0 none 0 0 ((below_set4 (bnext HBEL.out BB1.out (Nat.le_refl _)) _ _ _ _ (Nat.le_refl _)).alloc (by simp;omega) _) (by rw[HO.out];rfl) rfl
      ·have HO:=hidE (app_step (hargs.out.trans (by rw[args_some f1 ts k hkt HAT.out t _ ho])))
       have HR:=hidE hr
       have hown2:=hidE (((own_below HOWN.out BB1.out).alloc (.cells #[.int .i64 K1,.string X1,.int .i64 Z1,.slice A1 m1 c1] 44)).alloc (.cells #[.int .i64 K1,.string X1,.int .i64 Z1,.slice A1 m1 c1] 44))
       clear ho hr
       go_wp2_with (at_builtin;refine wpList_append_own_at _ rfl (.tmp 75) (.tmp 77) 42 rfl (w.heap.size+2) 44 i0 _ 4 56 Tryz.underlying42 hi0 hz0 hz1 hz2 rfl (by decide) _ done.length vs rfl hown2.out ⟨w1.heap.size+1,0,none⟩ 1 1 [.int .i64 K1,.string X1,.int .i64 Z1,.slice A1 m1 c1] rfl rfl (new_cells' _ _ _ _ (by simp)) (by intro u hu;simp at hu;rcases hu with rfl|rfl|rfl|rfl <;> rfl) (by unfold maxLen;omega) (by omega) (by have:=BB1.out.size;have:=HBEL.out.size;simp;omega) ?_;intro v2 w3 hown3 hgrow _ hat3;obtain⟨A2,c2,rfl⟩:=own_shape hown3;have HO3:=hidE hown3;have HG3:=hidE hgrow;have HT3:=hidE hat3;clear hown3 hgrow hat3;have hc1:=((HC1.out.alloc _).alloc _).grown HG3.out (λe=>by have:=HLT.out _ e.symm;omega);have hc0:=((HC0.out.alloc _).alloc _).grown HG3.out (λe=>by have:=HLT.out _ e.symm;omega);obtain⟨y0,y1,y2,y3,z0,z1,z2,z3,hly⟩:=blk_facts4 hc1;have HD1:=hidE hc1;have HD0:=hidE hc0;clear hc1 hc0)
       go_roundg (n-k2)
       case measure=>omega
       case rel =>
        have hb:=Built.next (w:=wr) (w1:=w1) (λ_ h=>h.elim) (by omega) HOWN.out HROW.out BB1.out (HR.out.keep (λ_ h=>.inr h) (λ_ _=>rfl)) (((Below.refl _ w1).alloc (Nat.le_refl _) _).alloc (by simp) _) HO3.out HG3.out HT3.out
        have hsz:=HBEL.out.size
        have hsz1:=BB1.out.size
        refine⟨k2,f1,done++[t],_,rfl,rfl,by omega,by rw[HN.out]at hk2n;exact hk2n,by omega,by omega,HO,by simp;omega,hb.setCell _ (by simp) (λh=>h),heap_setCell_same _ _ 3 _ _ _ HD1.out,HD0.out.far (by simp) _,?_⟩
        exact(((bnext HBEL.out BB1.out (Nat.le_refl _)).alloc (by omega) _).alloc (by simp;omega) _ |>.grown HG3.out (by simp;omega) (λj hj=>by have:=HLT.out _ hj;omega)).setCell (by simp) _
     ·go_wp2_with fail
      refine(HIH.out f1 (by omega) wr k HVT.out (by omega) (by omega)).mono ?_
      rintro e w1 ⟨b1,K1,X1,Z1,A1,m1,c1,hcases⟩
      have hb0:=HB0.out.below b1 hlw
      have hb1:=HB1.out.below b1 hlx
      obtain⟨a0,a1,a2,a3,r0,r1,r2,r3,hlw1⟩:=blk_facts4 hb0
      obtain⟨p0,p1,p2,p3,s0,s1,s2,s3,hlx1⟩:=blk_facts4 hb1
      have HC0:=hidE hb0
      have HC1:=hidE hb1
      have BB1:=hidE b1
      clear b1 hb0 hb1
      rcases hcases with⟨ho,rfl⟩|⟨t,k2,hk,hk2n,ho,rfl,hr⟩
      ·have HO:Hid (args f (ts.drop (i+1))=none):=hidE (hargs.out.trans (by rw[args_none f1 ts k hkt HAT.out ho];rfl))
       clear ho
       go_wp2_with fail
       try simp only[Exit.inBlock,Exit.then]
       refine bodyPost_ret (results_ct rfl _ _ w.heap.size 44 _ (0,0) _ rfl ((blk_set4 _ _ _ _ HC0.out).alloc _) Tryz.underlying44 rfl (by kernel_rfl)) rfl ?_
       exact rpost_none ts i w _ _ _ 0 ⟨#[]⟩ 0 none 0 0 ((below_set4 (bnext HBEL.out BB1.out (Nat.le_refl _)) _ _ _ _ (Nat.le_refl _)).alloc (by simp;omega) _) (by rw[HO.out];rfl) rfl
      ·have HO:=hidE (app_step (hargs.out.trans (by rw[args_some f1 ts k hkt HAT.out t _ ho])))
       have HR:=hidE hr
       have hown2:=hidE (((own_below HOWN.out BB1.out).alloc (.cells #[.int .i64 K1,.string X1,.int .i64 Z1,.slice A1 m1 c1] 44)).alloc (.cells #[.int .i64 K1,.string X1,.int .i64 Z1,.slice A1 m1 c1] 44))
       clear ho hr
       go_wp2_with (at_builtin;refine wpList_append_own_at _ rfl (.tmp 75) (.tmp 77) 42 rfl (w.heap.size+2) 44 i0 _ 4 56 Tryz.underlying42 hi0 hz0 hz1 hz2 rfl (by decide) _ done.length vs rfl hown2.out ⟨w1.heap.size+1,0,none⟩ 1 1 [.int .i64 K1,.string X1,.int .i64 Z1,.slice A1 m1 c1] rfl rfl (new_cells' _ _ _ _ (by simp)) (by intro u hu;simp at hu;rcases hu with rfl|rfl|rfl|rfl <;> rfl) (by unfold maxLen;omega) (by omega) (by have:=BB1.out.size;have:=HBEL.out.size;simp;omega) ?_;intro v2 w3 hown3 hgrow _ hat3;obtain⟨A2,c2,rfl⟩:=own_shape hown3;have HO3:=hidE hown3;have HG3:=hidE hgrow;have HT3:=hidE hat3;clear hown3 hgrow hat3;have hc1:=((HC1.out.alloc _).alloc _).grown HG3.out (λe=>by have:=HLT.out _ e.symm;omega);have hc0:=((HC0.out.alloc _).alloc _).grown HG3.out (λe=>by have:=HLT.out _ e.symm;omega);obtain⟨y0,y1,y2,y3,z0,z1,z2,z3,hly⟩:=blk_facts4 hc1;have HD1:=hidE hc1;have HD0:=hidE hc0;clear hc1 hc0)
       go_roundg (n-k2)
       case measure=>omega
       case rel =>
        have hb:=Built.next (w:=wr) (w1:=w1) (λ_ h=>h.elim) (by omega) HOWN.out HROW.out BB1.out (HR.out.keep (λ_ h=>.inr h) (λ_ _=>rfl)) (((Below.refl _ w1).alloc (Nat.le_refl _) _).alloc (by simp) _) HO3.out HG3.out HT3.out
        have hsz:=HBEL.out.size
        have hsz1:=BB1.out.size
        refine⟨k2,f1,done++[t],_,rfl,rfl,by omega,by rw[HN.out]at hk2n;exact hk2n,by omega,by omega,HO,by simp;omega,hb.setCell _ (by simp) (λh=>h),heap_setCell_same _ _ 3 _ _ _ HD1.out,HD0.out.far (by simp) _,?_⟩
        exact(((bnext HBEL.out BB1.out (Nat.le_refl _)).alloc (by omega) _).alloc (by simp;omega) _ |>.grown HG3.out (by simp;omega) (λj hj=>by have:=HLT.out _ hj;omega)).setCell (by simp) _
    ·have hat:atomic ts[k]=false:=by simpa using hat
     have HO:Hid (args f (ts.drop (i+1))=some (done,ts.drop k)):=hidE (hargs.out.trans (by rw[args_stop f1 ts k (λ_=>hat)];simp))
     have HARG:=hidE (Built.args (t:=.con X.data.toList done) (show Built _ _ _ wr (kids (.con X.data.toList done)) _ from⟨vs,hown,hrow⟩)).2
     obtain⟨d1,d5,d2,dX⟩:=atomic_not _ Y hY hat
     obtain⟨m,hm⟩:∃m,ts[k].kind=m:=⟨_,rfl⟩
     rw[hm]at e0 d1 d2 d5
     have hglw:g<wr.heap.size:=by have:=hbel.size;omega
     clear hY hat hm hvt hown hrow hb1 hb0 hbel hown2
     go_wp2_with fail
     try simp only[Exit.inBlock,Exit.then]
     refine bodyPost_ret (results_ct rfl _ _ w.heap.size 44 _ (0,0) _ rfl (blk_set4 _ _ _ _ HB0.out) Tryz.underlying44 rfl (by kernel_rfl)) rfl ?_
     refine rpost_some ts i w _ _ _ 3 X 0 A0 done.length c0 (.con X.data.toList done) k (below_set4 HBEL.out _ _ _ _ (Nat.le_refl _)) hik (by rw[HN.out];exact hkn) (by rw[HO.out];rfl) rfl ?_
     refine⟨A0,c0,by rw[nmB,Lib.mk_data];rfl,Args.keep (λg hg=>?_) (λg hg=>heap_set4 _ _ _ _ _ _ _ ?_) _ _ HARG.out⟩
     ·rcases hg with hg|hg
      ·exact hg.elim
      ·simp;omega
     ·rcases hg with hg|hg
      ·exact hg.elim
      ·omega
   ·have HO:Hid (args f (ts.drop (i+1))=some (done,ts.drop k)):=hidE (hargs.out.trans (by rw[args_stop f1 ts k (λh=>absurd h (by rw[HN.out];omega))];simp))
    have HARG:=hidE (Built.args (t:=.con X.data.toList done) (show Built _ _ _ wr (kids (.con X.data.toList done)) _ from⟨vs,hown,hrow⟩)).2
    clear hvt hown hrow hb1 hb0 hbel hown2
    go_wp2_with fail
    try simp only[Exit.inBlock,Exit.then]
    refine bodyPost_ret (results_ct rfl _ _ w.heap.size 44 _ (0,0) _ rfl (blk_set4 _ _ _ _ HB0.out) Tryz.underlying44 rfl (by kernel_rfl)) rfl ?_
    refine rpost_some ts i w _ _ _ 3 X 0 A0 done.length c0 (.con X.data.toList done) k (below_set4 HBEL.out _ _ _ _ (Nat.le_refl _)) hik (by rw[HN.out];exact hkn) (by rw[HO.out];rfl) rfl ?_
    refine⟨A0,c0,by rw[nmB,Lib.mk_data];rfl,Args.keep (λg hg=>?_) (λg hg=>heap_set4 _ _ _ _ _ _ _ ?_) _ _ HARG.out⟩
    ·rcases hg with hg|hg
     ·exact hg.elim
     ·simp;omega
    ·rcases hg with hg|hg
     ·exact hg.elim
     ·omega
end Go.Proofs.YtknkclefoiohpaaGreatDoor

namespace Go.Proofs.YtknkclefoiohpaaGreatDoor
open Go.RowKit Lx Tx
set_option maxRecDepth 100000
set_option maxHeartbeats 1600000 in
theorem ref2_read_app(f:Nat)(ts:List Tok)(v:Value)(w:World)(i:Nat)(hv:RdT w v ts)(hn:ts.length<=100000)(hi:i<=ts.length)(hf:4*(ts.length-i)+4<=f+1)(hq:isAt ts i 3 wForall=false)
  (IHA:∀(w:World)(i:Nat),RdT w v ts->i<=ts.length->4*(ts.length-i)+3<=f->Calls Tryz.prog 167 #[v,.int .i64 i] w (RPost ts i w (app f (ts.drop i))))
  (IHR:∀(w:World)(i:Nat),RdT w v ts->i<=ts.length->4*(ts.length-i)+4<=f->Calls Tryz.prog 133 #[v,.int .i64 i] w (RPost ts i w (read f (ts.drop i)))) :
  Calls Tryz.prog 133 #[v,.int .i64 i] w (RPost ts i w (read (f+1) (ts.drop i))):=by
 have hIs:∀w,RdT w v ts->Calls Tryz.prog 85 #[v,.int .i64 i,.int .i64 3,.string ⟨#[102,111,114,97,108,108]⟩] w λe w'=>e=.returned (.bool false)/\w=w':=by
  intro w hv
  rw[<-hq]
  exact ref2_is _ ts i 3 ⟨#[102,111,114,97,108,108]⟩ 3 rfl w hv
 have HO:=hidE (read_arrow f ts i hq)
 obtain⟨O,hO⟩:∃O,read (f+1) (ts.drop i)=O:=⟨_,rfl⟩
 rw[hO]
 rw[hO]at HO
 have HV:=hidE hv
 have HA:=hidE IHA
 have HR:=hidE IHR
 clear hq hO hv IHA IHR
 go_enter Tryz.func133,Tryz.ntmps133
 go_wp2_with (go_at_call 85;refine(hIs _ (HV.out.alloc _)).mono ?_;rintro e w2 ⟨rfl,rfl⟩)
 go_at_call 167
 refine(HA.out _ i (HV.out.alloc _) hi (by omega)).mono ?_
 rintro e w1 ⟨b1,K1,X1,Z1,A1,m1,c1,hcases⟩
 have hblk:Blk w1 w.heap.size 44 #[.int .i64 0,.string ⟨#[]⟩,.int .i64 0,.slice none 0 0]:=Blk.below (heap_alloc_new _ _) b1 (by simp)
 have HBLK:=hidE hblk
 have B1:=hidE b1
 obtain⟨a0,a1,a2,a3,r0,r1,r2,r3,hlw⟩:=blk_facts4 hblk
 clear hblk b1
 rcases hcases with⟨ho,rfl⟩|⟨t,k,hk,hkn,ho,rfl,hr⟩
 ·have HO:Hid (O=none):=hidE (HO.out.trans (by rw[ho]))
  clear ho
  go_wp2_with fail
  try simp only[Exit.inBlock,Exit.then]
  refine bodyPost_ret (results_ct rfl _ _ w.heap.size 44 _ (0,0) _ rfl ((blk_set4 _ _ _ _ HBLK.out).alloc _) Tryz.underlying44 rfl (by kernel_rfl)) rfl ?_
  exact rpost_none ts i w _ _ _ 0 ⟨#[]⟩ 0 none 0 0 ((below_set4 (below_pre B1.out (Nat.le_refl _)) _ _ _ _ (Nat.le_refl _)).alloc (by simp;omega) _) HO.out rfl
 ·obtain⟨q,hq⟩:∃q,isAt ts k 6 [45,62]=q:=⟨_,rfl⟩
  have HQ:=hidE hq
  have hIs2:∀w,RdT w v ts->Calls Tryz.prog 85 #[v,.int .i64 k,.int .i64 6,.string ⟨#[45,62]⟩] w λe w'=>e=.returned (.bool q)/\w=w':=by
   intro w hv
   rw[<-hq]
   exact ref2_is _ ts k 6 ⟨#[45,62]⟩ 6 rfl w hv
  clear hq
  have HO:Hid (O=match eat (isSign · [45,62]) (ts.drop k) with|none=>some (t,ts.drop k)|some r2=>(read f r2).map λx=>(.fn t x.1,x.2)):=hidE (HO.out.trans (by rw[ho];rfl))
  have HT:=hidE hr
  clear ho hr
  cases q
  ·have HO:Hid (O=some (t,ts.drop k)):=hidE (HO.out.trans (by rw[eat_sign _ _ _ (by simp),HQ.out,if_neg (by simp)]))
   go_wp2_with (go_at_call 85;refine(hIs2 _ (((HV.out.alloc _).below B1.out).alloc _)).mono ?_;rintro e w2 ⟨rfl,rfl⟩)
   try simp only[Exit.inBlock,Exit.then]
   refine bodyPost_ret (results_ct rfl _ _ w.heap.size 44 _ (0,0) _ rfl ((blk_set4 _ _ _ _ HBLK.out).alloc _) Tryz.underlying44 rfl (by kernel_rfl)) rfl ?_
   refine rpost_some ts i w _ _ _ K1 X1 Z1 A1 m1 c1 t k ((below_set4 (below_pre B1.out (Nat.le_refl _)) _ _ _ _ (Nat.le_refl _)).alloc (by simp;omega) _) hk hkn HO.out rfl ?_
   exact HT.out.keep (λg hg=>by simp at hg ⊢;omega) (λg hg=>by simp at hg;rw[Below.heap_alloc _ _ _ (by simp;omega)];exact heap_set4 _ _ _ _ _ _ _ (by omega))
  ·have hkl:=isAt_lt _ _ _ _ HQ.out
   have HO:Hid (O=(read f (ts.drop (k+1))).map λx=>(.fn t x.1,x.2)):=hidE (HO.out.trans (by rw[eat_sign _ _ _ (by simp),HQ.out,if_pos rfl]))
   go_wp2_with (go_at_call 85;refine(hIs2 _ (((HV.out.alloc _).below B1.out).alloc _)).mono ?_;rintro e w2 ⟨rfl,rfl⟩)
   have hV1:=hidE ((((HV.out.alloc (.cells #[.int .i64 0,.string ⟨#[]⟩,.int .i64 0,.slice none 0 0] 44)).below B1.out).alloc (.cells #[.int .i64 K1,.string X1,.int .i64 Z1,.slice A1 m1 c1] 44)))
   refine(HR.out _ (k+1) hV1.out (by omega) (by omega)).mono ?_
   rintro e w3 ⟨b3,K2,X2,Z2,A2,m2,c2,hcases⟩
   have hb12:Blk w3 w1.heap.size 44 #[.int .i64 K1,.string X1,.int .i64 Z1,.slice A1 m1 c1]:=Blk.below (heap_alloc_new _ _) b3 (by simp)
   have hb0:Blk w3 w.heap.size 44 #[.int .i64 0,.string ⟨#[]⟩,.int .i64 0,.slice none 0 0]:=Blk.below (HBLK.out.alloc _) b3 (by simp;omega)
   obtain⟨a0,a1,a2,a3,r0,r1,r2,r3,hlw3⟩:=blk_facts4 hb0
   obtain⟨p0,p1,p2,p3,s0,s1,s2,s3,hlx3⟩:=blk_facts4 hb12
   have HB0:=hidE hb0
   have B3:=hidE b3
   have B13:=hidE (below_pre b3 (Nat.le_refl _))
   have hbel:=hidE (bnext (below_pre B1.out (Nat.le_refl _)) B13.out (Nat.le_refl _))
   clear hb12 hb0 b3
   rcases hcases with⟨ho,rfl⟩|⟨u,k2,hk2,hkn2,ho,rfl,hr⟩
   ·have HO:Hid (O=none):=hidE (HO.out.trans (by rw[ho];rfl))
    clear ho
    go_wp2_with fail
    try simp only[Exit.inBlock,Exit.then]
    refine bodyPost_ret (results_ct rfl _ _ w.heap.size 44 _ (0,0) _ rfl (((blk_set4 _ _ _ _ HB0.out).alloc _).alloc _) Tryz.underlying44 rfl (by kernel_rfl)) rfl ?_
    exact rpost_none ts i w _ _ _ 4 ⟨#[]⟩ 0 _ 2 2 (((below_set4 hbel.out _ _ _ _ (Nat.le_refl _)).alloc (by simp;omega) _).alloc (by simp;omega) _) HO.out rfl
   ·have HO:Hid (O=some (.fn t u,ts.drop k2)):=hidE (HO.out.trans (by rw[ho];rfl))
    have HU:=hidE hr
    clear ho hr
    go_wp2_with fail
    try simp only[Exit.inBlock,Exit.then]
    refine bodyPost_ret (results_ct rfl _ _ w.heap.size 44 _ (0,0) _ rfl (((blk_set4 _ _ _ _ HB0.out).alloc _).alloc _) Tryz.underlying44 rfl (by kernel_rfl)) rfl ?_
    refine rpost_some ts i w _ _ _ 4 ⟨#[]⟩ 0 (some ⟨w3.heap.size+1,0,none⟩) 2 2 (.fn t u) k2 (((below_set4 hbel.out _ _ _ _ (Nat.le_refl _)).alloc (by simp;omega) _).alloc (by simp;omega) _) (by omega) hkn2 HO.out rfl ?_
    have s3:=B3.out.size
    simp at s3
    refine fn_cells (K1:=K1) (X1:=X1) (Z1:=Z1) (A1:=A1) (m1:=m1) (c1:=c1) (K2:=K2) (X2:=X2) (Z2:=Z2) (A2:=A2) (m2:=m2) (c2:=c2) ?_ ?_ (by simp;omega) ?_
    ·exact HT.out.keep (λg hg=>by simp at hg ⊢;omega) (λg hg=>by
      simp at hg
      rw[Below.heap_alloc _ _ _ (by simp;omega),Below.heap_alloc _ _ _ (by simp;omega),heap_set4 _ _ _ _ _ _ _ (by omega)]
      exact B13.out.block g hg.2)
    ·exact HU.out.keep (λg hg=>by simp at hg ⊢;omega) (λg hg=>by
      simp at hg
      rw[Below.heap_alloc _ _ _ (by simp;omega),Below.heap_alloc _ _ _ (by simp;omega),heap_set4 _ _ _ _ _ _ _ (by omega)])
    ·intro j x hx
     have:=new_cells' ((((((w3.setCell ⟨w.heap.size,0,none⟩ (.int .i64 4)).setCell ⟨w.heap.size,1,none⟩ (.string ⟨#[]⟩)).setCell ⟨w.heap.size,2,none⟩ (.int .i64 0)).setCell ⟨w.heap.size,3,none⟩ (.slice (some ⟨w3.heap.size+1,0,none⟩) 2 2))).alloc (.cells #[.int .i64 K2,.string X2,.int .i64 Z2,.slice A2 m2 c2] 44)) #[.int .i64 K1,.string X1,.int .i64 Z1,.slice A1 m1 c1,.int .i64 K2,.string X2,.int .i64 Z2,.slice A2 m2 c2] 44 (w3.heap.size+1) (by simp) j x hx
     rw[add_zero_addr]at this
     exact this
end Go.Proofs.YtknkclefoiohpaaGreatDoor

namespace Go.Proofs.YtknkclefoiohpaaGreatDoor
open Go.RowKit Lx Tx
set_option maxRecDepth 100000
def PrintIH(n:Nat):Prop:=∀(t:Ty)(S:Nat->Prop)(v:Value)(w:World),t.size<=n->Nm t->t.print.length<=10 ^ 12->RdV S w t v->(∀g,S g->g<w.heap.size) ->
  Calls Tryz.prog 39 #[v] w λe w'=>e=.returned (.string ⟨t.print.toArray⟩)/\Below w.heap.size w w'
theorem ref2_print_var(x:List UInt8)(A:Option Addr)(c m:Nat)(w:World) :
  Calls Tryz.prog 39 #[.agg #[.int .i64 1,.string ⟨x.toArray⟩,.int .i64 0,.slice A m c]] w λe w'=>e=.returned (.string ⟨x.toArray⟩)/\Below w.heap.size w w':=by
 obtain⟨X,hX⟩:∃X:ByteArray,⟨x.toArray⟩=X:=⟨_,rfl⟩
 rw[hX]
 clear hX
 go_enter Tryz.func39,Tryz.ntmps39
 go_wp2_with fail
 go_ret
 exact⟨rfl,(Below.refl _ _).alloc (Nat.le_refl _) _⟩
theorem ref2_print_mt(k:Nat)(hk:k<=999999)(X:ByteArray)(A:Option Addr)(c m:Nat)(w:World) :
  Calls Tryz.prog 39 #[.agg #[.int .i64 2,.string X,.int .i64 k,.slice A m c]] w λe w'=>e=.returned (.string ⟨(63::dec k).toArray⟩)/\Below w.heap.size w w':=by
 have hd:=λw=>ref2_dec k w (by omega)
 have hl:(⟨(dec k).toArray⟩:ByteArray).size<=20:=decF_len 20 20 k (by omega) (by omega)
 have hq:=hidE (app_q (dec k))
 obtain⟨D,hD⟩:∃D:ByteArray,⟨(dec k).toArray⟩=D:=⟨_,rfl⟩
 rw[hD]at hd hl hq
 clear hD
 go_enter Tryz.func39,Tryz.ntmps39
 go_wp2_with (go_at_call 91;refine(hd _).mono ?_;rintro e w1 ⟨rfl,b1⟩)
 go_ret
 exact⟨ret_string hq.out,below_pre b1 (Nat.le_refl _)⟩
set_option maxRecDepth 2000 in
set_option maxHeartbeats 1600000 in
theorem ref2_print_con(n:Nat)(IH:PrintIH n)(h6:n<=1000000)(c:List UInt8)(l:List Ty)(S:Nat->Prop)(w:World)(A:Option Addr)(cc m:Nat)(hn:(Ty.con c l).size<=n+1)(hnm:Nm (.con c l))(hlen:(Ty.con c l).print.length<=10 ^ 12)
  (hm:(kids (.con c l)).length=m)(ha:Args S w (.con c l) A)(hS:∀g,S g->g<w.heap.size) :
  Calls Tryz.prog 39 #[.agg #[.int .i64 3,.string ⟨c.toArray⟩,.int .i64 0,.slice A m cc]] w λe w'=>e=.returned (.string ⟨(Ty.con c l).print.toArray⟩)/\Below w.heap.size w w':=by
 have hp:(Ty.con c l).print=c++printL l:=by rw[Ty.print]
 rw[hp]at hlen ⊢
 obtain⟨R,hR⟩:∃R:ByteArray,⟨(c++printL l).toArray⟩=R:=⟨_,rfl⟩
 have hcl:(⟨c.toArray⟩:ByteArray).size<=10 ^ 12:=by rw[mk_size];simp at hlen;omega
 have hm6:m<=1000000:=by have:=kids_len (.con c l);omega
 obtain⟨C,hC⟩:∃C:ByteArray,⟨c.toArray⟩=C:=⟨_,rfl⟩
 have HR:=hidE hR
 have HC:=hidE hC
 have HIH:=hidE IH
 have HN:=hidE hn
 have HNM:=hidE hnm
 have HL:=hidE hlen
 have HM:=hidE hm
 have HA:=hidE ha
 have HS:=hidE hS
 rw[hR]
 rw[hC]at hcl ⊢
 clear hp hR hC IH hn hnm hlen hm ha hS
 go_enter Tryz.func39,Tryz.ntmps39
 go_wp2_with fail
 go_loopg [3,4] m (λgg vs vi wr=>∃(i:Nat) (X:ByteArray),gg=m-i/\vs=.string X/\vi=.int .i64 i/\i<=m/\Hid (X=⟨(c++printL (l.take i)).toArray⟩)/\Below (w.heap.size+1) (w.alloc (.cells #[.int .i64 3,.string C,.int .i64 0,.slice A m cc] 44)) wr)
 case atStart=>exact⟨0,C,rfl,rfl,rfl,by omega,hidE (by rw[<-HC.out];simp[printL]),Below.refl _ _⟩
 case round =>
  obtain⟨i,X,rfl,rfl,rfl,hi,hX,hb⟩:=hrel
  have c3:wr.cell? ⟨w.heap.size,3,none⟩=some (.slice A m cc):=(hb.cell (p:=⟨w.heap.size,3,none⟩) (by simp)).trans (cell_of_row _ _ _ _ _ _ (heap_alloc_new _ _))
  have hXs:X.size<=10 ^ 12:=by
   rw[hX.out,mk_size]
   have:=HL.out
   have:=printL_take_le l i
   simp at *
   omega
  have HB:=hidE hb
  clear hb
  by_cases hlt:i<m
  ·obtain⟨g,u,K1,X1,Z1,A1,n1,c1,rfl,hg,e0,e1,e2,e3,⟨hu1,hu⟩,hrd,hsz,hK1,hn1⟩:=kid_cells2 (w':=wr) HA.out HM.out hlt (λg hg=>by rw[HB.out.block g (by have:=HS.out g hg;omega),Below.heap_alloc _ _ _ (HS.out g hg)])
   obtain⟨hil,hul⟩:∃h:i<l.length,l[i]=u:=⟨hu1,hu⟩
   have hpu:u.print.length<=10 ^ 12:=by
    have:=HL.out
    have:=printL_kid l i hil
    rw[hul]at this
    simp at *
    omega
   have hgw:g<wr.heap.size:=by have:=HB.out.size;have:=HS.out g hg;simp at *;omega
   have hcall:=hidE (λw' v hv hs=>HIH.out u S v w' (by have:=HN.out;omega) (by rw[<-hu];exact nm_kid HNM.out i hu1) hpu hv hs)
   have hst:=printL_take l i hil
   rw[hul]at hst
   have hps:(⟨u.print.toArray⟩:ByteArray).size<=10 ^ 12:=hpu
   obtain⟨P,hP⟩:∃P:ByteArray,⟨u.print.toArray⟩=P:=⟨_,rfl⟩
   have HRDU:=hidE hrd
   have HSG:Hid (∀g,S g->g<wr.heap.size):=hidE (λg hg=>by have:=HB.out.size;have:=HS.out g hg;simp at *;omega)
   rw[hP]at hcall hps
   cases hbig:u.big with
   | true =>
    have HX:Hid (X++⟨#[32,40]⟩++P++⟨#[41]⟩=⟨(c++printL (l.take (i+1))).toArray⟩):=hidE (by rw[hX.out,<-hP,cat_big,hst,hbig];simp)
    have hw:=big_ways u hbig
    rw[<-hK1,<-hn1]at hw
    clear hX hpu hst hbig hP hrd hu hul hK1 hn1
    rcases hw with d4|⟨d4,d5⟩|⟨d4,d5,d3,dm⟩
    ·go_wp2_with (go_at_call 39;refine(hcall.out _ _ (HRDU.out.keep (λ_ h=>h) (λg hg=>Below.heap_alloc _ _ _ (HSG.out g hg))) (λg hg=>by have:=HSG.out g hg;simp;omega)).mono ?_;rintro e w1 ⟨rfl,b1⟩)
     have HB2:=hidE (bnext HB.out (below_pre b1 (Nat.le_refl _)) (by simp))
     go_roundg (m-(i+1))
     case measure=>omega
     case rel=>exact⟨i+1,_,rfl,rfl,by go_num,by omega,HX,HB2.out⟩
    ·go_wp2_with (go_at_call 39;refine(hcall.out _ _ (HRDU.out.keep (λ_ h=>h) (λg hg=>Below.heap_alloc _ _ _ (HSG.out g hg))) (λg hg=>by have:=HSG.out g hg;simp;omega)).mono ?_;rintro e w1 ⟨rfl,b1⟩)
     have HB2:=hidE (bnext HB.out (below_pre b1 (Nat.le_refl _)) (by simp))
     go_roundg (m-(i+1))
     case measure=>omega
     case rel=>exact⟨i+1,_,rfl,rfl,by go_num,by omega,HX,HB2.out⟩
    ·go_wp2_with (go_at_call 39;refine(hcall.out _ _ (HRDU.out.keep (λ_ h=>h) (λg hg=>Below.heap_alloc _ _ _ (HSG.out g hg))) (λg hg=>by have:=HSG.out g hg;simp;omega)).mono ?_;rintro e w1 ⟨rfl,b1⟩)
     have HB2:=hidE (bnext HB.out (below_pre b1 (Nat.le_refl _)) (by simp))
     go_roundg (m-(i+1))
     case measure=>omega
     case rel=>exact⟨i+1,_,rfl,rfl,by go_num,by omega,HX,HB2.out⟩
   | false =>
    have HX:Hid (X++⟨#[32]⟩++P=⟨(c++printL (l.take (i+1))).toArray⟩):=hidE (by rw[hX.out,<-hP,cat_small,hst,hbig];simp)
    obtain⟨d4,d5,hw⟩:=small_ways u hbig
    rw[<-hK1]at d4 d5
    rw[<-hK1,<-hn1]at hw
    clear hX hpu hst hbig hP hrd hu hul hK1 hn1
    rcases hw with d3|⟨d3,rfl⟩
    ·go_wp2_with (go_at_call 39;refine(hcall.out _ _ (HRDU.out.keep (λ_ h=>h) (λg hg=>Below.heap_alloc _ _ _ (HSG.out g hg))) (λg hg=>by have:=HSG.out g hg;simp;omega)).mono ?_;rintro e w1 ⟨rfl,b1⟩)
     have HB2:=hidE (bnext HB.out (below_pre b1 (Nat.le_refl _)) (by simp))
     go_roundg (m-(i+1))
     case measure=>omega
     case rel=>exact⟨i+1,_,rfl,rfl,by go_num,by omega,HX,HB2.out⟩
    ·go_wp2_with (go_at_call 39;refine(hcall.out _ _ (HRDU.out.keep (λ_ h=>h) (λg hg=>Below.heap_alloc _ _ _ (HSG.out g hg))) (λg hg=>by have:=HSG.out g hg;simp;omega)).mono ?_;rintro e w1 ⟨rfl,b1⟩)
     have HB2:=hidE (bnext HB.out (below_pre b1 (Nat.le_refl _)) (by simp))
     go_roundg (m-(i+1))
     case measure=>omega
     case rel=>exact⟨i+1,_,rfl,rfl,by go_num,by omega,HX,HB2.out⟩
  ·have hr:=hidE (show X=R by rw[hX.out,<-HR.out,List.take_of_length_le (by have:=HM.out;rw[kids]at this;omega)])
   clear hX
   go_wp2_with fail
   go_ret
   exact⟨ret_string hr.out,((Below.refl _ w).alloc (Nat.le_refl _) _).trans (HB.out.mono (by omega))⟩
end Go.Proofs.YtknkclefoiohpaaGreatDoor

namespace Go.Proofs.YtknkclefoiohpaaGreatDoor
open Go.RowKit Lx Tx
set_option maxRecDepth 100000
set_option maxRecDepth 2000 in
set_option maxHeartbeats 1600000 in
theorem ref2_print_fn(n:Nat)(IH:PrintIH n)(a b:Ty)(S:Nat->Prop)(w:World)(A:Option Addr)(cc:Nat)(X0:ByteArray)(Z0:Int)(hn:(Ty.fn a b).size<=n+1)(hnm:Nm (.fn a b))(hlen:(Ty.fn a b).print.length<=10 ^ 12)
  (ha:Args S w (.fn a b) A)(hS:∀g,S g->g<w.heap.size) :
  Calls Tryz.prog 39 #[.agg #[.int .i64 4,.string X0,.int .i64 Z0,.slice A 2 cc]] w λe w'=>e=.returned (.string ⟨(Ty.fn a b).print.toArray⟩)/\Below w.heap.size w w':=by
 rw[Args]at ha
 obtain⟨g,rfl,hg,⟨A1,c1,h1,r1⟩,⟨A2,c2,h2,r2⟩⟩:=ha
 obtain⟨K1,X1,Z1,n1,e0,e1,e2,e3,rd1,hK1,-⟩:=cell4_parts h1 r1
 obtain⟨K2,X2,Z2,n2,f0,f1,f2,f3,rd2,-,-⟩:=cell4_parts h2 r2
 have hgw:=hS g hg
 have hp:(Ty.fn a b).print=(if a.isFA then 40::(a.print++[41]) else a.print)++[32,45,62,32]++b.print:=by rw[Ty.print]
 have la:a.print.length<=10 ^ 12:=by rw[hp]at hlen;split at hlen <;> simp at hlen <;> omega
 have lb:b.print.length<=10 ^ 12:=by rw[hp]at hlen;split at hlen <;> simp at hlen <;> omega
 have sa:(⟨a.print.toArray⟩:ByteArray).size<=10 ^ 12:=la
 have sb:(⟨b.print.toArray⟩:ByteArray).size<=10 ^ 12:=lb
 have hna:Nm a:=nm_kid hnm 0 (by simp[kids])
 have hnb:Nm b:=nm_kid hnm 1 (by simp[kids])
 have hza:a.size<=n:=by rw[Ty.size]at hn;omega
 have hzb:b.size<=n:=by rw[Ty.size]at hn;omega
 have CA:=hidE (λw' v hv hs=>IH a S v w' hza hna la hv hs)
 have CB:=hidE (λw' v hv hs=>IH b S v w' hzb hnb lb hv hs)
 obtain⟨P,hP⟩:∃P:ByteArray,⟨a.print.toArray⟩=P:=⟨_,rfl⟩
 obtain⟨Q,hQ⟩:∃Q:ByteArray,⟨b.print.toArray⟩=Q:=⟨_,rfl⟩
 have HP:=hidE hP
 have HQ:=hidE hQ
 have HS:=hidE hS
 have HR1:=hidE rd1
 have HR2:=hidE rd2
 have HPR:=hidE hp
 rw[hP]at sa CA
 rw[hQ]at sb CB
 obtain⟨R,hR⟩:∃R:ByteArray,⟨(Ty.fn a b).print.toArray⟩=R:=⟨_,rfl⟩
 rw[hR]
 have HR:=hidE hR
 have KEEP:∀w',Below (w.heap.size+1) (w.alloc (.cells #[.int .i64 4,.string X0,.int .i64 Z0,.slice (some ⟨g,0,none⟩) 2 cc] 44)) w'->w.heap.size<w'.heap.size/\(∀k,k<w.heap.size->w'.heap[k]? = w.heap[k]?):=by
  intro w' hb
  have hs:=hb.size
  simp at hs
  exact⟨by omega,λk hk=>by rw[hb.block k (by omega),Below.heap_alloc _ _ _ hk]⟩
 have SOF:Hid (∀w',Below (w.heap.size+1) (w.alloc (.cells #[.int .i64 4,.string X0,.int .i64 Z0,.slice (some ⟨g,0,none⟩) 2 cc] 44)) w'->w'.cell? ⟨w.heap.size,3,none⟩=some (.slice (some ⟨g,0,none⟩) 2 cc)/\w'.cell? ⟨g,0,none⟩=some (.int .i64 K1)/\w'.cell? ⟨g,1,none⟩=some (.string X1)/\w'.cell? ⟨g,2,none⟩=some (.int .i64 Z1)/\w'.cell? ⟨g,3,none⟩=some (.slice A1 n1 c1)/\w'.cell? ⟨g,4,none⟩=some (.int .i64 K2)/\w'.cell? ⟨g,5,none⟩=some (.string X2)/\w'.cell? ⟨g,6,none⟩=some (.int .i64 Z2)/\w'.cell? ⟨g,7,none⟩=some (.slice A2 n2 c2)):=by
  refine hidE λw' hb=>?_
  obtain⟨hs,hk⟩:=KEEP w' hb
  have hc:∀i,w'.cell? ⟨g,i,none⟩=w.cell? ⟨g,i,none⟩:=λi=>World.cell?_of_block (w:=w) (a:=⟨g,i,none⟩) (hk g hgw)
  exact⟨(hb.cell (p:=⟨w.heap.size,3,none⟩) (by simp)).trans (cell_of_row _ _ _ _ _ _ (heap_alloc_new _ _)),(hc _).trans e0,(hc _).trans e1,(hc _).trans e2,(hc _).trans e3,(hc _).trans f0,(hc _).trans f1,(hc _).trans f2,(hc _).trans f3⟩
 have HRA:Hid (∀w',Below (w.heap.size+1) (w.alloc (.cells #[.int .i64 4,.string X0,.int .i64 Z0,.slice (some ⟨g,0,none⟩) 2 cc] 44)) w'->RdV S w' a (.agg #[.int .i64 K1,.string X1,.int .i64 Z1,.slice A1 n1 c1])):=hidE λw' hb=>HR1.out.keep (λ_ h=>h) (λg hg=>(KEEP w' hb).2 g (HS.out g hg))
 have HRB:Hid (∀w',Below (w.heap.size+1) (w.alloc (.cells #[.int .i64 4,.string X0,.int .i64 Z0,.slice (some ⟨g,0,none⟩) 2 cc] 44)) w'->RdV S w' b (.agg #[.int .i64 K2,.string X2,.int .i64 Z2,.slice A2 n2 c2])):=hidE λw' hb=>HR2.out.keep (λ_ h=>h) (λg hg=>(KEEP w' hb).2 g (HS.out g hg))
 have HSG:Hid (∀w',Below (w.heap.size+1) (w.alloc (.cells #[.int .i64 4,.string X0,.int .i64 Z0,.slice (some ⟨g,0,none⟩) 2 cc] 44)) w'->∀g,S g->g<w'.heap.size):=hidE λw' hb g hg=>Nat.lt_trans (HS.out g hg) (KEEP w' hb).1
 have B0:Hid (Below (w.heap.size+1) (w.alloc (.cells #[.int .i64 4,.string X0,.int .i64 Z0,.slice (some ⟨g,0,none⟩) 2 cc] 44)) (w.alloc (.cells #[.int .i64 4,.string X0,.int .i64 Z0,.slice (some ⟨g,0,none⟩) 2 cc] 44)).drew):=hidE (Below.refl _ _).drew
 have hend:Hid (∀w',Below (w.heap.size+1) (w.alloc (.cells #[.int .i64 4,.string X0,.int .i64 Z0,.slice (some ⟨g,0,none⟩) 2 cc] 44)) w'->Below w.heap.size w w'):=hidE λw' hb=>((Below.refl _ w).alloc (Nat.le_refl _) _).trans (hb.mono (by omega))
 obtain⟨x3,y0,y1,y2,y3,z0,z1,z2,z3⟩:=SOF.out _ (Below.refl _ _)
 cases hfa:a.isFA with
 | true =>
  have HX:Hid (⟨#[40]⟩++P++⟨#[41,32,45,62,32]⟩++Q=R):=hidE (by rw[<-HP.out,<-HQ.out,cat_arrow2,<-HR.out,HPR.out,hfa];simp)
  have hw:=fa_ways a hfa
  rw[<-hK1]at hw
  clear h1 h2 r1 r2 rd1 rd2 hK1 hS hg hp hlen la lb hna hnb hza hzb hP hQ hR e0 e1 e2 e3 f0 f1 f2 f3 KEEP hfa hn hnm IH
  have o1:¬9223372036854775807<1+P.size:=by omega
  have o2:¬9223372036854775807<1+P.size+5:=by omega
  have o3:¬9223372036854775807<1+P.size+5+Q.size:=by omega
  rcases hw with d4|⟨d4,d5⟩
  ·go_enter Tryz.func39,Tryz.ntmps39
   go_wp2_with fail
   go_region_held3 (λw'=>w'.cell? ⟨w.heap.size,3,none⟩=some (.slice (some ⟨g,0,none⟩) 2 cc)/\w'.cell? ⟨g,0,none⟩=some (.int .i64 K1)/\w'.cell? ⟨g,1,none⟩=some (.string X1)/\w'.cell? ⟨g,2,none⟩=some (.int .i64 Z1)/\w'.cell? ⟨g,3,none⟩=some (.slice A1 n1 c1)/\w'.cell? ⟨g,4,none⟩=some (.int .i64 K2)/\w'.cell? ⟨g,5,none⟩=some (.string X2)/\w'.cell? ⟨g,6,none⟩=some (.int .i64 Z2)/\w'.cell? ⟨g,7,none⟩=some (.slice A2 n2 c2)) (first|exact SOF.out _ B2.out|exact SOF.out _ B1.out|exact SOF.out _ B0.out) (first|((with_reducible refine(CA.out _ _ (HRA.out _ (by first|exact B1.out|exact B0.out)) (HSG.out _ (by first|exact B1.out|exact B0.out))).mono ?_);rintro e w1 ⟨rfl,b1⟩;first|(have B2:=hidE (bnext B1.out b1 (by simp)))|(have B1:=hidE (bnext B0.out b1 (by simp)));clear b1)|((with_reducible refine(CB.out _ _ (HRB.out _ (by first|exact B1.out|exact B0.out)) (HSG.out _ (by first|exact B1.out|exact B0.out))).mono ?_);rintro e w1 ⟨rfl,b1⟩;first|(have B2:=hidE (bnext B1.out b1 (by simp)))|(have B1:=hidE (bnext B0.out b1 (by simp)));clear b1))
   all_goals
    go_wp2_with fail
    go_ret
    exact⟨ret_string HX.out,hend.out _ B2.out⟩
  ·go_enter Tryz.func39,Tryz.ntmps39
   go_wp2_with fail
   go_region_held3 (λw'=>w'.cell? ⟨w.heap.size,3,none⟩=some (.slice (some ⟨g,0,none⟩) 2 cc)/\w'.cell? ⟨g,0,none⟩=some (.int .i64 K1)/\w'.cell? ⟨g,1,none⟩=some (.string X1)/\w'.cell? ⟨g,2,none⟩=some (.int .i64 Z1)/\w'.cell? ⟨g,3,none⟩=some (.slice A1 n1 c1)/\w'.cell? ⟨g,4,none⟩=some (.int .i64 K2)/\w'.cell? ⟨g,5,none⟩=some (.string X2)/\w'.cell? ⟨g,6,none⟩=some (.int .i64 Z2)/\w'.cell? ⟨g,7,none⟩=some (.slice A2 n2 c2)) (first|exact SOF.out _ B2.out|exact SOF.out _ B1.out|exact SOF.out _ B0.out) (first|((with_reducible refine(CA.out _ _ (HRA.out _ (by first|exact B1.out|exact B0.out)) (HSG.out _ (by first|exact B1.out|exact B0.out))).mono ?_);rintro e w1 ⟨rfl,b1⟩;first|(have B2:=hidE (bnext B1.out b1 (by simp)))|(have B1:=hidE (bnext B0.out b1 (by simp)));clear b1)|((with_reducible refine(CB.out _ _ (HRB.out _ (by first|exact B1.out|exact B0.out)) (HSG.out _ (by first|exact B1.out|exact B0.out))).mono ?_);rintro e w1 ⟨rfl,b1⟩;first|(have B2:=hidE (bnext B1.out b1 (by simp)))|(have B1:=hidE (bnext B0.out b1 (by simp)));clear b1))
   all_goals
    go_wp2_with fail
    go_ret
    exact⟨ret_string HX.out,hend.out _ B2.out⟩
 | false =>
  have HX:Hid (P++⟨#[32,45,62,32]⟩++Q=R):=hidE (by rw[<-HP.out,<-HQ.out,cat_arrow,<-HR.out,HPR.out,hfa];simp)
  obtain⟨d4,d5⟩:=fa_not a hfa
  rw[<-hK1]at d4 d5
  clear h1 h2 r1 r2 rd1 rd2 hK1 hS hg hp hlen la lb hna hnb hza hzb hP hQ hR e0 e1 e2 e3 f0 f1 f2 f3 KEEP hfa hn hnm IH
  have o1:¬9223372036854775807<P.size+4:=by omega
  have o2:¬9223372036854775807<P.size+4+Q.size:=by omega
  go_enter Tryz.func39,Tryz.ntmps39
  go_wp2_with fail
  go_region_held3 (λw'=>w'.cell? ⟨w.heap.size,3,none⟩=some (.slice (some ⟨g,0,none⟩) 2 cc)/\w'.cell? ⟨g,0,none⟩=some (.int .i64 K1)/\w'.cell? ⟨g,1,none⟩=some (.string X1)/\w'.cell? ⟨g,2,none⟩=some (.int .i64 Z1)/\w'.cell? ⟨g,3,none⟩=some (.slice A1 n1 c1)/\w'.cell? ⟨g,4,none⟩=some (.int .i64 K2)/\w'.cell? ⟨g,5,none⟩=some (.string X2)/\w'.cell? ⟨g,6,none⟩=some (.int .i64 Z2)/\w'.cell? ⟨g,7,none⟩=some (.slice A2 n2 c2)) (first|exact SOF.out _ B2.out|exact SOF.out _ B1.out|exact SOF.out _ B0.out) (first|((with_reducible refine(CA.out _ _ (HRA.out _ (by first|exact B1.out|exact B0.out)) (HSG.out _ (by first|exact B1.out|exact B0.out))).mono ?_);rintro e w1 ⟨rfl,b1⟩;first|(have B2:=hidE (bnext B1.out b1 (by simp)))|(have B1:=hidE (bnext B0.out b1 (by simp)));clear b1)|((with_reducible refine(CB.out _ _ (HRB.out _ (by first|exact B1.out|exact B0.out)) (HSG.out _ (by first|exact B1.out|exact B0.out))).mono ?_);rintro e w1 ⟨rfl,b1⟩;first|(have B2:=hidE (bnext B1.out b1 (by simp)))|(have B1:=hidE (bnext B0.out b1 (by simp)));clear b1))
  all_goals
   go_wp2_with fail
   go_ret
   exact⟨ret_string HX.out,hend.out _ B2.out⟩
end Go.Proofs.YtknkclefoiohpaaGreatDoor

namespace Go.Proofs.YtknkclefoiohpaaGreatDoor
open Go.RowKit Lx Tx
set_option maxRecDepth 100000
set_option maxRecDepth 2000 in
set_option maxHeartbeats 1600000 in
theorem ref2_print_all(n:Nat)(IH:PrintIH n)(x:List UInt8)(t:Ty)(S:Nat->Prop)(w:World)(A:Option Addr)(cc:Nat)(Z0:Int)(hn:(Ty.all x t).size<=n+1)(hnm:Nm (.all x t))(hlen:(Ty.all x t).print.length<=10 ^ 12)
  (ha:Args S w (.all x t) A)(hS:∀g,S g->g<w.heap.size) :
  Calls Tryz.prog 39 #[.agg #[.int .i64 5,.string ⟨x.toArray⟩,.int .i64 Z0,.slice A 1 cc]] w λe w'=>e=.returned (.string ⟨(Ty.all x t).print.toArray⟩)/\Below w.heap.size w w':=by
 rw[Args]at ha
 obtain⟨g,rfl,hg,A1,c1,h1,r1⟩:=ha
 obtain⟨K1,X1,Z1,n1,e0,e1,e2,e3,rd1,hK1,-⟩:=cell4_parts h1 r1
 have hgw:=hS g hg
 have hp:(Ty.all x t).print=wForall++32::x++printA t:=by rw[Ty.print]
 rw[hp]at hlen ⊢
 obtain⟨R,hR⟩:∃R:ByteArray,⟨(wForall++32::x++printA t).toArray⟩=R:=⟨_,rfl⟩
 have hRs:R.size<=10 ^ 12:=by rw[<-hR,mk_size];exact hlen
 have hxs:(⟨x.toArray⟩:ByteArray).size<=10 ^ 12:=by rw[mk_size];simp at hlen;omega
 rw[hR]
 have hx0:((⟨#[102,111,114,97,108,108,32]⟩:ByteArray)++⟨x.toArray⟩).data.toList++printA t=R.data.toList:=by
  rw[<-hR];simp[wForall]
 obtain⟨X0,hX0⟩:∃X0:ByteArray,⟨x.toArray⟩=X0:=⟨_,rfl⟩
 rw[hX0]at hx0 hxs ⊢
 have hnt:Nm t:=nm_kid hnm 0 (by simp[kids])
 have htn:t.size<=n:=by rw[Ty.size]at hn;omega
 have HIH:=hidE IH
 have HS:=hidE hS
 have HX0:=hidE hx0
 have HRD:=hidE rd1
 have HNT:=hidE hnt
 have HK1:=hidE hK1
 clear hp hlen hR hX0 hx0 IH hS h1 r1 rd1 hg hn hnm hnt hK1
 go_enter Tryz.func39,Tryz.ntmps39
 go_wp2_with fail
 go_loopg [6] t.size (λgg vs wr=>∃(u:Ty) (K:Int) (X:ByteArray) (Z:Int) (A':Option Addr) (m c:Nat) (Y:ByteArray),gg=u.size/\vs=.string Y/\Blk wr (w.heap.size+1) 44 #[.int .i64 K,.string X,.int .i64 Z,.slice A' m c] /\
  RdV S wr u (.agg #[.int .i64 K,.string X,.int .i64 Z,.slice A' m c])/\Below w.heap.size w wr/\Hid (Y.data.toList++printA u=R.data.toList)/\Nm u/\u.size<=n)
 case atStart =>
  refine⟨t,K1,X1,Z1,A1,n1,c1,_,rfl,rfl,heap_alloc2_new _ _ _,?_,((Below.refl _ w).alloc (Nat.le_refl _) _).alloc (by simp) _,hidE HX0.out,HNT.out,htn⟩
  exact HRD.out.keep (λ_ h=>h) (λg hg=>by rw[Below.heap_alloc _ _ _ (by simp;have:=HS.out g hg;omega),Below.heap_alloc _ _ _ (HS.out g hg)])
 case round =>
  clear e0 e1 e2 e3
  obtain⟨u,K,X,Z,A',m,c,Y,rfl,rfl,hb,hrd,hbel,hY,hnu,hun⟩:=hrel
  obtain⟨p0,p1,p2,p3,s0,s1,s2,s3,hlx⟩:=blk_facts4 hb
  have HB:=hidE hb
  have HBEL:=hidE hbel
  have hsz:=congrArg List.length hY.out
  rw[List.length_append,<-Lib.size_eq,<-Lib.size_eq]at hsz
  by_cases hu:∃y u',u=.all y u'
  ·obtain⟨y,u',rfl⟩:=hu
   obtain⟨rfl,hX,rfl,g',rfl,hg',K2,X2,Z2,A2,n2,c2,f0,f1,f2,f3,hrd2⟩:=all_open hrd
   have hgw':g'<wr.heap.size:=by have:=HS.out g' hg';have:=hbel.size;omega
   have hgne:g'≠w.heap.size+1:=by have:=HS.out g' hg';omega
   have hst:(Y++⟨#[32]⟩++X).data.toList++printA u'=R.data.toList:=by rw[<-hY.out,printA_all,cat_name _ y Y X rfl hX];simp
   have hsz2:=congrArg List.length hst
   rw[List.length_append,<-Lib.size_eq,<-Lib.size_eq]at hsz2
   simp at hsz2
   have HST:=hidE hst
   have HRD2:=hidE hrd2
   have HNU:=hidE (nm_kid hnu 0 (by simp[kids]))
   have hus:u'.size+1=(Ty.all y u').size:=by rw[Ty.size]
   clear hb hrd hbel hY hnu hsz hst hrd2 hX
   go_wp2_with fail
   go_roundg u'.size
   case measure=>omega
   case rel =>
    refine⟨u',K2,X2,Z2,A2,n2,c2,_,rfl,rfl,blk_set4 _ _ _ _ HB.out,HRD2.out.keep (λ_ h=>h) (λg hg=>heap_set4 _ _ _ _ _ _ _ (by have:=HS.out g hg;omega)),below_set4 HBEL.out _ _ _ _ (by omega),HST,HNU.out,by omega⟩
  ·obtain⟨d5,hpr⟩:=not_all u hu
   obtain⟨hK,hm⟩:=rd_kind hrd
   rw[<-hK]at d5
   have hps:u.print.length<=10 ^ 12:=by rw[hpr]at hsz;simp at hsz;omega
   have HC:=hidE (HIH.out u S _ wr hun hnu hps hrd (λg hg=>by have:=HS.out g hg;have:=hbel.size;omega))
   have HX:Hid (Y++⟨#[46,32]⟩++⟨u.print.toArray⟩=R):=hidE (by rw[cat_last,<-hpr,hY.out])
   have hps':(⟨u.print.toArray⟩:ByteArray).size<=10 ^ 12:=hps
   obtain⟨P,hP⟩:∃P:ByteArray,⟨u.print.toArray⟩=P:=⟨_,rfl⟩
   rw[hP]at HC HX hps'
   clear hP hb hrd hbel hY hnu hpr hu hK hm
   go_wp2_with (go_at_call 39;refine HC.out.mono ?_;rintro e w1 ⟨rfl,b1⟩)
   go_ret
   exact⟨ret_string HX.out,bnext HBEL.out b1 (Nat.le_refl _)⟩
theorem ref2_printN(n:Nat)(h6:n<=1000000):PrintIH n:=by
 induction n with
 | zero=>intro t S v w h;have:=size_kids t;omega
 | succ n ih =>
  have IH:=ih (by omega)
  intro t S v w hn hnm hlen hv hS
  obtain⟨A,c,rfl,ha⟩:=hv
  cases t with
  | var x =>
   rw[Ty.print]
   exact ref2_print_var x A c _ w
  | mt k =>
   cases hnm with
   | mt _ hk =>
    rw[Ty.print]
    exact ref2_print_mt k hk _ A c _ w
  | con x l=>exact ref2_print_con n IH (by omega) x l S w A c _ hn hnm hlen rfl ha hS
  | fn a b=>exact ref2_print_fn n IH a b S w A c _ _ hn hnm hlen ha hS
  | all x t=>exact ref2_print_all n IH x t S w A c _ hn hnm hlen ha hS
theorem ref2_print(t:Ty)(S:Nat->Prop)(v:Value)(w:World)(hs:t.size<=1000000)(hnm:Nm t)(hlen:t.print.length<=10 ^ 12)(hv:RdV S w t v)(hS:∀g,S g->g<w.heap.size) :
  Calls Tryz.prog 39 #[v] w λe w'=>e=.returned (.string ⟨t.print.toArray⟩)/\Below w.heap.size w w' :=
 ref2_printN 1000000 (Nat.le_refl _) t S v w hs hnm hlen hv hS
end Go.Proofs.YtknkclefoiohpaaGreatDoor

namespace Go.Proofs.YtknkclefoiohpaaGreatDoor
open Go.RowKit Lx Tx
set_option maxRecDepth 100000
def HeadRd2(i K0 b9:Nat)(V:List (List UInt8))(o:Option Ty)(w:World)(gg:Nat)(vj:Value)(wr:World):Prop :=
 ∃j K X Z A m c,gg=j-i/\vj=.int .i64 j/\i<=j/\j<K0/\Blk wr b9 44 #[.int .i64 K,.string X,.int .i64 Z,.slice A m c] /\
  Blk wr w.heap.size 44 #[.int .i64 0,.string ⟨#[]⟩,.int .i64 0,.slice none 0 0]/\Below w.heap.size w wr /\
  ∀t0,o=some t0->RdV (λg=>w.heap.size<g/\g<wr.heap.size/\g≠b9) wr (alls (V.drop (j-i)) t0) (.agg #[.int .i64 K,.string X,.int .i64 Z,.slice A m c])
set_option maxHeartbeats 1600000 in
theorem ref2_read_all(f:Nat)(ts:List Tok)(v:Value)(w:World)(i:Nat)(hv:RdT w v ts)(hn:ts.length<=100000)(hf:4*(ts.length-i)+4<=f+1)(hq:isAt ts i 3 wForall=true)
  (IHR:∀(w:World)(i:Nat),RdT w v ts->i<=ts.length->4*(ts.length-i)+4<=f->Calls Tryz.prog 133 #[v,.int .i64 i] w (RPost ts i w (read f (ts.drop i)))) :
  Calls Tryz.prog 133 #[v,.int .i64 i] w (RPost ts i w (read (f+1) (ts.drop i))):=by
 have hlt:=isAt_lt _ _ _ _ hq
 have hIs:∀w,RdT w v ts->Calls Tryz.prog 85 #[v,.int .i64 i,.int .i64 3,.string ⟨#[102,111,114,97,108,108]⟩] w λe w'=>e=.returned (.bool true)/\w=w':=by
  intro w hv
  rw[<-hq]
  exact ref2_is _ ts i 3 ⟨#[102,111,114,97,108,108]⟩ 3 rfl w hv
 obtain⟨hv1,hv2,hv3,hv4⟩:=vars_at ts ts.length (i+1) (by omega) (by omega)
 have HO0:=read_all f ts i hq _ rfl hv3
 generalize hVe:(vars (ts.drop (i+1))).1=V at *
 obtain⟨O,hO⟩:∃O,read (f+1) (ts.drop i)=O:=⟨_,rfl⟩
 rw[hO]
 rw[hO]at HO0
 obtain⟨K0,hK0⟩:∃K0,i+1+V.length=K0:=⟨_,rfl⟩
 rw[hK0]at hv2 hv4 HO0
 have HO:=hidE HO0
 have HV1:Hid (∀k,i+1<=k->k<K0->∃h:k<ts.length,ts[k].kind=1/\ts[k].text=V.getD (k-(i+1)) []):=by
  refine hidE λk h1 h2=>?_
  obtain⟨d,rfl⟩:∃d,k=i+1+d:=⟨k-(i+1),by omega⟩
  obtain⟨h,e1,e2⟩:=hv1 d (by omega)
  exact⟨h,e1,by rw[e2,Nat.add_sub_cancel_left,List.getD_eq_getElem?_getD,List.getElem?_eq_getElem (by omega)];rfl⟩
 have HV4:=hidE hv4
 have HK0:=hidE hK0
 have hKi:i+1<=K0:=by omega
 obtain⟨q,hq2⟩:∃q,isAt ts K0 6 [46]=q:=⟨_,rfl⟩
 have HQ:=hidE hq2
 have hIs2:∀w,RdT w v ts->Calls Tryz.prog 85 #[v,.int .i64 K0,.int .i64 6,.string ⟨#[46]⟩] w λe w'=>e=.returned (.bool q)/\w=w':=by
  intro w hv
  rw[<-hq2]
  exact ref2_is _ ts K0 6 ⟨#[46]⟩ 6 rfl w hv
 clear HO0 hVe hv1 hv3 hv4 hO hq hq2 hK0
 obtain⟨g,c,rfl,_,_,_⟩:=hv.at_ i hlt
 have hgl:=hv.lt (by omega)
 obtain⟨n,hN⟩:∃n,ts.length=n:=⟨_,rfl⟩
 have HN:=hidE hN
 rw[hN]at hv hIs hIs2 hn hf hlt hv2 IHR ⊢
 have HV:=hidE hv
 have HR:=hidE IHR
 clear hN IHR hv
 go_enter Tryz.func133,Tryz.ntmps133
 go_wp2_with (go_at_call 85;refine(hIs _ (HV.out.alloc _)).mono ?_;rintro e w2 ⟨rfl,rfl⟩)
 go_loopg [7] (K0-(i+1)) (λgg vk wr=>∃k:Nat,gg=K0-k/\vk=.int .i64 k/\wr=w.alloc (.cells #[.int .i64 0,.string ⟨#[]⟩,.int .i64 0,.slice none 0 0] 44)/\i+1<=k/\k<=K0)
 case atStart=>exact⟨i+1,rfl,by go_num,rfl,by omega,hKi⟩
 case round =>
  obtain⟨k,rfl,rfl,rfl,hk1,hk2⟩:=hrel
  by_cases hkK:k<K0
  ·obtain⟨hkn,e1,-⟩:=HV1.out k hk1 hkK
   have e0:=(HV.out.cells k hkn).1
   rw[e1]at e0
   have e0:w.cell? ⟨g,k*3,none⟩=some (.int .i64 1):=e0
   have hkn':k<n:=by omega
   clear e1 hkn
   go_wp2_with fail
   go_roundg (K0-(k+1))
   case measure=>omega
   case rel=>exact⟨k+1,rfl,by go_num,rfl,by omega,by omega⟩
  ·obtain rfl:k=K0:=by omega
   by_cases hkn:k<n
   ·have hkn':k<ts.length:=by rw[HN.out];exact hkn
    have e0:=(HV.out.cells k hkn').1
    obtain⟨m,hm⟩:∃m,ts[k].kind=m:=⟨_,rfl⟩
    have d1:=kF m 1 (by rw[<-hm];exact HV4.out hkn')
    rw[hm]at e0
    clear hm hkn'
    cases q
    ·have HO:Hid (O=none):=hidE (HO.out.trans (by rw[HQ.out];simp))
     go_wp2_with (go_at_call 85;refine(hIs2 _ (HV.out.alloc _)).mono ?_;rintro e w2 ⟨rfl,rfl⟩)
     try simp only[Exit.inBlock,Exit.then]
     refine bodyPost_ret (results_ct rfl _ _ w.heap.size 44 _ (0,0) _ rfl (heap_alloc_new _ _) Tryz.underlying44 rfl (by kernel_rfl)) rfl ?_
     exact rpost_none ts i w _ _ _ 0 ⟨#[]⟩ 0 none 0 0 ((Below.refl _ w).alloc (Nat.le_refl _) _) HO.out rfl
    ·by_cases hki:k=i+1
     ·have dk:((k:Int) ==(i:Int)+1)=true:=by simp;omega
      have hVn:V=[]:=by cases V with|nil=>rfl|cons a b=>have:=HK0.out;simp at this;omega
      have HO:Hid (O=none):=hidE (HO.out.trans (by rw[if_pos hVn]))
      clear hVn hki
      go_wp2_with (go_at_call 85;refine(hIs2 _ (HV.out.alloc _)).mono ?_;rintro e w2 ⟨rfl,rfl⟩)
      try simp only[Exit.inBlock,Exit.then]
      refine bodyPost_ret (results_ct rfl _ _ w.heap.size 44 _ (0,0) _ rfl (heap_alloc_new _ _) Tryz.underlying44 rfl (by kernel_rfl)) rfl ?_
      exact rpost_none ts i w _ _ _ 0 ⟨#[]⟩ 0 none 0 0 ((Below.refl _ w).alloc (Nat.le_refl _) _) HO.out rfl
     ·have dk:((k:Int) ==(i:Int)+1)=false:=by rw[Bool.eq_false_iff];intro h;simp at h;omega
      have hVn:V≠[]:=by intro e;have:=HK0.out;rw[e]at this;simp at this;omega
      have HO:Hid (O=(read f (ts.drop (k+1))).map λx=>(alls V x.1,x.2)):=hidE (HO.out.trans (by rw[if_neg hVn,HQ.out,if_pos rfl]))
      clear hVn
      go_wp2_with (go_at_call 85;refine(hIs2 _ (HV.out.alloc _)).mono ?_;rintro e w2 ⟨rfl,rfl⟩)
      refine(HR.out _ (k+1) (HV.out.alloc _) (by omega) (by omega)).mono ?_
      rintro e w1 ⟨b1,K1,X1,Z1,A1,m1,c1,hcases⟩
      have hb0:Blk w1 w.heap.size 44 #[.int .i64 0,.string ⟨#[]⟩,.int .i64 0,.slice none 0 0]:=Blk.below (heap_alloc_new _ _) b1 (by simp)
      have HB0:=hidE hb0
      have B1:=hidE b1
      have hlw:=hb0.lt
      clear hb0 b1
      rcases hcases with⟨ho,rfl⟩|⟨t,k2,hk2,hkn2,ho,rfl,hr⟩
      ·have HO:Hid (O=none):=hidE (HO.out.trans (by rw[ho];rfl))
       clear ho
       go_wp2_with fail
       go_loopg [11] (k-1-i) (λgg vj wr=>HeadRd2 i k w1.heap.size V none w gg vj wr)
       case atStart =>
        refine⟨k-1,K1,X1,Z1,A1,m1,c1,by omega,by go_num,by omega,by omega,heap_alloc_new _ _,HB0.out.alloc _,(below_pre B1.out (Nat.le_refl _)).alloc (by omega) _,?_⟩
        intro t0 h;exact absurd h (by simp)
       case round =>
        obtain⟨j,K,X,Z,A,mm,cc,rfl,rfl,hij,hjK,hb9,hb0,hbel,hrd⟩:=hrel
        obtain⟨p0,p1,p2,p3,s0,s1,s2,s3,hlx⟩:=blk_facts4 hb9
        obtain⟨a0,a1,a2,a3,r0,r1,r2,r3,hlw3⟩:=blk_facts4 hb0
        have HB9:=hidE hb9
        have HB0:=hidE hb0
        have HBEL:=hidE hbel
        have HRD:=hidE hrd
        have hgw:g<wr.heap.size:=by have:=hbel.size;omega
        clear hb9 hb0 hrd
        by_cases hji:i<j
        ·obtain⟨hjn,-,hjt⟩:=HV1.out j (by omega) (by omega)
         obtain⟨-,e1⟩:=(HV.out.below hbel).cells j hjn
         obtain⟨Y,hY⟩:∃Y:ByteArray,⟨ts[j].text.toArray⟩=Y:=⟨_,rfl⟩
         rw[hY]at e1
         have HY:Hid (Y=⟨(V.getD (j-(i+1)) []).toArray⟩):=hidE (by rw[<-hY,hjt])
         have hjn':j<n:=by omega
         clear hbel hjt hY hjn
         go_wp2_with fail
         go_region
         go_wp2_with fail
         go_roundg (j-1-i)
         case measure=>omega
         case rel =>
          have hsz:=HBEL.out.size
          have h9:w.heap.size<w1.heap.size:=hlw
          refine⟨j-1,5,Y,0,some ⟨wr.heap.size,0,none⟩,1,1,by omega,by go_num,by omega,by omega,((blk_set4 _ _ _ _ HB9.out).alloc _).drew,((blk_far4 (by omega) HB0.out).alloc _).drew,((below_set4 HBEL.out _ _ _ _ (by omega)).alloc (by simp;omega) _).drew,λt0 h=>?_⟩
          rw[alls_step V (j-1-i) t0 (by have:=HK0.out;omega),show j-1-i+1=j-i by omega]
          refine all_cells (w:=wr) (by rw[HY.out,show j-1-i=j-(i+1) by omega]) (HRD.out t0 h) (λg hg=>?_) (λg hg=>?_) ?_ ?_
          ·have:=hg.2.1
           exact⟨hg.1,by simp;omega,hg.2.2⟩
          ·exact(Below.heap_alloc _ _ _ (by simp;exact hg.2.1)).trans (heap_set4 _ _ _ _ _ _ _ hg.2.2)
          ·exact⟨by omega,by simp,by omega⟩
          ·intro d u hu
           have:=new_cells' ((((wr.setCell ⟨w1.heap.size,0,none⟩ (.int .i64 5)).setCell ⟨w1.heap.size,1,none⟩ (.string Y)).setCell ⟨w1.heap.size,2,none⟩ (.int .i64 0)).setCell ⟨w1.heap.size,3,none⟩ (.slice (some ⟨wr.heap.size,0,none⟩) 1 1)) #[.int .i64 K,.string X,.int .i64 Z,.slice A mm cc] 44 wr.heap.size (by simp) d u hu
           rw[add_zero_addr]at this
           exact this
        ·clear hbel
         go_wp2_with fail
         try simp only[Exit.inBlock,Exit.then]
         refine bodyPost_ret (results_ct rfl _ _ w.heap.size 44 _ (0,0) _ rfl (blk_set4 _ _ _ _ HB0.out) Tryz.underlying44 rfl (by kernel_rfl)) rfl ?_
         exact rpost_none ts i w _ _ _ K X Z A mm cc (below_set4 HBEL.out _ _ _ _ (Nat.le_refl _)) HO.out rfl
      ·have HO:Hid (O=some (alls V t,ts.drop k2)):=hidE (HO.out.trans (by rw[ho];rfl))
       have HT:=hidE hr
       clear ho hr
       go_wp2_with fail
       go_loopg [11] (k-1-i) (λgg vj wr=>HeadRd2 i k w1.heap.size V (some t) w gg vj wr)
       case atStart =>
        refine⟨k-1,K1,X1,Z1,A1,m1,c1,by omega,by go_num,by omega,by omega,heap_alloc_new _ _,HB0.out.alloc _,(below_pre B1.out (Nat.le_refl _)).alloc (by omega) _,?_⟩
        intro t0 h
        injection h with h
        subst h
        rw[List.drop_eq_nil_of_le (by have:=HK0.out;omega)]
        exact HT.out.keep (λg hg=>by simp at hg ⊢;omega) (λg hg=>Below.heap_alloc _ _ _ hg.2)
       case round =>
        obtain⟨j,K,X,Z,A,mm,cc,rfl,rfl,hij,hjK,hb9,hb0,hbel,hrd⟩:=hrel
        obtain⟨p0,p1,p2,p3,s0,s1,s2,s3,hlx⟩:=blk_facts4 hb9
        obtain⟨a0,a1,a2,a3,r0,r1,r2,r3,hlw3⟩:=blk_facts4 hb0
        have HB9:=hidE hb9
        have HB0:=hidE hb0
        have HBEL:=hidE hbel
        have HRD:=hidE hrd
        have hgw:g<wr.heap.size:=by have:=hbel.size;omega
        clear hb9 hb0 hrd
        by_cases hji:i<j
        ·obtain⟨hjn,-,hjt⟩:=HV1.out j (by omega) (by omega)
         obtain⟨-,e1⟩:=(HV.out.below hbel).cells j hjn
         obtain⟨Y,hY⟩:∃Y:ByteArray,⟨ts[j].text.toArray⟩=Y:=⟨_,rfl⟩
         rw[hY]at e1
         have HY:Hid (Y=⟨(V.getD (j-(i+1)) []).toArray⟩):=hidE (by rw[<-hY,hjt])
         have hjn':j<n:=by omega
         clear hbel hjt hY hjn
         go_wp2_with fail
         go_region
         go_wp2_with fail
         go_roundg (j-1-i)
         case measure=>omega
         case rel =>
          have hsz:=HBEL.out.size
          have h9:w.heap.size<w1.heap.size:=hlw
          refine⟨j-1,5,Y,0,some ⟨wr.heap.size,0,none⟩,1,1,by omega,by go_num,by omega,by omega,((blk_set4 _ _ _ _ HB9.out).alloc _).drew,((blk_far4 (by omega) HB0.out).alloc _).drew,((below_set4 HBEL.out _ _ _ _ (by omega)).alloc (by simp;omega) _).drew,λt0 h=>?_⟩
          rw[alls_step V (j-1-i) t0 (by have:=HK0.out;omega),show j-1-i+1=j-i by omega]
          refine all_cells (w:=wr) (by rw[HY.out,show j-1-i=j-(i+1) by omega]) (HRD.out t0 h) (λg hg=>?_) (λg hg=>?_) ?_ ?_
          ·have:=hg.2.1
           exact⟨hg.1,by simp;omega,hg.2.2⟩
          ·exact(Below.heap_alloc _ _ _ (by simp;exact hg.2.1)).trans (heap_set4 _ _ _ _ _ _ _ hg.2.2)
          ·exact⟨by omega,by simp,by omega⟩
          ·intro d u hu
           have:=new_cells' ((((wr.setCell ⟨w1.heap.size,0,none⟩ (.int .i64 5)).setCell ⟨w1.heap.size,1,none⟩ (.string Y)).setCell ⟨w1.heap.size,2,none⟩ (.int .i64 0)).setCell ⟨w1.heap.size,3,none⟩ (.slice (some ⟨wr.heap.size,0,none⟩) 1 1)) #[.int .i64 K,.string X,.int .i64 Z,.slice A mm cc] 44 wr.heap.size (by simp) d u hu
           rw[add_zero_addr]at this
           exact this
        ·clear hbel
         go_wp2_with fail
         try simp only[Exit.inBlock,Exit.then]
         refine bodyPost_ret (results_ct rfl _ _ w.heap.size 44 _ (0,0) _ rfl (blk_set4 _ _ _ _ HB0.out) Tryz.underlying44 rfl (by kernel_rfl)) rfl ?_
         obtain rfl:i=j:=by omega
         have hr:=HRD.out t rfl
         rw[Nat.sub_self,List.drop_zero]at hr
         refine rpost_some ts i w _ _ _ K X Z A mm cc (alls V t) k2 (below_set4 HBEL.out _ _ _ _ (Nat.le_refl _)) (by omega) hkn2 HO.out rfl ?_
         exact hr.keep (λg hg=>by simp at hg ⊢;omega) (λg hg=>heap_set4 _ _ _ _ _ _ _ (by omega))
   ·cases q
    ·have HO:Hid (O=none):=hidE (HO.out.trans (by rw[HQ.out];simp))
     go_wp2_with (go_at_call 85;refine(hIs2 _ (HV.out.alloc _)).mono ?_;rintro e w2 ⟨rfl,rfl⟩)
     try simp only[Exit.inBlock,Exit.then]
     refine bodyPost_ret (results_ct rfl _ _ w.heap.size 44 _ (0,0) _ rfl (heap_alloc_new _ _) Tryz.underlying44 rfl (by kernel_rfl)) rfl ?_
     exact rpost_none ts i w _ _ _ 0 ⟨#[]⟩ 0 none 0 0 ((Below.refl _ w).alloc (Nat.le_refl _) _) HO.out rfl
    ·exact absurd (isAt_lt _ _ _ _ HQ.out) (by rw[HN.out];exact hkn)
theorem ref2_all(ts:List Tok)(v:Value)(hg:AllG ts)(hn:ts.length<=100000)(f:Nat):∀f1,f1<=f ->
  (∀(w:World)(i:Nat),RdT w v ts->i<=ts.length->4*(ts.length-i)+4<=f1->Calls Tryz.prog 133 #[v,.int .i64 i] w (RPost ts i w (read f1 (ts.drop i)))) /\
  (∀(w:World)(i:Nat),RdT w v ts->i<=ts.length->4*(ts.length-i)+3<=f1->Calls Tryz.prog 167 #[v,.int .i64 i] w (RPost ts i w (app f1 (ts.drop i)))) /\
  (∀(w:World)(i:Nat),RdT w v ts->i<=ts.length->4*(ts.length-i)+2<=f1->Calls Tryz.prog 187 #[v,.int .i64 i] w (RPost ts i w (atom f1 (ts.drop i)))):=by
 induction f with
 | zero =>
  intro f1 h
  exact⟨λw i _ _ h2=>by omega,λw i _ _ h2=>by omega,λw i _ _ h2=>by omega⟩
 | succ f ih =>
  intro f1 h1
  by_cases h:f1<=f
  ·exact ih f1 h
  ·obtain rfl:f1=f+1:=by omega
   have i0:=ih f (Nat.le_refl _)
   refine⟨λw i hv hi hf=>?_,λw i hv hi hf=>?_,λw i hv hi hf=>?_⟩
   ·cases hq:isAt ts i 3 wForall with
    | true=>exact ref2_read_all f ts v w i hv hn hf hq i0.1
    | false=>exact ref2_read_app f ts v w i hv hn hi hf hq i0.2.1 i0.1
   ·exact ref2_app f ts v w i hv hn hi hf (λf1 h=>(ih f1 h).2.2)
   ·exact ref2_atom f ts v w i hv hg hn hi hf i0.1
end Go.Proofs.YtknkclefoiohpaaGreatDoor
