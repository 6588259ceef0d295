/-
  Contracts of the code's functions, part 7.
-/
import Derived.Test.YtknkclefoiohpaaGreatDoorKbF
import Derived.Test.YtknkclefoiohpaaGreatDoorKbD
import Derived.Maps.AppendAt
namespace Go.Proofs.YtknkclefoiohpaaGreatDoor
open Go.RowKit Lx Tx
set_option maxRecDepth 100000
theorem strV_at(l:List (List UInt8))(k:Nat)(h:k<l.length):(strV l)[k]? = some (.string ⟨l[k].toArray⟩):=by simp[strV,List.getElem?_map,List.getElem?_eq_getElem h]
theorem strT(a b:ByteArray)(h:a=b):(a.toList==b.toList)=true:=by rw[h];simp
theorem strF(a b:ByteArray)(h:¬a=b):(a.toList==b.toList)=false:=by
 rw[beq_eq_false_iff_ne]
 intro e
 rw[Lib.toList_data,Lib.toList_data]at e
 exact h (ByteArray.ext (by simpa using e))
def isAt(ts:List Tok)(i K:Nat)(X:List UInt8):Bool:=(ts[i]?).any λt=>t.kind==K &&(X==[]||t.text==X)
theorem kT(a b:Nat)(h:a=b):((a:Int) ==(b:Int))=true:=by rw[h];simp
theorem kF(a b:Nat)(h:¬a=b):((a:Int) ==(b:Int))=false:=by
 rw[Bool.eq_false_iff];intro e;simp at e;omega
theorem isAt_end(ts:List Tok)(i K:Nat)(X:List UInt8)(h:ts.length<=i):isAt ts i K X=false:=by simp[isAt,List.getElem?_eq_none h]
theorem isAt_at(ts:List Tok)(i K:Nat)(X:List UInt8)(h:i<ts.length):isAt ts i K X=(ts[i].kind==K &&(X==[]||ts[i].text==X)):=by simp[isAt,List.getElem?_eq_getElem h]
theorem take_snoc {α:Type}(l:List α)(k:Nat)(h:k<l.length):l.take (k+1)=l.take k++[l[k]]:=List.take_succ_eq_append_getElem h
theorem depth_kids(t:Ty):t.depth=depthL (kids t)+1:=by
 cases t <;> rw[Ty.depth,kids] <;> simp[depthL]
theorem depthL_snoc(l:List Ty)(t:Ty):depthL (l++[t])=max (depthL l) t.depth:=by
 induction l with
 | nil=>simp[depthL]
 | cons a r ih=>rw[List.cons_append,depthL,depthL,ih];omega
theorem size_kids(t:Ty):t.size=sizeL (kids t)+1:=by
 cases t <;> rw[Ty.size,kids] <;> simp[sizeL] <;> omega
theorem sizeL_at(l:List Ty)(i:Nat)(h:i<l.length):l[i].size<=sizeL l:=by
 induction l generalizing i with
 | nil=>simp at h
 | cons a r ih =>
  rw[sizeL]
  cases i with
  | zero=>simp
  | succ i=>have:=ih i (by simpa using h);simp;omega
theorem sizeL_len(l:List Ty):l.length<=sizeL l:=by
 induction l with
 | nil=>simp
 | cons a r ih=>rw[sizeL,List.length_cons];have:=size_kids a;omega
theorem kid_size(t:Ty)(i:Nat)(h:i<(kids t).length):(kids t)[i].size<t.size:=by
 have:=sizeL_at _ i h
 rw[size_kids t];omega
theorem kids_len(t:Ty):(kids t).length<t.size:=by
 have:=sizeL_len (kids t)
 rw[size_kids t];omega
mutual
theorem depth_size:(t:Ty)->t.depth<=t.size
 | .var _=>by rw[Ty.depth,Ty.size];omega
 | .mt _=>by rw[Ty.depth,Ty.size];omega
 | .con _ l=>by rw[Ty.depth,Ty.size];have:=depth_sizeL l;omega
 | .fn a b=>by rw[Ty.depth,Ty.size];have:=depth_size a;have:=depth_size b;omega
 | .all _ t=>by rw[Ty.depth,Ty.size];have:=depth_size t;omega
theorem depth_sizeL:(l:List Ty)->depthL l<=sizeL l
 | []=>by rw[depthL];omega
 | t::r=>by rw[depthL,sizeL];have:=depth_size t;have:=depth_sizeL r;omega
end
theorem kid_cells {S:Nat->Prop} {w w':World} {t:Ty} {A:Option Addr} {i m:Nat}(h:Args S w t A)(hm:(kids t).length=m)(hi:i<m)(hk:∀g,S g->w'.heap[g]? = w.heap[g]?) :
  ∃g u K X Z A1 n1 c1,A=some ⟨g,0,none⟩/\S g/\w'.cell? ⟨g,i*4,none⟩=some (.int .i64 K)/\w'.cell? ⟨g,i*4+1,none⟩=some (.string X)/\w'.cell? ⟨g,i*4+2,none⟩=some (.int .i64 Z) /\
   w'.cell? ⟨g,i*4+3,none⟩=some (.slice A1 n1 c1)/\(kids t)[i]? = some u/\RdV S w' u (.agg #[.int .i64 K,.string X,.int .i64 Z,.slice A1 n1 c1])/\u.size<t.size:=by
 subst hm
 obtain⟨g,h1,h2,A1,c1,h3,h4⟩:=h.kid i hi
 obtain⟨e0,e1,e2,e3⟩:=h3.keep (hk g h2)
 exact⟨g,(kids t)[i],_,_,_,A1,_,c1,h1,h2,e0,e1,e2,e3,List.getElem?_eq_getElem hi,⟨A1,c1,rfl,h4.keep (λ_ h=>h) hk⟩,kid_size t i hi⟩
theorem RdV.parts {S:Nat->Prop} {w:World} {t:Ty} {v:Value}(h:RdV S w t v):∃K X Z A m c,v=.agg #[.int .i64 K,.string X,.int .i64 Z,.slice A m c]/\K=(kd t:Nat)/\X=nmB t/\Z=(nn t:Nat)/\(kids t).length=m/\Args S w t A:=by
 obtain⟨A,c,rfl,ha⟩:=h
 exact⟨_,_,_,A,_,c,rfl,rfl,rfl,rfl,rfl,ha⟩
theorem depth_take(l:List Ty)(i a:Nat)(u:Ty)(h:Hid (depthL (l.take i)=a))(hu:l[i]? = some u):depthL (l.take (i+1))=max a u.depth:=by
 obtain⟨hi,e⟩:=List.getElem?_eq_some_iff.1 hu
 rw[take_snoc l i hi,depthL_snoc,e,h.out]
def RPost(ts:List Tok)(i:Nat)(w:World)(o:Option (Ty × List Tok))(e:Ending)(w':World):Prop :=
 Below w.heap.size w w'/\∃K X Z A m c,
  ((o=none/\e=.returned (.tuple #[.agg #[.int .i64 K,.string X,.int .i64 Z,.slice A m c],.int .i64 (-1)])) \/
   (∃t k,i<k/\k<=ts.length/\o=some (t,ts.drop k)/\e=.returned (.tuple #[.agg #[.int .i64 K,.string X,.int .i64 Z,.slice A m c],.int .i64 (k:Nat)]) /\
    RdV (λg=>w.heap.size<=g/\g<w'.heap.size) w' t (.agg #[.int .i64 K,.string X,.int .i64 Z,.slice A m c])))
theorem RdT.lt {w:World} {ts:List Tok} {g n c:Nat}(h:RdT w (.slice (some ⟨g,0,none⟩) n c) ts)(hn:0<ts.length):g<w.heap.size:=by
 obtain⟨A,c',hv,hp⟩:=h
 obtain⟨g',hA,hg,_⟩:=hp hn
 injection hv with e _ _
 rw[hA]at e
 injection e with e
 injection e with e _ _
 omega
theorem drop_tok(ts:List Tok)(i:Nat)(h:i<ts.length):ts.drop i=ts[i]::ts.drop (i+1):=List.drop_eq_getElem_cons h
theorem rpost_none(ts:List Tok)(i:Nat)(w w':World)(o:Option (Ty × List Tok))(e:Ending)(K:Int)(X:ByteArray)(Z:Int)(A:Option Addr)(m c:Nat)(hb:Below w.heap.size w w')(ho:o=none)
  (he:e=.returned (.tuple #[.agg #[.int .i64 K,.string X,.int .i64 Z,.slice A m c],.int .i64 (-1)])):RPost ts i w o e w' :=
 ⟨hb,K,X,Z,A,m,c,.inl ⟨ho,he⟩⟩
theorem rpost_some(ts:List Tok)(i:Nat)(w w':World)(o:Option (Ty × List Tok))(e:Ending)(K:Int)(X:ByteArray)(Z:Int)(A:Option Addr)(m c:Nat)(t:Ty)(k:Nat)(hb:Below w.heap.size w w')(hk:i<k)(hkn:k<=ts.length)(ho:o=some (t,ts.drop k))
  (he:e=.returned (.tuple #[.agg #[.int .i64 K,.string X,.int .i64 Z,.slice A m c],.int .i64 (k:Nat)]))
  (hr:RdV (λg=>w.heap.size<=g/\g<w'.heap.size) w' t (.agg #[.int .i64 K,.string X,.int .i64 Z,.slice A m c])):RPost ts i w o e w' :=
 ⟨hb,K,X,Z,A,m,c,.inr ⟨t,k,hk,hkn,ho,he,hr⟩⟩
theorem results_ct {P:Program} {fn:Func} {p u:Tmp} {ty:TypeId}(h:fn.results=#[.cell p ty,.tmp u])(tmps:Array Value)(w:World)(g:Nat)(t:TypeId)(cs:Array Value)(fr:Nat × Nat)(d:TypeDesc)
  (hp:tmps.getD p undef=.pointer (some ⟨g,0,none⟩))(hg:w.heap[g]? = some (.cells cs t fr))
  (hu:P.underlying ty=some d)(hd:(match d with|.struct _|.array _ _=>true|_=>false)=true)(hi:(P.info? ty).map (·.size)=some cs.size) :
  (results fn tmps).run P w=.ok (.tuple #[.agg cs,tmps.getD u undef]) w:=by
 have hp':tmps[p]?.getD undef=.pointer (some ⟨g,0,none⟩):=by simpa using hp
 simp[results,h,hp',asAddr,run_loadVar_row w g t ty cs fr d hg hu hd hi]
theorem blk_set4 {w:World} {g:Nat} {t:TypeId} {a0 a1 a2 a3:Value}(b0 b1 b2 b3:Value)(h:Blk w g t #[a0,a1,a2,a3]) :
  Blk ((((w.setCell ⟨g,0,none⟩ b0).setCell ⟨g,1,none⟩ b1).setCell ⟨g,2,none⟩ b2).setCell ⟨g,3,none⟩ b3) g t #[b0,b1,b2,b3]:=by
 have h1:=heap_setCell_same _ g 0 _ t b0 h
 have h2:=heap_setCell_same _ g 1 _ t b1 h1
 have h3:=heap_setCell_same _ g 2 _ t b2 h2
 have h4:=heap_setCell_same _ g 3 _ t b3 h3
 exact h4
theorem below_pre {w w':World} {o:Obj} {B:Nat}(h:Below (w.alloc o).heap.size (w.alloc o) w')(hB:B<=w.heap.size):Below B w w' :=
 ((Below.refl _ w).alloc hB o).trans (h.mono (by simp;omega))
theorem below_set4 {w w':World} {B g:Nat}(h:Below B w w')(b0 b1 b2 b3:Value)(hg:B<=g) :
  Below B w ((((w'.setCell ⟨g,0,none⟩ b0).setCell ⟨g,1,none⟩ b1).setCell ⟨g,2,none⟩ b2).setCell ⟨g,3,none⟩ b3) :=
 (((h.setCell (p:=⟨g,0,none⟩) hg _).setCell (p:=⟨g,1,none⟩) hg _).setCell (p:=⟨g,2,none⟩) hg _).setCell (p:=⟨g,3,none⟩) hg _
theorem blk_facts4 {w:World} {g:Nat} {t:TypeId} {a0 a1 a2 a3:Value}(h:Blk w g t #[a0,a1,a2,a3]) :
  w.cell? ⟨g,0,none⟩=some a0/\w.cell? ⟨g,1,none⟩=some a1/\w.cell? ⟨g,2,none⟩=some a2/\w.cell? ⟨g,3,none⟩=some a3 /\
   w.frozen? ⟨g,0,none⟩=false/\w.frozen? ⟨g,1,none⟩=false/\w.frozen? ⟨g,2,none⟩=false/\w.frozen? ⟨g,3,none⟩=false/\g<w.heap.size :=
 ⟨h.cell 0,h.cell 1,h.cell 2,h.cell 3,h.frozen 0,h.frozen 1,h.frozen 2,h.frozen 3,h.lt⟩
theorem eat_sign(ts:List Tok)(k:Nat)(X:List UInt8)(hX:X≠[]):eat (isSign · X) (ts.drop k)=if isAt ts k 6 X=true then some (ts.drop (k+1)) else none:=by
 by_cases h:k<ts.length
 ·rw[drop_tok ts k h,eat,isAt_at ts k 6 X h,isSign,beq_eq_false_iff_ne.2 hX,Bool.false_or]
 ·rw[List.drop_eq_nil_of_le (by omega),eat,isAt_end ts k 6 X (by omega),if_neg (by simp)]
theorem eat_key'(ts:List Tok)(k:Nat)(X:List UInt8)(hX:X≠[]):eat (isKey · X) (ts.drop k)=if isAt ts k 3 X=true then some (ts.drop (k+1)) else none:=by
 by_cases h:k<ts.length
 ·rw[drop_tok ts k h,eat,isAt_at ts k 3 X h,isKey,beq_eq_false_iff_ne.2 hX,Bool.false_or]
 ·rw[List.drop_eq_nil_of_le (by omega),eat,isAt_end ts k 3 X (by omega),if_neg (by simp)]
theorem isAt_lt(ts:List Tok)(k K:Nat)(X:List UInt8)(h:isAt ts k K X=true):k<ts.length:=by
 refine Nat.lt_of_not_le λhl=>?_
 rw[isAt_end ts k K X hl]at h
 exact absurd h (by simp)
theorem good_meta(t:Tok)(h:Lx.Good t)(hk:t.kind=5):(∀d∈t.text.drop 1,isDig d=true)/\(t.text.drop 1).length<=6/\1<=t.text.length:=by
 obtain⟨h1,h2,_⟩:=h
 rw[hk]at h2
 cases hx:t.text with
 | nil=>exact absurd hx h1
 | cons c r =>
  rw[hx]at h2
  show(∀d∈r,isDig d=true)/\r.length<=6/\_
  rw[first]at h2
  split at h2
  ·exfalso
   unfold word at h2
   split at h2
   ·injection h2 with a _;omega
   ·injection h2 with a _
    unfold wordKind at a
    split at a
    ·omega
    ·split at a <;> omega
  ·split at h2
   ·exfalso
    rcases number_cases (c::r) with e|⟨e,_,_⟩ <;> rw[e]at h2 <;> injection h2 with a _ <;> omega
   ·split at h2
    ·unfold meta_ at h2
     split at h2
     ·injection h2 with a _;omega
     ·rename_i hn
      injection h2 with _ b
      rw[show(c::r).drop 1=r from rfl]at b hn
      rcases number_cases r with e|⟨e,_,h6⟩
      ·rw[e]at hn;exact absurd rfl hn
      ·rw[e]at b
       simp at b
       have hs:span isDig r=r.length:=by omega
       exact⟨span_full isDig r hs,by omega,by simp⟩
    ·exfalso
     unfold sign at h2
     split at h2
     ·injection h2 with a _;omega
     ·split at h2
      ·injection h2 with a _;omega
      ·injection h2 with a _;omega
theorem neq_int(m:Nat)(k:Int)(j:Nat)(hk:k=j)(h:¬m=j):((m:Int)==k)=false:=by subst hk;exact kF m j h
theorem args_none(f:Nat)(ts:List Tok)(k:Nat)(h:k<ts.length)(ha:atomic ts[k]=true)(ho:atom f (ts.drop k)=none):args (f+1) (ts.drop k)=none:=by
 rw[drop_tok ts k h]at ho ⊢
 rw[args]
 simp only[ha,if_true,ho]
theorem args_some(f:Nat)(ts:List Tok)(k:Nat)(h:k<ts.length)(ha:atomic ts[k]=true)(x:Ty)(r:List Tok)(ho:atom f (ts.drop k)=some (x,r)) :
  args (f+1) (ts.drop k)=(args f r).map λy=>(x::y.1,y.2):=by
 rw[drop_tok ts k h]at ho ⊢
 rw[args]
 simp only[ha,if_true,ho]
theorem args_stop(f:Nat)(ts:List Tok)(k:Nat)(h:∀h:k<ts.length,atomic ts[k]=false):args (f+1) (ts.drop k)=some ([],ts.drop k):=by
 by_cases hk:k<ts.length
 ·rw[drop_tok ts k hk,args]
  simp only[h hk,Bool.false_eq_true,if_false]
 ·rw[List.drop_eq_nil_of_le (by omega),args]
theorem heap_set4(w:World)(g:Nat)(b0 b1 b2 b3:Value)(k:Nat)(hk:k≠g):((((w.setCell ⟨g,0,none⟩ b0).setCell ⟨g,1,none⟩ b1).setCell ⟨g,2,none⟩ b2).setCell ⟨g,3,none⟩ b3).heap[k]? = w.heap[k]?:=by
 rw[Below.heap_setCell _ _ _ _ hk,Below.heap_setCell _ _ _ _ hk,Below.heap_setCell _ _ _ _ hk,Below.heap_setCell _ _ _ _ hk]
theorem RdT.cells {w:World} {ts:List Tok} {g n c:Nat}(h:RdT w (.slice (some ⟨g,0,none⟩) n c) ts)(k:Nat)(hk:k<ts.length) :
  w.cell? ⟨g,k*3,none⟩=some (.int .i64 (ts[k].kind:Nat))/\w.cell? ⟨g,k*3+1,none⟩=some (.string ⟨ts[k].text.toArray⟩):=by
 obtain⟨g',c',hv,h0,h1,_⟩:=h.at_ k hk
 injection hv with e _ _
 injection e with e
 injection e with e _ _
 subst e
 exact⟨h0,h1⟩
theorem atomic_ways(t:Tok)(X:ByteArray)(hX:(⟨t.text.toArray⟩:ByteArray)=X)(h:atomic t=true) :
  ((t.kind:Int)==1)=true\/(((t.kind:Int)==1)=false/\((t.kind:Int)==5)=true)\/(((t.kind:Int)==1)=false/\((t.kind:Int)==5)=false/\((t.kind:Int)==2)=true) \/
   (((t.kind:Int)==1)=false/\((t.kind:Int)==5)=false/\((t.kind:Int)==2)=false/\(X.toList==[40])=true):=by
 have hT:X.toList=t.text:=by rw[Lib.toList_data,<-hX]
 rw[hT]
 unfold atomic at h
 by_cases h1:t.kind=1
 ·exact .inl (kT _ 1 h1)
 ·have d1:=kF _ 1 h1
  by_cases h5:t.kind=5
  ·exact .inr (.inl ⟨d1,kT _ 5 h5⟩)
  ·have d5:=kF _ 5 h5
   by_cases h2:t.kind=2
   ·exact .inr (.inr (.inl ⟨d1,d5,kT _ 2 h2⟩))
   ·refine .inr (.inr (.inr ⟨d1,d5,kF _ 2 h2,?_⟩))
    simpa[h1,h2,h5] using h
theorem atomic_not(t:Tok)(X:ByteArray)(hX:(⟨t.text.toArray⟩:ByteArray)=X)(h:atomic t=false) :
  ((t.kind:Int)==1)=false/\((t.kind:Int)==5)=false/\((t.kind:Int)==2)=false/\(X.toList==[40])=false:=by
 have hT:X.toList=t.text:=by rw[Lib.toList_data,<-hX]
 rw[hT]
 unfold atomic at h
 simp only[Bool.or_eq_false_iff,beq_eq_false_iff_ne]at h
 exact⟨kF _ 1 h.1.1.1,kF _ 5 h.1.1.2,kF _ 2 h.1.2,beq_eq_false_iff_ne.2 h.2⟩
theorem own_shape {w:World} {base:Nat} {e:TypeId} {size n:Nat} {v:Value} {xs:List Value}(h:w.ownsRow base e size v n xs):∃a c,v=.slice a n c:=by
 rcases h.2 with⟨rfl,h0⟩|⟨g,cap,cur,rfl,_⟩
 ·exact⟨none,0,by rw[h0]⟩
 ·exact⟨_,_,rfl⟩
theorem app_step {o:Option (List Ty × List Tok)} {p:Option (List Ty × List Tok)} {done:List Ty} {x:Ty}(h:o=(p.map λy=>(x::y.1,y.2)).map λy=>(done++y.1,y.2)):o=p.map λy=>((done++[x])++y.1,y.2):=by
 rw[h]
 cases p with
 | none=>rfl
 | some y=>simp
theorem new_cells'(w:World)(cs:Array Value)(t:TypeId)(g:Nat)(hg:g=w.heap.size):∀j u,cs.toList[j]? = some u->(w.alloc (.cells cs t)).cell? ((⟨g,0,none⟩:Addr).add j)=some u:=by
 subst hg
 exact new_cells w cs t
theorem fn_cells {w':World} {t u:Ty} {S:Nat->Prop} {K1 K2 Z1 Z2:Int} {X1 X2:ByteArray} {A1 A2:Option Addr} {m1 m2 c1 c2 g c:Nat}
  (h1:RdV S w' t (.agg #[.int .i64 K1,.string X1,.int .i64 Z1,.slice A1 m1 c1]))(h2:RdV S w' u (.agg #[.int .i64 K2,.string X2,.int .i64 Z2,.slice A2 m2 c2]))
  (hg:S g)(hb:∀j v,[Value.int .i64 K1,.string X1,.int .i64 Z1,.slice A1 m1 c1,.int .i64 K2,.string X2,.int .i64 Z2,.slice A2 m2 c2][j]? = some v->w'.cell? ⟨g,j,none⟩=some v) :
  RdV S w' (.fn t u) (.agg #[.int .i64 4,.string ⟨#[]⟩,.int .i64 0,.slice (some ⟨g,0,none⟩) 2 c]):=by
 obtain⟨A,a,e1,r1⟩:=h1
 obtain⟨B,b,e2,r2⟩:=h2
 injection e1 with e1
 injection e2 with e2
 have e1:=congrArg Array.toList e1
 have e2:=congrArg Array.toList e2
 simp only[List.cons.injEq,Value.int.injEq,Value.string.injEq,Value.slice.injEq,and_true,true_and]at e1 e2
 obtain⟨rfl,rfl,rfl,rfl,rfl,rfl⟩:=e1
 obtain⟨rfl,rfl,rfl,rfl,rfl,rfl⟩:=e2
 refine⟨some ⟨g,0,none⟩,c,rfl,?_⟩
 rw[Args]
 exact⟨g,rfl,hg,⟨_,_,⟨hb 0 _ rfl,hb 1 _ rfl,hb 2 _ rfl,hb 3 _ rfl⟩,r1⟩,⟨_,_,⟨hb 4 _ rfl,hb 5 _ rfl,hb 6 _ rfl,hb 7 _ rfl⟩,r2⟩⟩
theorem add_zero_addr(g j:Nat):(⟨g,0,none⟩:Addr).add j=⟨g,j,none⟩:=by unfold Addr.add;split <;> simp_all
theorem read_arrow(f:Nat)(ts:List Tok)(i:Nat)(hq:isAt ts i 3 wForall=false):read (f+1) (ts.drop i)=match app f (ts.drop i) with
  | none=>none
  | some (a,r)=>match eat (isSign · [45,62]) r with|none=>some (a,r)|some r2=>(read f r2).map λx=>(.fn a x.1,x.2):=by
 rw[Tx.read,eat_key' ts i wForall (by simp[wForall]),hq]
 rfl
theorem vars_at(ts:List Tok)(m:Nat):∀p,p<=ts.length->ts.length-p<=m ->
  (∀d (hd:d<(vars (ts.drop p)).1.length),∃h:p+d<ts.length,ts[p+d].kind=1/\ts[p+d].text=(vars (ts.drop p)).1[d])/\p+(vars (ts.drop p)).1.length<=ts.length /\
   (vars (ts.drop p)).2=ts.drop (p+(vars (ts.drop p)).1.length)/\(∀h:p+(vars (ts.drop p)).1.length<ts.length,ts[p+(vars (ts.drop p)).1.length].kind≠1):=by
 induction m with
 | zero =>
  intro p hp hm
  have:ts.drop p=[]:=List.drop_eq_nil_of_le (by omega)
  rw[this]
  refine⟨λd hd=>by simp[vars]at hd,by simpa[vars] using hp,?_,λh=>by simp[vars]at h;omega⟩
  simp[vars,List.drop_eq_nil_of_le,show ts.length<=p by omega]
 | succ m ih =>
  intro p hp hm
  by_cases hlt:p<ts.length
  ·have hd:=drop_tok ts p hlt
   by_cases hk:ts[p].kind=1
   ·have hv:vars (ts.drop p)=(ts[p].text::(vars (ts.drop (p+1))).1,(vars (ts.drop (p+1))).2):=by rw[hd,vars,if_pos hk]
    obtain⟨i1,i2,i3,i4⟩:=ih (p+1) (by omega) (by omega)
    rw[hv]
    refine⟨λd hd=>?_,by simp;omega,?_,?_⟩
    ·cases d with
     | zero=>exact⟨hlt,hk,rfl⟩
     | succ d =>
      obtain⟨h,e1,e2⟩:=i1 d (by simpa using hd)
      have e:p+1+d=p+(d+1):=by omega
      exact⟨by omega,by simpa[e] using e1,by simpa[e] using e2⟩
    ·rw[i3]
     congr 1
     simp;omega
    ·have e:p+1+(vars (ts.drop (p+1))).1.length=p+((vars (ts.drop (p+1))).1.length+1):=by omega
     intro h
     have:=i4 (by simp at h;omega)
     simpa[e] using this
   ·have hv:vars (ts.drop p)=([],ts.drop p):=by
     rw[hd,vars,if_neg hk]
    rw[hv]
    exact⟨λd hd=>by simp at hd,by simpa using hp,rfl,λ_=>by simpa using hk⟩
  ·have:ts.drop p=[]:=List.drop_eq_nil_of_le (by omega)
   rw[this]
   refine⟨λd hd=>by simp[vars]at hd,by simpa[vars] using hp,?_,λh=>by simp[vars]at h;omega⟩
   simp[vars,List.drop_eq_nil_of_le,show ts.length<=p by omega]
theorem read_all(f:Nat)(ts:List Tok)(i:Nat)(hq:isAt ts i 3 wForall=true)(V:List (List UInt8))(hV:(vars (ts.drop (i+1))).1=V)(hV2:(vars (ts.drop (i+1))).2=ts.drop (i+1+V.length)) :
  read (f+1) (ts.drop i)=if V=[] then none else if isAt ts (i+1+V.length) 6 [46]=true then(read f (ts.drop (i+1+V.length+1))).map λx=>(alls V x.1,x.2) else none:=by
 rw[Tx.read,eat_key' ts i wForall (by simp[wForall]),hq]
 simp only[if_true,hV,hV2]
 split
 ·rfl
 ·rw[eat_sign _ _ _ (by simp)]
  by_cases h:isAt ts (i+1+V.length) 6 [46]=true
  ·simp[h]
  ·simp[h]
theorem all_cells {w':World} {x:List UInt8} {t:Ty} {S S':Nat->Prop} {w:World} {K1 Z1:Int} {X1 Y:ByteArray} {A1:Option Addr} {m1 c1 g c:Nat}(hx:Y=⟨x.toArray⟩)
  (h1:RdV S w t (.agg #[.int .i64 K1,.string X1,.int .i64 Z1,.slice A1 m1 c1]))(hS:∀g,S g->S' g)(hk:∀g,S g->w'.heap[g]? = w.heap[g]?)
  (hg:S' g)(hb:∀j v,[Value.int .i64 K1,.string X1,.int .i64 Z1,.slice A1 m1 c1][j]? = some v->w'.cell? ⟨g,j,none⟩=some v) :
  RdV S' w' (.all x t) (.agg #[.int .i64 5,.string Y,.int .i64 0,.slice (some ⟨g,0,none⟩) 1 c]):=by
 obtain⟨A,a,e1,r1⟩:=h1
 injection e1 with e1
 have e1:=congrArg Array.toList e1
 simp only[List.cons.injEq,Value.int.injEq,Value.string.injEq,Value.slice.injEq,and_true,true_and]at e1
 obtain⟨rfl,rfl,rfl,rfl,rfl,rfl⟩:=e1
 subst hx
 refine⟨some ⟨g,0,none⟩,c,rfl,?_⟩
 rw[Args]
 exact⟨g,rfl,hg,_,_,⟨hb 0 _ rfl,hb 1 _ rfl,hb 2 _ rfl,hb 3 _ rfl⟩,Args.keep hS hk t _ r1⟩
theorem blk_far4 {w:World} {g g':Nat} {t:TypeId} {cs:Array Value} {b0 b1 b2 b3:Value}(hg:g≠g')(h:Blk w g t cs) :
  Blk ((((w.setCell ⟨g',0,none⟩ b0).setCell ⟨g',1,none⟩ b1).setCell ⟨g',2,none⟩ b2).setCell ⟨g',3,none⟩ b3) g t cs :=
 (((h.far (p:=⟨g',0,none⟩) hg _).far (p:=⟨g',1,none⟩) hg _).far (p:=⟨g',2,none⟩) hg _).far (p:=⟨g',3,none⟩) hg _
theorem alls_step(V:List (List UInt8))(d:Nat)(t:Ty)(h:d<V.length):alls (V.drop d) t=.all (V.getD d []) (alls (V.drop (d+1)) t):=by
 rw[List.drop_eq_getElem_cons h,alls,List.foldr_cons,List.getD_eq_getElem?_getD,List.getElem?_eq_getElem h]
 rfl
end Go.Proofs.YtknkclefoiohpaaGreatDoor

namespace Go.Proofs.YtknkclefoiohpaaGreatDoor
open Go.RowKit Lx Tx
theorem scan_good(s:List UInt8)(ts:List Tok)(a:Nat)(h:scanS s=(ts,a,0)):AllG ts/\ts.length<=4000:=by
 have hl:s.length<=4000:=by
  rcases Nat.lt_or_ge 4000 s.length with h4|h4
  ·unfold scanS at h;rw[if_pos h4]at h;injection h with _ h;injection h with _ h;omega
  ·exact h4
 have hx:lex s=.ok ts:=by
  unfold scanS at h
  rw[if_neg (by omega)]at h
  cases hl:lex s with
  | error a=>rw[hl]at h;injection h with _ h;injection h with _ h;omega
  | ok us=>rw[hl]at h;injection h with h _;rw[h]
 refine⟨λt ht=>good_lex s ts hx t ht,?_⟩
 have hc:=lex_cov s ts hx
 have key:∀(ts:List Tok) (f:Nat),Cov s f ts->f+ts.length<=s.length:=by
  intro ts
  induction ts with
  | nil=>intro f h;exact h.1
  | cons x r ih =>
   intro f h
   obtain⟨h1,h2,_,_,_,_,h7⟩:=h
   have:=ih _ h7
   have:0<x.text.length:=List.length_pos_iff.2 h2
   simp only[List.length_cons]
   omega
 have:=key ts 0 hc
 omega
theorem neqT(a b:Int)(h:¬a=b):(a != b)=true:=by simpa using h
end Go.Proofs.YtknkclefoiohpaaGreatDoor
