import Derived.Test.YtfafilmklhnngaaGreatDoorBsK
import Derived.Laws.StructEq
set_option maxHeartbeats 12800000
set_option maxRecDepth 100000
namespace Go.Proofs.YtfafilmklhnngaaGreatDoor
section
open Go.RowKit Lx
def GJ(w:World)(v:Value)(ts:List Tok):Prop :=
 ∃A c,v=.slice A ts.length c/\(0<ts.length->∃g,A=some ⟨g,0,none⟩/\g<w.heap.size/\∀j u,(JR ts)[j]?=some u->w.cell? ⟨g,j,none⟩=some u)
theorem GJ.Jy {w:World} {base:Nat} {v:Value} {ts:List Tok} {e:TypeId}(h:w.ownsRow base e 3 v ts.length (JR ts)):GJ w v ts:=by
 have hc:=λg hg=>h.cells (g:=g) hg;have af:=h.lt;rcases h.2 with⟨rfl,h0⟩|⟨g,cap,cur,rfl,_⟩
 ·exact⟨none,0,by rw[h0],λhp=>by omega⟩
 ·refine⟨_,_,rfl,λ_=>⟨g,rfl,(af g rfl).2,λj u hu=>?_⟩⟩
  have aN:(⟨g,0,none⟩:Addr).add j=⟨g,j,none⟩:=by unfold Addr.add;split <;> simp_all
  have:=hc g rfl j u hu;rwa [aN]at this
theorem GJ.al {w w':World} {v:Value} {ts:List Tok}(h:GJ w v ts)(hs:w.heap.size<=w'.heap.size)(hk:∀k,k<w.heap.size->w'.heap[k]?=w.heap[k]?):GJ w' v ts:=by
 obtain⟨A,c,hv,hp⟩:=h;refine⟨A,c,hv,λh0=>?_⟩;obtain⟨g,hA,hg,hc⟩:=hp h0;exact⟨g,hA,by omega,λj u hu=>by rw[Ck (w:=w) (hk g hg)];exact hc j u hu⟩
theorem GJ.below {w w':World} {v:Value} {ts:List Tok}(h:GJ w v ts)(hb:Below w.heap.size w w'):GJ w' v ts:=h.al hb.size hb.block
theorem GJ.alloc {w:World} {v:Value} {ts:List Tok}(h:GJ w v ts)(o:Obj):GJ (w.alloc o) v ts:=h.al (by simp) (λk hk=>BX w o k hk)
theorem GJ.at_ {w:World} {v:Value} {ts:List Tok}(h:GJ w v ts)(k:Nat)(hk:k<ts.length):∃g c,v=.slice (some ⟨g,0,none⟩) ts.length c/\w.cell? ⟨g,k*3,none⟩=some (.int .i64 (ts[k].kind:Nat))/\w.cell? ⟨g,k*3+1,none⟩=some (.string ⟨ts[k].text.toArray⟩)/\w.cell? ⟨g,k*3+2,none⟩=some (.int .i64 (ts[k].at_:Nat)):=by
 obtain⟨A,c,hv,hp⟩:=h;obtain⟨g,rfl,_,hc⟩:=hp (by omega);have key:∀(ts:List Tok) (k:Nat) (hk:k<ts.length) (j:Nat),j<3->(JR ts)[k*3+j]? =(Ks ts[k])[j]?:=by
  intro ts;induction ts with
  |nil=>intro k hk;simp at hk
  |cons t r ih =>
   intro k hk j hj;have hl:(Ks t).length=3:=rfl;show(Ks t++JR r)[k*3+j]?=_;cases k with
   |zero=>rw[Nat.zero_mul,Dm,DK (by omega)];rfl
   |succ k =>
    rw[Db (by omega),hl,show(k+1)*3+j-3=k*3+j by omega,ih k (by simpa using hk) j hj];rfl
 exact⟨g,c,hv,hc _ _ ((key ts k hk 0 (by omega)).trans rfl),hc _ _ ((key ts k hk 1 (by omega)).trans rfl),hc _ _ ((key ts k hk 2 (by omega)).trans rfl)⟩
theorem Hf {B:Nat} {w w1 w2:World}(h:Below B w w1)(k:Below w1.heap.size w1 w2)(hB:B<=w.heap.size):Below B w w2:=h.trans (k.mono (Cm hB h.size))
end
section
open Go.RowKit Lx Tx
set_option maxRecDepth 100000
theorem zoU(l:List (List UInt8)):(FQ l).length=l.length:=by simp[FQ]
theorem zkA(l:List (List UInt8))(k:Nat)(h:k<l.length):(FQ l)[k]?=some (.string ⟨l[k].toArray⟩):=by simp[FQ,BY h]
theorem zqI(l:List Nat)(k:Nat)(h:k<l.length):(Jo l)[k]?=some (.int .i64 (l[k]:Nat)):=by simp[Jo,BY h]
theorem YY(a b:ByteArray)(h:a=b):(a.toList==b.toList)=true:=by rw[h];simp
theorem YZ(a b:ByteArray)(h:¬a=b):(a.toList==b.toList)=false:=by
 rw[Cv];intro e;rw[CL,CL]at e;exact h (ByteArray.ext (by simpa using e))
def GL(ts:List Tok)(i K:Nat)(X:List UInt8):Bool:=(ts[i]?).any λt=>t.kind==K &&(X==[]||t.text==X)
theorem kT(a b:Nat)(h:a=b):((a:Int) ==(b:Int))=true:=by rw[h];simp
theorem kF(a b:Nat)(h:¬a=b):((a:Int) ==(b:Int))=false:=by
 rw[Cz];intro e;simp at e;omega
theorem Sv(ts:List Tok)(i K:Nat)(X:List UInt8)(h:ts.length<=i):GL ts i K X=false:=by simp[GL,DQ h]
theorem Qv(ts:List Tok)(i K:Nat)(X:List UInt8)(h:i<ts.length):GL ts i K X=(ts[i].kind==K &&(X==[]||ts[i].text==X)):=by simp[GL,BY h]
theorem OC {α:Type}(l:List α)(k:Nat)(h:k<l.length):l.take (k+1)=l.take k++[l[k]]:=CV h
theorem zgM(t:Ty):t.depth=Kl (kids t)+1:=by
 cases t <;> rw[Ty.depth,kids] <;> simp[Kl]
theorem zka(l:List Ty)(t:Ty):Kl (l++[t])=max (Kl l) t.depth:=by
 induction l with
 |nil=>simp[Kl]
 |cons a r ih=>rw[Co,Kl,Kl,ih];omega
theorem Gv(t:Ty):t.size=q_ (kids t)+1:=by
 cases t <;> rw[Ty.size,kids] <;> simp[q_] <;> omega
theorem zoV(l:List Ty)(i:Nat)(h:i<l.length):l[i].size<=q_ l:=by
 induction l generalizing i with
 |nil=>simp at h
 |cons a r ih =>
  rw[q_];cases i with
  |zero=>simp
  |succ i=>have:=ih i (by simpa using h);simp;omega
theorem zmP(l:List Ty):l.length<=q_ l:=by
 induction l with
 |nil=>simp
 |cons a r ih=>rw[q_,Ca];have:=Gv a;omega
theorem Vu(t:Ty)(i:Nat)(h:i<(kids t).length):(kids t)[i].size<t.size:=by
 have:=zoV _ i h;rw[Gv t];omega
theorem LF(t:Ty):(kids t).length<t.size:=by
 have:=zmP (kids t);rw[Gv t];omega
mutual
theorem P6:(t:Ty)->t.depth<=t.size
 |.var _=>by rw[Ty.depth,Ty.size];omega
 |.mt _=>by rw[Ty.depth,Ty.size];omega
 |.h_ _ l=>by rw[Ty.depth,Ty.size];have:=zf6 l;omega
 |.fn a b=>by rw[Ty.depth,Ty.size];have:=P6 a;have:=P6 b;omega
 |.all _ t=>by rw[Ty.depth,Ty.size];have:=P6 t;omega
theorem zf6:(l:List Ty)->Kl l<=q_ l
 |[]=>by rw[Kl];omega
 |t::r=>by rw[Kl,q_];have:=P6 t;have:=zf6 r;omega
end
theorem OB {S:Nat->Prop} {w w':World} {t:Ty} {A:Option Addr} {i m:Nat}(h:j_ S w t A)(hm:(kids t).length=m)(hi:i<m)(hk:∀g,S g->w'.heap[g]?=w.heap[g]?):∃g u K X Z A1 n1 c1,A=some ⟨g,0,none⟩/\S g/\w'.cell? ⟨g,i*4,none⟩=some (.int .i64 K)/\w'.cell? ⟨g,i*4+1,none⟩=some (.string X)/\w'.cell? ⟨g,i*4+2,none⟩=some (.int .i64 Z) /\
   w'.cell? ⟨g,i*4+3,none⟩=some (.slice A1 n1 c1)/\(kids t)[i]?=some u/\nc S w' u (.agg #[.int .i64 K,.string X,.int .i64 Z,.slice A1 n1 c1])/\u.size<t.size:=by
 subst hm;obtain⟨g,h1,h2,A1,c1,h3,h4⟩:=h.Hm i hi;obtain⟨e0,e1,e2,e3⟩:=h3.al (hk g h2);exact⟨g,(kids t)[i],_,_,_,A1,_,c1,h1,h2,e0,e1,e2,e3,BY hi,⟨A1,c1,rfl,h4.al (λ_ h=>h) hk⟩,Vu t i hi⟩
theorem nc.parts {S:Nat->Prop} {w:World} {t:Ty} {v:Value}(h:nc S w t v):∃K X Z A m c,v=.agg #[.int .i64 K,.string X,.int .i64 Z,.slice A m c]/\K=(kd t:Nat)/\X=ER t/\Z=(nn t:Nat)/\(kids t).length=m/\j_ S w t A:=by
 obtain⟨A,c,rfl,ha⟩:=h;exact⟨_,_,_,A,_,c,rfl,rfl,rfl,rfl,rfl,ha⟩
theorem zgN(l:List Ty)(i a:Nat)(u:Ty)(h:Hid (Kl (l.take i)=a))(hu:l[i]?=some u):Kl (l.take (i+1))=max a u.depth:=by
 obtain⟨hi,e⟩:=Cj.1 hu;rw[OC l i hi,zka,e,h.o]
def Gj(ts:List Tok)(i:Nat)(w:World)(o:Option (Ty × List Tok))(e:Ending)(w':World):Prop :=
 Below w.heap.size w w'/\∃K X Z A m c,
  ((o=none/\e=.returned (.tuple #[.agg #[.int .i64 K,.string X,.int .i64 Z,.slice A m c],.int .i64 (-1)])) \/
   (∃t k,i<k/\k<=ts.length/\o=some (t,ts.drop k)/\e=.returned (.tuple #[.agg #[.int .i64 K,.string X,.int .i64 Z,.slice A m c],.int .i64 (k:Nat)]) /\
    nc (λg=>w.heap.size<=g/\g<w'.heap.size) w' t (.agg #[.int .i64 K,.string X,.int .i64 Z,.slice A m c])))
theorem GJ.lt {w:World} {ts:List Tok} {g n c:Nat}(h:GJ w (.slice (some ⟨g,0,none⟩) n c) ts)(hn:0<ts.length):g<w.heap.size:=by
 obtain⟨A,c',hv,hp⟩:=h;obtain⟨g',hA,hg,_⟩:=hp hn;injection hv with e _ _;rw[hA]at e
 injection e with e;injection e with e _ _;omega
theorem M6(ts:List Tok)(i:Nat)(h:i<ts.length):ts.drop i=ts[i]::ts.drop (i+1):=DL h
theorem KU(ts:List Tok)(i:Nat)(w w':World)(o:Option (Ty × List Tok))(e:Ending)(K:Int)(X:ByteArray)(Z:Int)(A:Option Addr)(m c:Nat)(hb:Below w.heap.size w w')(ho:o=none)
  (he:e=.returned (.tuple #[.agg #[.int .i64 K,.string X,.int .i64 Z,.slice A m c],.int .i64 (-1)])):Gj ts i w o e w' :=
 ⟨hb,K,X,Z,A,m,c,.inl ⟨ho,he⟩⟩
theorem MJ(ts:List Tok)(i:Nat)(w w':World)(o:Option (Ty × List Tok))(e:Ending)(K:Int)(X:ByteArray)(Z:Int)(A:Option Addr)(m c:Nat)(t:Ty)(k:Nat)(hb:Below w.heap.size w w')(hk:i<k)(cA:k<=ts.length)(ho:o=some (t,ts.drop k))
  (he:e=.returned (.tuple #[.agg #[.int .i64 K,.string X,.int .i64 Z,.slice A m c],.int .i64 (k:Nat)]))
  (hr:nc (λg=>w.heap.size<=g/\g<w'.heap.size) w' t (.agg #[.int .i64 K,.string X,.int .i64 Z,.slice A m c])):Gj ts i w o e w' :=
 ⟨hb,K,X,Z,A,m,c,.inr ⟨t,k,hk,cA,ho,he,hr⟩⟩
theorem FC {P:Program} {fn:Func} {p u:Tmp} {ty:TypeId}(h:fn.results=#[.cell p ty,.tmp u])(tmps:Array Value)(w:World)(g:Nat)(t:TypeId)(cs:Array Value)(fr:Nat × Nat)(d:TypeDesc)
  (hp:tmps.getD p undef=.pointer (some ⟨g,0,none⟩))(hg:w.heap[g]?=some (.cells cs t fr))
  (hu:P.underlying ty=some d)(hd:(match d with|.struct _|.array _ _=>true|_=>false)=true)(hi:(P.info? ty).map (·.size)=some cs.size):(results fn tmps).run P w=.ok (.tuple #[.agg cs,tmps.getD u undef]) w:=by
 have bY:tmps[p]?.getD undef=.pointer (some ⟨g,0,none⟩):=by simpa using hp
 simp[results,h,bY,asAddr,run_loadVar_row w g t ty cs fr d hg hu hd hi]
theorem Fh {w:World} {g:Nat} {t:TypeId} {a0 a1 a2 a3:Value}(b0 b1 b2 b3:Value)(h:ar w g t #[a0,a1,a2,a3]):ar ((((w.setCell ⟨g,0,none⟩ b0).setCell ⟨g,1,none⟩ b1).setCell ⟨g,2,none⟩ b2).setCell ⟨g,3,none⟩ b3) g t #[b0,b1,b2,b3]:=by
 have h1:=Cl _ g 0 _ t b0 h;have h2:=Cl _ g 1 _ t b1 h1;have h3:=Cl _ g 2 _ t b2 h2;have h4:=Cl _ g 3 _ t b3 h3;exact h4
theorem J1 {w w':World} {o:Obj} {B:Nat}(h:Below (w.alloc o).heap.size (w.alloc o) w')(hB:B<=w.heap.size):Below B w w' :=
 ((Cc _ w).alloc hB o).trans (h.mono (by simp;omega))
theorem GH {w w':World} {B g:Nat}(h:Below B w w')(b0 b1 b2 b3:Value)(hg:B<=g):Below B w ((((w'.setCell ⟨g,0,none⟩ b0).setCell ⟨g,1,none⟩ b1).setCell ⟨g,2,none⟩ b2).setCell ⟨g,3,none⟩ b3) :=
 (((h.setCell (p:=⟨g,0,none⟩) hg _).setCell (p:=⟨g,1,none⟩) hg _).setCell (p:=⟨g,2,none⟩) hg _).setCell (p:=⟨g,3,none⟩) hg _
theorem n_ {w:World} {g:Nat} {t:TypeId} {a0 a1 a2 a3:Value}(h:ar w g t #[a0,a1,a2,a3]):w.cell? ⟨g,0,none⟩=some a0/\w.cell? ⟨g,1,none⟩=some a1/\w.cell? ⟨g,2,none⟩=some a2/\w.cell? ⟨g,3,none⟩=some a3 /\
   w.frozen? ⟨g,0,none⟩=false/\w.frozen? ⟨g,1,none⟩=false/\w.frozen? ⟨g,2,none⟩=false/\w.frozen? ⟨g,3,none⟩=false/\g<w.heap.size :=
 ⟨h.cell 0,h.cell 1,h.cell 2,h.cell 3,h.frozen 0,h.frozen 1,h.frozen 2,h.frozen 3,h.lt⟩
theorem QC(ts:List Tok)(k:Nat)(X:List UInt8)(hX:X≠[]):Ht (Ft · X) (ts.drop k)=if GL ts k 6 X=true then some (ts.drop (k+1)) else none:=by
 by_cases h:k<ts.length
 ·rw[M6 ts k h,Ht,Qv ts k 6 X h,Ft,Cv.2 hX,DI]
 ·rw[CH (by omega),Ht,Sv ts k 6 X (by omega),Cg (by simp)]
theorem zi5(ts:List Tok)(k:Nat)(X:List UInt8)(hX:X≠[]):Ht (isKey · X) (ts.drop k)=if GL ts k 3 X=true then some (ts.drop (k+1)) else none:=by
 by_cases h:k<ts.length
 ·rw[M6 ts k h,Ht,Qv ts k 3 X h,isKey,Cv.2 hX,DI]
 ·rw[CH (by omega),Ht,Sv ts k 3 X (by omega),Cg (by simp)]
theorem Qu(ts:List Tok)(k K:Nat)(X:List UInt8)(h:GL ts k K X=true):k<ts.length:=by
 refine Nat.lt_of_not_le λhl=>?_;rw[Sv ts k K X hl]at h
 exact absurd h (by simp)
theorem zhR(t:Tok)(h:Lx.Good t)(hk:t.kind=5):(∀d∈t.text.drop 1,f_ d=true)/\(t.text.drop 1).length<=6/\1<=t.text.length:=by
 obtain⟨h1,h2,_⟩:=h;rw[hk]at h2;cases hx:t.text with
 |nil=>exact absurd hx h1
 |cons c r =>
  rw[hx]at h2;show(∀d∈r,f_ d=true)/\r.length<=6/\_;rw[first]at h2;split at h2
  ·exfalso
   unfold word at h2;split at h2
   ·injection h2 with a _;omega
   ·injection h2 with a _
    unfold o_ at a;split at a
    ·omega
    ·split at a <;> omega
  ·split at h2
   ·exfalso
    rcases KV (c::r) with e|⟨e,_,_⟩ <;> rw[e]at h2 <;> injection h2 with a _ <;> omega
   ·split at h2
    ·unfold JZ at h2
     split at h2
     ·injection h2 with a _;omega
     ·rename_i hn
      injection h2 with _ b;rw[show(c::r).drop 1=r from rfl]at b hn
      rcases KV r with e|⟨e,_,h6⟩
      ·rw[e]at hn;exact absurd rfl hn
      ·rw[e]at b
       simp at b;have hs:span f_ r=r.length:=by omega
       exact⟨zif f_ r hs,by omega,by simp⟩
    ·exfalso
     unfold sign at h2;split at h2
     ·injection h2 with a _;omega
     ·split at h2
      ·injection h2 with a _;omega
      ·injection h2 with a _;omega
theorem NS(m:Nat)(k:Int)(j:Nat)(hk:k=j)(h:¬m=j):((m:Int)==k)=false:=by subst hk;exact kF m j h
theorem SV(f:Nat)(ts:List Tok)(k:Nat)(h:k<ts.length)(ha:atomic ts[k]=true)(ho:atom f (ts.drop k)=none):args (f+1) (ts.drop k)=none:=by
 rw[M6 ts k h]at ho ⊢;rw[args];simp only[ha,Ez,ho]
theorem SU(f:Nat)(ts:List Tok)(k:Nat)(h:k<ts.length)(ha:atomic ts[k]=true)(x:Ty)(r:List Tok)(ho:atom f (ts.drop k)=some (x,r)):args (f+1) (ts.drop k)=(args f r).map λy=>(x::y.1,y.2):=by
 rw[M6 ts k h]at ho ⊢;rw[args];simp only[ha,Ez,ho]
theorem zhS(f:Nat)(ts:List Tok)(k:Nat)(h:∀h:k<ts.length,atomic ts[k]=false):args (f+1) (ts.drop k)=some ([],ts.drop k):=by
 by_cases hk:k<ts.length
 ·rw[M6 ts k hk,args]
  simp only[h hk,Dg,D3]
 ·rw[CH (by omega),args]
theorem G3(w:World)(g:Nat)(b0 b1 b2 b3:Value)(k:Nat)(hk:k≠g):((((w.setCell ⟨g,0,none⟩ b0).setCell ⟨g,1,none⟩ b1).setCell ⟨g,2,none⟩ b2).setCell ⟨g,3,none⟩ b3).heap[k]?=w.heap[k]?:=by
 rw[B8 _ _ _ _ hk,B8 _ _ _ _ hk,B8 _ _ _ _ hk,B8 _ _ _ _ hk]
theorem GJ.cells {w:World} {ts:List Tok} {g n c:Nat}(h:GJ w (.slice (some ⟨g,0,none⟩) n c) ts)(k:Nat)(hk:k<ts.length):w.cell? ⟨g,k*3,none⟩=some (.int .i64 (ts[k].kind:Nat))/\w.cell? ⟨g,k*3+1,none⟩=some (.string ⟨ts[k].text.toArray⟩):=by
 obtain⟨g',c',hv,h0,h1,_⟩:=h.at_ k hk;injection hv with e _ _;injection e with e;injection e with e _ _;subst e;exact⟨h0,h1⟩
theorem zkb(t:Tok)(X:ByteArray)(hX:(⟨t.text.toArray⟩:ByteArray)=X)(h:atomic t=true):((t.kind:Int)==1)=true\/(((t.kind:Int)==1)=false/\((t.kind:Int)==5)=true)\/(((t.kind:Int)==1)=false/\((t.kind:Int)==5)=false/\((t.kind:Int)==2)=true) \/
   (((t.kind:Int)==1)=false/\((t.kind:Int)==5)=false/\((t.kind:Int)==2)=false/\(X.toList==[40])=true):=by
 have hT:X.toList=t.text:=by rw[CL,<-hX]
 rw[hT];unfold atomic at h;by_cases h1:t.kind=1
 ·exact .inl (kT _ 1 h1)
 ·have d1:=kF _ 1 h1
  by_cases h5:t.kind=5
  ·exact .inr (.inl ⟨d1,kT _ 5 h5⟩)
  ·have d5:=kF _ 5 h5
   by_cases h2:t.kind=2
   ·exact .inr (.inr (.inl ⟨d1,d5,kT _ 2 h2⟩))
   ·refine .inr (.inr (.inr ⟨d1,d5,kF _ 2 h2,?_⟩))
    simpa[h1,h2,h5] using h
theorem zls(t:Tok)(X:ByteArray)(hX:(⟨t.text.toArray⟩:ByteArray)=X)(h:atomic t=false):((t.kind:Int)==1)=false/\((t.kind:Int)==5)=false/\((t.kind:Int)==2)=false/\(X.toList==[40])=false:=by
 have hT:X.toList=t.text:=by rw[CL,<-hX]
 rw[hT];unfold atomic at h;simp only[DV,Cv]at h;exact⟨kF _ 1 h.1.1.1,kF _ 5 h.1.1.2,kF _ 2 h.1.2,Cv.2 h.2⟩
theorem GS {w:World} {base:Nat} {e:TypeId} {size n:Nat} {v:Value} {xs:List Value}(h:w.ownsRow base e size v n xs):∃a c,v=.slice a n c:=by
 rcases h.2 with⟨rfl,h0⟩|⟨g,cap,cur,rfl,_⟩
 ·exact⟨none,0,by rw[h0]⟩
 ·exact⟨_,_,rfl⟩
theorem QB {o:Option (List Ty × List Tok)} {p:Option (List Ty × List Tok)} {done:List Ty} {x:Ty}(h:o=(p.map λy=>(x::y.1,y.2)).map λy=>(done++y.1,y.2)):o=p.map λy=>((done++[x])++y.1,y.2):=by
 rw[h];cases p with
 |none=>rfl
 |some y=>simp
theorem Iz(w:World)(cs:Array Value)(t:TypeId)(g:Nat)(hg:g=w.heap.size):∀j u,cs.toList[j]?=some u->(w.alloc (.cells cs t)).cell? ((⟨g,0,none⟩:Addr).add j)=some u:=by
 subst hg;exact VG w cs t
theorem zi6 {w':World} {t u:Ty} {S:Nat->Prop} {K1 K2 Z1 Z2:Int} {X1 X2:ByteArray} {A1 A2:Option Addr} {m1 m2 c1 c2 g c:Nat}
  (h1:nc S w' t (.agg #[.int .i64 K1,.string X1,.int .i64 Z1,.slice A1 m1 c1]))(h2:nc S w' u (.agg #[.int .i64 K2,.string X2,.int .i64 Z2,.slice A2 m2 c2]))
  (hg:S g)(hb:∀j v,[Value.int .i64 K1,.string X1,.int .i64 Z1,.slice A1 m1 c1,.int .i64 K2,.string X2,.int .i64 Z2,.slice A2 m2 c2][j]?=some v->w'.cell? ⟨g,j,none⟩=some v):nc S w' (.fn t u) (.agg #[.int .i64 4,.string ⟨#[]⟩,.int .i64 0,.slice (some ⟨g,0,none⟩) 2 c]):=by
 obtain⟨A,a,e1,r1⟩:=h1;obtain⟨B,b,e2,r2⟩:=h2;injection e1 with e1;injection e2 with e2;have e1:=Cp Array.toList e1;have e2:=Cp Array.toList e2;simp only[DF,Value.int.injEq,Value.string.injEq,Value.slice.injEq,and_true,true_and]at e1 e2;obtain⟨rfl,rfl,rfl,rfl,rfl,rfl⟩:=e1;obtain⟨rfl,rfl,rfl,rfl,rfl,rfl⟩:=e2;refine⟨some ⟨g,0,none⟩,c,rfl,?_⟩;rw[j_]
 exact⟨g,rfl,hg,⟨_,_,⟨hb 0 _ rfl,hb 1 _ rfl,hb 2 _ rfl,hb 3 _ rfl⟩,r1⟩,⟨_,_,⟨hb 4 _ rfl,hb 5 _ rfl,hb 6 _ rfl,hb 7 _ rfl⟩,r2⟩⟩
theorem Q_(g j:Nat):(⟨g,0,none⟩:Addr).add j=⟨g,j,none⟩:=by unfold Addr.add;split <;> simp_all
theorem zlt(f:Nat)(ts:List Tok)(i:Nat)(hq:GL ts i 3 ub=false):read (f+1) (ts.drop i)=match app f (ts.drop i) with
  |none=>none
  |some (a,r)=>match Ht (Ft · [45,62]) r with|none=>some (a,r)|some r2=>(read f r2).map λx=>(.fn a x.1,x.2):=by
 rw[Tx.read,zi5 ts i ub (by simp[ub]),hq];rfl
theorem zqJ(ts:List Tok)(m:Nat):∀p,p<=ts.length->ts.length-p<=m ->
  (∀d (hd:d<(vars (ts.drop p)).1.length),∃h:p+d<ts.length,ts[p+d].kind=1/\ts[p+d].text=(vars (ts.drop p)).1[d])/\p+(vars (ts.drop p)).1.length<=ts.length /\
   (vars (ts.drop p)).2=ts.drop (p+(vars (ts.drop p)).1.length)/\(∀h:p+(vars (ts.drop p)).1.length<ts.length,ts[p+(vars (ts.drop p)).1.length].kind≠1):=by
 induction m with
 |zero =>
  intro p hp hm;have:ts.drop p=[]:=CH (by omega);rw[this];refine⟨λd hd=>by simp[vars]at hd,by simpa[vars] using hp,?_,λh=>by simp[vars]at h;omega⟩;simp[vars,CH,show ts.length<=p by omega]
 |succ m ih =>
  intro p hp hm;by_cases af:p<ts.length
  ·have hd:=M6 ts p af
   by_cases hk:ts[p].kind=1
   ·have hv:vars (ts.drop p)=(ts[p].text::(vars (ts.drop (p+1))).1,(vars (ts.drop (p+1))).2):=by rw[hd,vars,Ch hk]
    obtain⟨i1,i2,i3,i4⟩:=ih (p+1) (by omega) (by omega);rw[hv];refine⟨λd hd=>?_,by simp;omega,?_,?_⟩
    ·cases d with
     |zero=>exact⟨af,hk,rfl⟩
     |succ d =>
      obtain⟨h,e1,e2⟩:=i1 d (by simpa using hd);have e:p+1+d=p+(d+1):=by omega
      exact⟨by omega,by simpa[e] using e1,by simpa[e] using e2⟩
    ·rw[i3]
     congr 1
     simp;omega
    ·have e:p+1+(vars (ts.drop (p+1))).1.length=p+((vars (ts.drop (p+1))).1.length+1):=by omega
     intro h;have:=i4 (by simp at h;omega);simpa[e] using this
   ·have hv:vars (ts.drop p)=([],ts.drop p):=by
     rw[hd,vars,Cg hk]
    rw[hv];exact⟨λd hd=>by simp at hd,by simpa using hp,rfl,λ_=>by simpa using hk⟩
  ·have:ts.drop p=[]:=CH (by omega)
   rw[this];refine⟨λd hd=>by simp[vars]at hd,by simpa[vars] using hp,?_,λh=>by simp[vars]at h;omega⟩;simp[vars,CH,show ts.length<=p by omega]
theorem zoW(f:Nat)(ts:List Tok)(i:Nat)(hq:GL ts i 3 ub=true)(V:List (List UInt8))(hV:(vars (ts.drop (i+1))).1=V)(hV2:(vars (ts.drop (i+1))).2=ts.drop (i+1+V.length)):read (f+1) (ts.drop i)=if V=[] then none else if GL ts (i+1+V.length) 6 [46]=true then(read f (ts.drop (i+1+V.length+1))).map λx=>(G5 V x.1,x.2) else none:=by
 rw[Tx.read,zi5 ts i ub (by simp[ub]),hq];simp only[Ez,hV,hV2];split
 ·rfl
 ·rw[QC _ _ _ (by simp)]
  by_cases h:GL ts (i+1+V.length) 6 [46]=true
  ·simp[h]
  ·simp[h]
theorem VF {w':World} {x:List UInt8} {t:Ty} {S S':Nat->Prop} {w:World} {K1 Z1:Int} {X1 Y:ByteArray} {A1:Option Addr} {m1 c1 g c:Nat}(hx:Y=⟨x.toArray⟩)
  (h1:nc S w t (.agg #[.int .i64 K1,.string X1,.int .i64 Z1,.slice A1 m1 c1]))(hS:∀g,S g->S' g)(hk:∀g,S g->w'.heap[g]?=w.heap[g]?)
  (hg:S' g)(hb:∀j v,[Value.int .i64 K1,.string X1,.int .i64 Z1,.slice A1 m1 c1][j]?=some v->w'.cell? ⟨g,j,none⟩=some v):nc S' w' (.all x t) (.agg #[.int .i64 5,.string Y,.int .i64 0,.slice (some ⟨g,0,none⟩) 1 c]):=by
 obtain⟨A,a,e1,r1⟩:=h1;injection e1 with e1;have e1:=Cp Array.toList e1;simp only[DF,Value.int.injEq,Value.string.injEq,Value.slice.injEq,and_true,true_and]at e1;obtain⟨rfl,rfl,rfl,rfl,rfl,rfl⟩:=e1;subst hx;refine⟨some ⟨g,0,none⟩,c,rfl,?_⟩;rw[j_]
 exact⟨g,rfl,hg,_,_,⟨hb 0 _ rfl,hb 1 _ rfl,hb 2 _ rfl,hb 3 _ rfl⟩,j_.al hS hk t _ r1⟩
theorem Vt {w:World} {g g':Nat} {t:TypeId} {cs:Array Value} {b0 b1 b2 b3:Value}(hg:g≠g')(h:ar w g t cs):ar ((((w.setCell ⟨g',0,none⟩ b0).setCell ⟨g',1,none⟩ b1).setCell ⟨g',2,none⟩ b2).setCell ⟨g',3,none⟩ b3) g t cs :=
 (((h.I8 (p:=⟨g',0,none⟩) hg _).I8 (p:=⟨g',1,none⟩) hg _).I8 (p:=⟨g',2,none⟩) hg _).I8 (p:=⟨g',3,none⟩) hg _
theorem VE(V:List (List UInt8))(d:Nat)(t:Ty)(h:d<V.length):G5 (V.drop d) t=.all (V.getD d []) (G5 (V.drop (d+1)) t):=by
 rw[DL h,G5,List.foldr_cons,Du,BY h];rfl
theorem zhT(s:List UInt8)(ts:List Tok)(a:Nat)(h:JY s=(ts,a,0)):E_ ts/\ts.length<=4000:=by
 have hl:s.length<=4000:=by
  rcases Eb 4000 s.length with h4|h4
  ·unfold JY at h;rw[Ch h4]at h;injection h with _ h;injection h with _ h;omega
  ·exact h4
 have hx:lex s=.ok ts:=by
  unfold JY at h;rw[Cg (by omega)]at h;cases hl:lex s with
  |error a=>rw[hl]at h;injection h with _ h;injection h with _ h;omega
  |ok us=>rw[hl]at h;injection h with h _;rw[h]
 refine⟨λt ht=>ziM s ts hx t ht,?_⟩;have hc:=zkq s ts hx;have key:∀(ts:List Tok) (f:Nat),Rn s f ts->f+ts.length<=s.length:=by
  intro ts;induction ts with
  |nil=>intro f h;exact h.1
  |cons x r ih =>
   intro f h;obtain⟨h1,h2,_,_,_,_,h7⟩:=h;have:=ih _ h7;have:0<x.text.length:=List.length_pos_iff.2 h2;simp only[Ca];omega
 have:=key ts 0 hc;omega
theorem zhU(s:List UInt8)(ts:List Tok)(a er:Nat)(h:JY s=(ts,a,er))(he:er≠0):parse s=.error er:=by
 unfold parse;rw[h];split
 ·rename_i h';injection h' with _ h';injection h' with _ h';exact absurd h' he
 ·rename_i h';injection h' with _ h';injection h' with _ h';rw[h']
theorem SS(s:List UInt8)(ts:List Tok)(a:Nat)(h:JY s=(ts,a,0))(hr:∀t,read (FH ts) ts≠some (t,[])):parse s=.error 20:=by
 unfold parse;rw[h];show(match read (FH ts) ts with|some (t,[])=>if 50<t.depth then Except.error 3 else .ok t|_=>.error 20)=_;split
 ·rename_i t ht;exact absurd ht (hr t)
 ·rfl
theorem zgO(s:List UInt8)(ts:List Tok)(a:Nat)(t:Ty)(h:JY s=(ts,a,0))(hr:read (FH ts) ts=some (t,[])):parse s=if 50<t.depth then .error 3 else .ok t:=by
 unfold parse;rw[h];simp only[hr]
def Lz(s:List UInt8)(w:World)(e:Ending)(w':World):Prop :=
 Below w.heap.size w w'/\∃K X Z A m c,
  ((∃n,n≠0/\parse s=.error n/\e=.returned (.tuple #[.agg #[.int .i64 K,.string X,.int .i64 Z,.slice A m c],.int .i64 (n:Nat)])) \/
   (∃t,parse s=.ok t/\e=.returned (.tuple #[.agg #[.int .i64 K,.string X,.int .i64 Z,.slice A m c],.int .i64 0]) /\
    nc (λg=>w.heap.size<=g/\g<w'.heap.size) w' t (.agg #[.int .i64 K,.string X,.int .i64 Z,.slice A m c])))
theorem PO(s:List UInt8)(w w':World)(e:Ending)(n:Nat)(N:Int)(hb:Below w.heap.size w w')(h0:n≠0)(hp:parse s=.error n)(hN:N=n)
  (he:e=.returned (.tuple #[.agg #[.int .i64 0,.string ⟨#[]⟩,.int .i64 0,.slice none 0 0],.int .i64 N])):Lz s w e w' :=
 ⟨hb,0,⟨#[]⟩,0,none,0,0,.inl ⟨n,h0,hp,by rw[he,hN]⟩⟩
theorem Ng(a b:Int)(h:¬a=b):(a != b)=true:=by simpa using h
theorem Y1(a b:Int)(h:a=b):(a != b)=false:=by simp[h]
end
end Go.Proofs.YtfafilmklhnngaaGreatDoor
