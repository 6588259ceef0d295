import Derived.Test.YtaomnlcplmkokaaGreatDoorBiG
import Derived.Laws.IdiomStrings
import Derived.Deep.RegionWith
import Derived.Deep.RegionHeld3
import Derived.Deep.AppendLies
set_option maxHeartbeats 12800000
namespace Go.Proofs.YtaomnlcplmkokaaGreatDoor
open Go.RowKit Lx Tx
set_option maxRecDepth 100000
theorem zbB {a b:ByteArray}(h:a=b):Ending.returned (.string a)=.returned (.string b):=by rw[h]
theorem zoL(l:List UInt8)(b:UInt8):((⟨l.toArray⟩:ByteArray)++(⟨#[b]⟩:ByteArray))=⟨(l++[b]).toArray⟩:=by
 apply ByteArray.ext
 simp
theorem zlv(l:List Ty)(t:Ty):zaB (l++[t])=zaB l++(if t.big then 32::40::(t.print++[41]) else 32::t.print):=by
 induction l with
 |nil=>simp[zaB]
 |cons a r ih=>rw[List.cons_append,zaB,zaB,ih];simp
theorem zgM(l:List Ty)(i:Nat)(hi:i<l.length):zaB (l.take (i+1))=zaB (l.take i)++(if l[i].big then 32::40::(l[i].print++[41]) else 32::l[i].print):=by
 rw[zbj l i hi,zlv]
theorem zeY(l:List Ty)(i:Nat):(zaB (l.take i)).length<=(zaB l).length:=by
 induction l generalizing i with
 |nil=>simp
 |cons t r ih =>
  cases i with
  |zero=>simp[zaB]
  |succ i=>rw[List.take_succ_cons,zaB,zaB];have:=ih i;simp;omega
theorem zna(l:List Ty)(i:Nat)(hi:i<l.length):l[i].print.length<(zaB l).length:=by
 induction l generalizing i with
 |nil=>simp at hi
 |cons t r ih =>
  rw[zaB]
  cases i with
  |zero =>
   simp only[List.getElem_cons_zero,List.length_append];split
   ·simp;omega
   ·simp;omega
  |succ i=>have:=ih i (by simpa using hi);simp;omega
theorem zqB(t:Ty)(h:t.big=true):((kd t:Int)==4)=true\/(((kd t:Int)==4)=false/\((kd t:Int)==5)=true)\/(((kd t:Int)==4)=false/\((kd t:Int)==5)=false/\((kd t:Int)==3)=true/\0<(kids t).length):=by
 cases t with
 |var x=>simp[Ty.big]at h
 |mt n=>simp[Ty.big]at h
 |con c l =>
  cases l with
  |nil=>simp[Ty.big]at h
  |cons a r=>exact .inr (.inr ⟨rfl,rfl,rfl,by simp[kids]⟩)
 |fn a b=>exact .inl rfl
 |all x t=>exact .inr (.inl ⟨rfl,rfl⟩)
theorem znb(t:Ty)(h:t.big=false):((kd t:Int)==4)=false/\((kd t:Int)==5)=false/\(((kd t:Int)==3)=false\/(((kd t:Int)==3)=true/\(kids t).length=0)):=by
 cases t with
 |var x=>exact⟨rfl,rfl,.inl rfl⟩
 |mt n=>exact⟨rfl,rfl,.inl rfl⟩
 |con c l =>
  cases l with
  |nil=>exact⟨rfl,rfl,.inr ⟨rfl,rfl⟩⟩
  |cons a r=>simp[Ty.big]at h
 |fn a b=>simp[Ty.big]at h
 |all x t=>simp[Ty.big]at h
theorem zbu {t:Ty}(h:Nm t)(i:Nat)(hi:i<(kids t).length):Nm (kids t)[i]:=by
 cases h with
 |var x _=>simp[kids]at hi
 |mt n _=>simp[kids]at hi
 |con c l _ hl=>exact hl _ (List.getElem_mem hi)
 |fn a b ha hb =>
  match i,hi with
  |0,_=>exact ha
  |1,_=>exact hb
  |i+2,hi=>exact absurd hi (by simp[kids])
 |all x t _ ht =>
  match i,hi with
  |0,_=>exact ht
  |i+1,hi=>simp[kids]at hi
theorem zsH(l:List UInt8):((⟨#[63]⟩:ByteArray)++(⟨l.toArray⟩:ByteArray))=⟨(63::l).toArray⟩:=by
 apply ByteArray.ext
 simp
theorem zoM(a p:List UInt8):(⟨a.toArray⟩:ByteArray)++(⟨#[32]⟩:ByteArray)++(⟨p.toArray⟩:ByteArray)=⟨(a++32::p).toArray⟩:=by
 apply ByteArray.ext
 simp
theorem zrR(a p:List UInt8):(⟨a.toArray⟩:ByteArray)++(⟨#[32,40]⟩:ByteArray)++(⟨p.toArray⟩:ByteArray)++(⟨#[41]⟩:ByteArray)=⟨(a++32::40::(p++[41])).toArray⟩:=by
 apply ByteArray.ext
 simp
theorem zgt(l:List UInt8):(⟨l.toArray⟩:ByteArray).size=l.length:=rfl
theorem zdM {S:Nat->Prop} {w w':World} {t:Ty} {A:Option Addr} {i m:Nat}(h:Args S w t A)(hm:(kids t).length=m)(hi:i<m)(hk:∀g,S g->w'.heap[g]?=w.heap[g]?):∃g u K X Z A1 n1 c1,A=some ⟨g,0,none⟩/\S g/\w'.cell? ⟨g,i*4,none⟩=some (.int .i64 K)/\w'.cell? ⟨g,i*4+1,none⟩=some (.string X)/\w'.cell? ⟨g,i*4+2,none⟩=some (.int .i64 Z) /\
   w'.cell? ⟨g,i*4+3,none⟩=some (.slice A1 n1 c1)/\(∃hi:i<(kids t).length,(kids t)[i]=u)/\RdV S w' u (.agg #[.int .i64 K,.string X,.int .i64 Z,.slice A1 n1 c1])/\u.size<t.size/\K=(kd u:Nat)/\n1=(kids u).length:=by
 subst hm;obtain⟨g,h1,h2,A1,c1,h3,h4⟩:=h.kid i hi;obtain⟨e0,e1,e2,e3⟩:=h3.keep (hk g h2);exact⟨g,(kids t)[i],_,_,_,A1,_,c1,h1,h2,e0,e1,e2,e3,⟨hi,rfl⟩,⟨A1,c1,rfl,h4.keep (λ_ h=>h) hk⟩,zg7 t i hi,rfl,rfl⟩
theorem zrS(t:Ty)(h:t.isFA=true):((kd t:Int)==4)=true\/(((kd t:Int)==4)=false/\((kd t:Int)==5)=true):=by
 cases t with
 |var x=>simp[Ty.isFA]at h
 |mt n=>simp[Ty.isFA]at h
 |con c l=>simp[Ty.isFA]at h
 |fn a b=>exact .inl rfl
 |all x t=>exact .inr ⟨rfl,rfl⟩
theorem zsq(t:Ty)(h:t.isFA=false):((kd t:Int)==4)=false/\((kd t:Int)==5)=false:=by
 cases t with
 |var x=>exact⟨rfl,rfl⟩
 |mt n=>exact⟨rfl,rfl⟩
 |con c l=>exact⟨rfl,rfl⟩
 |fn a b=>simp[Ty.isFA]at h
 |all x t=>simp[Ty.isFA]at h
theorem zoN(p q:List UInt8):(⟨p.toArray⟩:ByteArray)++(⟨#[32,45,62,32]⟩:ByteArray)++(⟨q.toArray⟩:ByteArray)=⟨(p++[32,45,62,32]++q).toArray⟩:=by
 apply ByteArray.ext
 simp
theorem znc(p q:List UInt8):(⟨#[40]⟩:ByteArray)++(⟨p.toArray⟩:ByteArray)++(⟨#[41,32,45,62,32]⟩:ByteArray)++(⟨q.toArray⟩:ByteArray)=⟨(40::(p++[41])++[32,45,62,32]++q).toArray⟩:=by
 apply ByteArray.ext
 simp
theorem zcc {S:Nat->Prop} {w:World} {u:Ty} {A:Option Addr} {c g o:Nat}(h:Cell4 w u A c g o)(ha:Args S w u A):∃K X Z n,w.cell? ⟨g,o,none⟩=some (.int .i64 K)/\w.cell? ⟨g,o+1,none⟩=some (.string X)/\w.cell? ⟨g,o+2,none⟩=some (.int .i64 Z)/\w.cell? ⟨g,o+3,none⟩=some (.slice A n c) /\
   RdV S w u (.agg #[.int .i64 K,.string X,.int .i64 Z,.slice A n c])/\K=(kd u:Nat)/\n=(kids u).length :=
 ⟨_,_,_,_,h.1,h.2.1,h.2.2.1,h.2.2.2,⟨A,c,rfl,ha⟩,rfl,rfl⟩
theorem zrT(u:Ty)(h:¬ ∃y t,u=.all y t):((kd u:Int)==5)=false/\zaI u=[46,32]++u.print:=by
 refine⟨?_,zbX u (λy t e=>h ⟨y,t,e⟩)⟩;cases u with
 |all y t=>exact absurd ⟨y,t,rfl⟩ h
 |var x=>rfl
 |mt k=>rfl
 |con c l=>rfl
 |fn a b=>rfl
theorem zqC(a y:List UInt8)(X Y:ByteArray)(hX:X.data.toList=a)(hY:Y=⟨y.toArray⟩):(X++(⟨#[32]⟩:ByteArray)++Y).data.toList=a++32::y:=by
 subst hX hY;simp
theorem zqD(p:List UInt8)(X:ByteArray):X++(⟨#[46,32]⟩:ByteArray)++(⟨p.toArray⟩:ByteArray)=⟨(X.data.toList++([46,32]++p)).toArray⟩:=by
 apply ByteArray.ext
 simp
theorem zkI {S:Nat->Prop} {w:World} {y:List UInt8} {u:Ty} {K Z:Int} {X:ByteArray} {A:Option Addr} {m c:Nat}(h:RdV S w (.all y u) (.agg #[.int .i64 K,.string X,.int .i64 Z,.slice A m c])):K=5/\X=⟨y.toArray⟩/\m=1/\∃g,A=some ⟨g,0,none⟩/\S g/\∃K1 X1 Z1 A1 n1 c1,w.cell? ⟨g,0,none⟩=some (.int .i64 K1)/\w.cell? ⟨g,1,none⟩=some (.string X1)/\w.cell? ⟨g,2,none⟩=some (.int .i64 Z1)/\w.cell? ⟨g,3,none⟩=some (.slice A1 n1 c1) /\
   RdV S w u (.agg #[.int .i64 K1,.string X1,.int .i64 Z1,.slice A1 n1 c1]):=by
 obtain⟨A',c',hv,ha⟩:=h;injection hv with hv;have hv:=congrArg Array.toList hv;simp only[List.cons.injEq,Value.int.injEq,Value.string.injEq,Value.slice.injEq,and_true,true_and]at hv;obtain⟨rfl,rfl,rfl,rfl,rfl,rfl⟩:=hv;rw[Args]at ha
 obtain⟨g,rfl,hg,A1,c1,h1,r1⟩:=ha;obtain⟨K1,X1,Z1,n1,e0,e1,e2,e3,rd1,-,-⟩:=zcc h1 r1;exact⟨rfl,rfl,rfl,g,rfl,hg,K1,X1,Z1,A1,n1,c1,e0,e1,e2,e3,rd1⟩
theorem zrU {S:Nat->Prop} {w:World} {u:Ty} {K Z:Int} {X:ByteArray} {A:Option Addr} {m c:Nat}(h:RdV S w u (.agg #[.int .i64 K,.string X,.int .i64 Z,.slice A m c])):K=(kd u:Nat)/\m=(kids u).length:=by
 obtain⟨A',c',hv,ha⟩:=h;injection hv with hv;have hv:=congrArg Array.toList hv;simp only[List.cons.injEq,Value.int.injEq,Value.string.injEq,Value.slice.injEq,and_true,true_and]at hv;exact⟨hv.1,hv.2.2.2.2.1⟩
theorem zi8(t:Ty):t.poly=(decide (kd t=5)||za6 (kids t)):=by
 cases t <;> simp[Ty.poly,kd,kids,za6]
theorem zhN(l:List Ty)(t:Ty):za6 (l++[t])=(za6 l||t.poly):=by
 induction l with
 |nil=>simp[za6]
 |cons a r ih=>rw[List.cons_append,za6,za6,ih,Bool.or_assoc]
theorem znd(l:List Ty)(i:Nat)(u:Ty)(h:Hid (za6 (l.take i)=false))(hu:l[i]?=some u):za6 (l.take (i+1))=u.poly:=by
 obtain⟨hi,e⟩:=List.getElem?_eq_some_iff.1 hu;rw[zbj l i hi,zhN,e,h.out];simp
theorem zqE(l:List Ty)(i:Nat)(u:Ty)(hu:l[i]?=some u)(h:u.poly=true):za6 l=true:=by
 induction l generalizing i with
 |nil=>simp at hu
 |cons a r ih =>
  rw[za6]
  cases i with
  |zero=>simp at hu;rw[hu,h];rfl
  |succ i=>rw[ih i (by simpa using hu)];simp
def RowN(w:World)(v:Value)(l:List Value):Prop:=RowV w v l/\(l=[]->v=.slice none 0 0)
theorem RowN.below {w w':World} {v:Value} {l:List Value}(h:RowN w v l)(hb:Below w.heap.size w w'):RowN w' v l:=⟨h.1.below hb,h.2⟩
theorem RowN.nil(w:World):RowN w (.slice none 0 0) []:=⟨⟨none,0,rfl,λh=>by simp at h⟩,λ_=>rfl⟩
theorem RowN.of_own {w:World} {base n:Nat} {v:Value} {l:List Value} {e:TypeId}(h:w.ownsRow base e 1 v n l)(hn:l≠[]):RowN w v l:=⟨RowV.of_own h,λe=>absurd e hn⟩
theorem alloc_at(w:World)(o:Obj)(g:Nat)(hg:g=w.heap.size):(w.alloc o).heap[g]?=some o:=by
 subst hg;exact heap_alloc_new w o
theorem zae(w:World)(o:Obj)(g:Nat)(x:Obj)(h:w.heap[g]?=some x):(w.alloc o).heap[g]?=some x :=
 (Below.heap_alloc w o g (lt_of_block h)).trans h
theorem zba {w:World} {base b:Nat} {e:TypeId}(h:w.heap[b]?=some (.cells #[] e (0,0)))(hb:base<=b):w.ownsRow base e 1 (.slice (some ⟨b,0,none⟩) 0 0) 0 [] :=
 ⟨rfl,.inr ⟨b,0,#[],rfl,hb,h,Nat.le_refl _,by unfold maxLen;omega,rfl,rfl⟩⟩
theorem zet(l:List (List UInt8))(x:List UInt8):strV (l++[x])=strV l++[.string ⟨x.toArray⟩]:=by simp[strV]
theorem zcg(l:List (List UInt8)):∀u∈strV l,u.oneCell'=true:=by
 intro u hu;obtain⟨x,_,rfl⟩:=List.mem_map.1 hu;rfl
theorem zdy {w:World} {base n:Nat} {v:Value} {xs:List Value} {e:TypeId}(out:List (List UInt8))(x:List UInt8)(X:ByteArray)(h:w.ownsRow base e 1 v n xs)(hX:(⟨x.toArray⟩:ByteArray)=X)(hxs:xs=strV out++[.string X]):RowN w v (strV (out++[x])):=by
 rw[zet,hX,<-hxs]
 exact RowN.of_own h (by rw[hxs];simp)
def bnd(t:Ty)(b:List (List UInt8)):List (List UInt8) :=
 match t with
 |.all x _=>b++[x]
 |_=>b
theorem zdN(t:Ty)(b out:List (List UInt8))(h:∀x,t≠.var x):t.freeO b out=zaS (bnd t b) (kids t) out:=by
 cases t with
 |var x=>exact absurd rfl (h x)
 |mt n=>rw[Ty.freeO,kids,zaS]
 |con c l=>rw[Ty.freeO,kids];rfl
 |fn a c=>rw[Ty.freeO,kids,zaS,zaS,zaS];rfl
 |all x t=>rw[Ty.freeO,kids,zaS,zaS];rfl
theorem zlw(b:List (List UInt8))(l:List Ty)(t:Ty)(out:List (List UInt8)):zaS b (l++[t]) out=t.freeO b (zaS b l out):=by
 induction l generalizing out with
 |nil=>simp[zaS]
 |cons a r ih=>rw[List.cons_append,zaS,zaS,ih]
theorem zeH(b:List (List UInt8))(l:List Ty)(i:Nat)(u:Ty)(out o:List (List UInt8))(h:Hid (o=zaS b (l.take i) out))(hu:l[i]?=some u):u.freeO b o=zaS b (l.take (i+1)) out:=by
 obtain⟨hi,e⟩:=List.getElem?_eq_some_iff.1 hu;rw[zbj l i hi,zlw,e,h.out]
mutual
theorem zeu(b:List (List UInt8)):(t:Ty)->∀out,(t.freeO b out).length<=out.length+t.size
 |.var x,out=>by
  rw[Ty.freeO,Ty.size]
  split
  ·omega
  ·exact zk0 x out
 |.mt n,out=>by rw[Ty.freeO,Ty.size];omega
 |.con c l,out=>by rw[Ty.freeO,Ty.size];have:=zfp b l out;omega
 |.fn t u,out=>by rw[Ty.freeO,Ty.size];have:=zeu b t out;have:=zeu b u (t.freeO b out);omega
 |.all x t,out=>by rw[Ty.freeO,Ty.size];have:=zeu (b++[x]) t out;omega
theorem zfp(b:List (List UInt8)):(l:List Ty)->∀out,(zaS b l out).length<=out.length+zab l
 |[],out=>by rw[zaS,zab];omega
 |t::r,out=>by rw[zaS,zab];have:=zeu b t out;have:=zfp b r (t.freeO b out);omega
end
theorem zdO(l:List Ty)(i:Nat):zab (l.take i)+zab (l.drop i)=zab l:=by
 induction l generalizing i with
 |nil=>simp[zab]
 |cons t r ih =>
  cases i with
  |zero=>simp[zab]
  |succ i=>rw[List.take_succ_cons,List.drop_succ_cons,zab,zab];have:=ih i;omega
def FreePost(t:Ty)(b out:List (List UInt8))(w:World)(e:Ending)(w':World):Prop :=
 ∃v',e=.returned v'/\RowN w' v' (strV (t.freeO b out))/\Below w.heap.size w w'
theorem zoO(l:List Nat)(x:Nat):intV (l++[x])=intV l++[.int .i64 (x:Nat)]:=by simp[intV]
theorem zhO {w:World} {base n:Nat} {v:Value} {xs:List Value} {e:TypeId}(out:List Nat)(x:Nat)(h:w.ownsRow base e 1 v n xs)(hxs:xs=intV out++[.int .i64 (x:Nat)]):RowN w v (intV (out++[x])):=by
 rw[zoO,<-hxs]
 exact RowN.of_own h (by rw[hxs];simp)
theorem zqF(l:List Nat):∀u∈intV l,u.oneCell'=true:=by
 intro u hu;obtain⟨x,_,rfl⟩:=List.mem_map.1 hu;rfl
theorem zi9(w:World)(a b:Nat):w.drewN (a+b)=(w.drewN a).drewN b:=by
 unfold World.drewN;simp[Nat.add_assoc]
theorem zdn(t:Ty)(out:List Nat)(h:∀n,t≠.mt n):t.metasO out=zaO (kids t) out:=by
 cases t with
 |var x=>rw[Ty.metasO,kids,zaO]
 |mt n=>exact absurd rfl (h n)
 |con c l=>rw[Ty.metasO,kids]
 |fn a c=>rw[Ty.metasO,kids,zaO,zaO,zaO]
 |all x t=>rw[Ty.metasO,kids,zaO,zaO]
theorem zkJ(l:List Ty)(t:Ty)(out:List Nat):zaO (l++[t]) out=t.metasO (zaO l out):=by
 induction l generalizing out with
 |nil=>simp[zaO]
 |cons a r ih=>rw[List.cons_append,zaO,zaO,ih]
theorem zkK(l:List Ty)(i:Nat)(u:Ty)(out o:List Nat)(h:Hid (o=zaO (l.take i) out))(hu:l[i]?=some u):u.metasO o=zaO (l.take (i+1)) out:=by
 obtain⟨hi,e⟩:=List.getElem?_eq_some_iff.1 hu;rw[zbj l i hi,zkJ,e,h.out]
theorem zoP(x:Nat)(l:List Nat):(addN x l).length<=l.length+1:=by
 unfold addN;split <;> simp
mutual
theorem zdP:(t:Ty)->∀out,(t.metasO out).length<=out.length+t.size
 |.var x,out=>by rw[Ty.metasO,Ty.size];omega
 |.mt n,out=>by rw[Ty.metasO,Ty.size];exact zoP n out
 |.con c l,out=>by rw[Ty.metasO,Ty.size];have:=zeI l out;omega
 |.fn t u,out=>by rw[Ty.metasO,Ty.size];have:=zdP t out;have:=zdP u (t.metasO out);omega
 |.all x t,out=>by rw[Ty.metasO,Ty.size];have:=zdP t out;omega
theorem zeI:(l:List Ty)->∀out,(zaO l out).length<=out.length+zab l
 |[],out=>by rw[zaO,zab];omega
 |t::r,out=>by rw[zaO,zab];have:=zdP t out;have:=zeI r (t.metasO out);omega
end
def MetasPost(t:Ty)(out:List Nat)(w:World)(e:Ending)(w':World):Prop :=
 ∃v',e=.returned v'/\RowN w' v' (intV (t.metasO out))/\Below w.heap.size w w'
def NmV(w:World)(v:Value)(xs ys:List (List UInt8)):Prop:=∃F T,v=.agg #[F,T]/\RowN w F (strV xs.reverse)/\RowN w T (strV ys.reverse)
def NPost(o:Ty × Nat)(w:World)(e:Ending)(w':World):Prop :=
 Below w.heap.size w w'/\∃K X Z A m c,e=.returned (.tuple #[.agg #[.int .i64 K,.string X,.int .i64 Z,.slice A m c],.int .i64 (o.2:Nat)]) /\
  RdV (λg=>w.heap.size<=g/\g<w'.heap.size) w' o.1 (.agg #[.int .i64 K,.string X,.int .i64 Z,.slice A m c])
theorem zsr(x:List UInt8)(xs:List (List UInt8))(j:Nat)(hj:j<xs.length)(hn:x∉xs.take j)(he:xs[j]=x):idx x xs=some j:=by
 induction xs generalizing j with
 |nil=>simp at hj
 |cons y r ih =>
  cases j with
  |zero=>simp at he;rw[idx,if_pos he.symm]
  |succ j =>
   rw[List.take_succ_cons,List.mem_cons,not_or]at hn
   rw[idx,if_neg hn.1,ih j (by simpa using hj) hn.2 (by simpa using he)]
   rfl
end Go.Proofs.YtaomnlcplmkokaaGreatDoor
namespace Go.Proofs.YtaomnlcplmkokaaGreatDoor
open Go.RowKit Lx Tx
set_option maxRecDepth 100000
mutual
theorem zdV(c:UInt8)(but:List Name):(t:Ty)->∀xs ys k,(numb c but xs ys t k).2<=k+t.size*(but.length+2)
 |.var x,xs,ys,k=>by rw[numb];omega
 |.mt n,xs,ys,k=>by rw[numb];omega
 |.con d l,xs,ys,k=>by
  rw[numb,Ty.size]
  have:=zg4 c but l xs ys k;rw[Nat.add_mul]
  simp only;omega
 |.fn a b,xs,ys,k=>by
  rw[numb,Ty.size]
  have h1:=zdV c but a xs ys k;have h2:=zdV c but b xs ys (numb c but xs ys a k).2;rw[Nat.add_mul,Nat.add_mul]
  simp only;omega
 |.all x t,xs,ys,k=>by
  rw[numb,Ty.size]
  have h1:=(zfB c but (but.length+1) k).2;have h2:=zdV c but t (x::xs) (nm c (zal c but k)::ys) (zal c but k+1);have h3:zal c but k<=k+(but.length+1):=h1;rw[Nat.add_mul]
  simp only;omega
theorem zg4(c:UInt8)(but:List Name):(l:List Ty)->∀xs ys k,(zat c but xs ys l k).2<=k+zab l*(but.length+2)
 |[],xs,ys,k=>by rw[zat];omega
 |t::r,xs,ys,k=>by
  rw[zat,zab]
  have h1:=zdV c but t xs ys k;have h2:=zg4 c but r xs ys (numb c but xs ys t k).2;rw[Nat.add_mul]
  simp only;omega
end
theorem zmI(c:UInt8)(but xs ys:List Name)(l:List Ty)(t:Ty)(k:Nat):zat c but xs ys (l++[t]) k=((zat c but xs ys l k).1++[(numb c but xs ys t (zat c but xs ys l k).2).1],(numb c but xs ys t (zat c but xs ys l k).2).2):=by
 induction l generalizing k with
 |nil=>simp[zat]
 |cons a r ih=>rw[List.cons_append,zat,ih,zat];simp
theorem zhC(c:UInt8)(but xs ys:List Name)(l:List Ty)(i k:Nat)(u:Ty)(done:List Ty)(kk:Nat)(h:Hid (zat c but xs ys (l.take i) k=(done,kk)))(hu:l[i]?=some u):zat c but xs ys (l.take (i+1)) k=(done++[(numb c but xs ys u kk).1],(numb c but xs ys u kk).2):=by
 obtain⟨hi,e⟩:=List.getElem?_eq_some_iff.1 hu;rw[zbj l i hi,zmI,e,h.out]
theorem ziU {S:Nat->Prop} {w:World} {t:Ty} {K Z:Int} {X:ByteArray} {A:Option Addr} {m c:Nat}(hK:K=(kd t:Nat))(hX:X=nmB t)(hZ:Z=(nn t:Nat))(hm:m=(kids t).length)(ha:Args S w t A):RdV S w t (.agg #[.int .i64 K,.string X,.int .i64 Z,.slice A m c]):=by
 subst hK hX hZ hm;exact⟨A,c,rfl,ha⟩
mutual
theorem zbP(c:UInt8)(but:List Name):(t:Ty)->∀xs ys k,(numb c but xs ys t k).1.size=t.size
 |.var x,xs,ys,k=>by
  rw[numb]
  cases idx x xs <;> simp[Ty.size]
 |.mt n,xs,ys,k=>by rw[numb]
 |.con d l,xs,ys,k=>by rw[numb,Ty.size,Ty.size,zhD c but l]
 |.fn a b,xs,ys,k=>by rw[numb,Ty.size,Ty.size,zbP c but a,zbP c but b]
 |.all x t,xs,ys,k=>by rw[numb,Ty.size,Ty.size,zbP c but t]
theorem zhD(c:UInt8)(but:List Name):(l:List Ty)->∀xs ys k,zab (zat c but xs ys l k).1=zab l
 |[],xs,ys,k=>by rw[zat]
 |t::r,xs,ys,k=>by rw[zat,zab,zab,zbP c but t,zhD c but r]
end
end Go.Proofs.YtaomnlcplmkokaaGreatDoor
namespace Go.Proofs.YtaomnlcplmkokaaGreatDoor
open Go.RowKit Lx Tx
set_option maxRecDepth 100000
theorem zob(W:World)(x:Int)(b:UInt8)(hx:x=b.toNat):(convert 97 9 (.slice (some ⟨W.heap.size,0,none⟩) 1 1)).run Tryz.prog (W.alloc (.cells #[.int .u8 x] 5))=.ok (.string ⟨#[b]⟩) (W.alloc (.cells #[.int .u8 x] 5)):=by
 subst hx;refine run_convert_bytes_back (W.alloc (.cells #[.int .u8 (b.toNat:Int)] 5)) 97 9 5 ⟨W.heap.size,0,none⟩ 1 [b] Tryz.underlying97 Tryz.underlying5 Tryz.underlying9 ?_;intro j hj;simp at hj;subst hj;rw[show(⟨W.heap.size,0,none⟩:Addr).add 0=⟨W.heap.size,0,none⟩ from rfl,cell_of_row _ _ _ _ 5 (0,0) (heap_alloc_new _ _)]
 rfl
theorem zoc(W:World)(g:Nat)(x:Int)(b:UInt8)(hx:x=b.toNat)(hc:W.cell? ⟨g,0,none⟩=some (.int .u8 x)):(convert 97 9 (.slice (some ⟨g,0,none⟩) 1 1)).run Tryz.prog W=.ok (.string ⟨#[b]⟩) W:=by
 subst hx;refine run_convert_bytes_back W 97 9 5 ⟨g,0,none⟩ 1 [b] Tryz.underlying97 Tryz.underlying5 Tryz.underlying9 ?_;intro j hj;simp at hj;subst hj;rw[show(⟨g,0,none⟩:Addr).add 0=⟨g,0,none⟩ from rfl]
 exact hc
theorem zod(f:Nat):∀(n:Nat)(w:World),n<10 ^ f->n<10 ^ 18->1<=f->f<=20 ->
  Calls Tryz.prog 42 #[.int .i64 n] w λe w'=>e=.returned (.string ⟨(decF f n).toArray⟩)/\Below w.heap.size w w':=by
 induction f with
 |zero=>intro n w _ _ h;omega
 |succ f ih =>
  intro n w hn h18 _ hf20;by_cases h10:n<10
  ·have hconv:=λW=>zob W (48+(n:Int)) (digit n) (by rw[zcO];omega)
   have hd:=hidE (show decF (f+1) n=[digit n] by rw[decF,if_pos h10]);clear ih hn;go_enter Tryz.func42,Tryz.ntmps42
   go_wp2_with fail
   go_ret
   exact⟨zbB (by rw[hd.out]),(Below.refl _ _).alloc (Nat.le_refl _) _⟩
  ·obtain⟨m,hm⟩:∃m,n / 10=m:=⟨_,rfl⟩
   obtain⟨d,hd0⟩:∃d,n % 10=d:=⟨_,rfl⟩;have hd:=hidE (show decF (f+1) n=decF f m++[digit n] by rw[decF,if_neg h10,hm]);have hf:1<=f:=by
    rcases Nat.eq_zero_or_pos f with e|e
    ·subst e;simp at hn;omega
    ·exact e
   have hconv:=λW g=>zoc W g (48+(d:Int)) (digit n) (by rw[zcO,hd0];omega);have IH:=λw=>ih m w (by rw[Nat.pow_succ]at hn;omega) (by omega) hf (by omega);have hlen:(decF f m).length<=20:=zbK f 20 m (by omega) (by omega);obtain⟨D,hD⟩:∃D:ByteArray,⟨(decF f m).toArray⟩=D:=⟨_,rfl⟩;have hDz:D.size<=20:=by rw[<-hD];exact hlen
   rw[hD]at IH
   have HD:=hidE hD;have q1:IntKind.i64.wrap ((n:Int) / 10)=(m:Int):=by rw[IntWalk.i64_in _ (by omega)];omega
   have q2:(n:Int).tmod 10=(d:Int):=by rw[Int.tmod_eq_emod_of_nonneg (by omega)];omega
   have q3:IntKind.i64.wrap (48+(d:Int))=48+(d:Int):=IntWalk.i64_in _ (by omega);have q4:IntKind.u8.wrap (48+(d:Int))=48+(d:Int):=by simp[IntKind.wrap,IntKind.signed,IntKind.bits];omega
   have hd9:d<=9:=by omega
   clear ih hn hD hlen hm hd0;go_enter Tryz.func42,Tryz.ntmps42
   go_wp2_with fail
   go_region_with (go_at_call 42;(with_reducible refine(IH _).mono ?_);rintro e w1 ⟨rfl,b1⟩;have B1:=hidE b1;(try have hc:w1.cell? ⟨w.heap.size,0,none⟩=some (.int .u8 (48+(d:Int))):=(b1.cell (p:=⟨w.heap.size,0,none⟩) (by simp)).trans (cell_of_row _ _ _ _ _ _ (heap_alloc_new _ _)));clear b1)
   all_goals (go_wp2_with fail;go_ret)
   ·have B:Below w.heap.size w w1:=(Below.refl w.heap.size w).drew.trans B1.out
    exact⟨zbB (by rw[hd.out,<-HD.out,zoL]),B.alloc B.size _⟩
   all_goals
    have B:Below w.heap.size w w1:=((Below.refl w.heap.size w).alloc (Nat.le_refl _) _).drew.trans (B1.out.mono (by simp));exact⟨zbB (by rw[hd.out,<-HD.out,zoL]),B⟩
theorem zbo(n:Nat)(w:World)(h:n<10 ^ 18):Calls Tryz.prog 42 #[.int .i64 n] w λe w'=>e=.returned (.string ⟨(dec n).toArray⟩)/\Below w.heap.size w w' :=
 zod 20 n w (by omega) h (by omega) (by omega)
set_option maxRecDepth 100000
theorem zdc(v:Value)(l:List (List UInt8))(s:ByteArray)(w:World)(h:RowV w v (strV l))(hl:l.length<=1000000):Calls Tryz.prog 24 #[v,.string s] w λe w'=>e=.returned (.bool (decide (s.data.toList∈l)))/\w=w':=by
 obtain⟨A,c,rfl,hp⟩:=h;rw[zaJ]at *
 obtain⟨n,hn⟩:∃n,l.length=n:=⟨_,rfl⟩;rw[hn]at hl hp ⊢
 have HP:=hidE hp;obtain⟨R,hR⟩:∃R,decide (s.data.toList∈l)=R:=⟨_,rfl⟩;have HR:=hidE hR;have HN:=hidE hn;rw[hR]
 clear hp hR hn;go_enter Tryz.func24,Tryz.ntmps24
 go_wp2
 go_loopg [5] n (λgg v wr=>∃k:Nat,gg=n-k/\v=.int .i64 k/\wr=w/\k<=n/\Hid (s.data.toList∉l.take k))
 case atStart=>exact⟨0,rfl,rfl,rfl,by omega,hidE (by simp)⟩
 case round =>
  obtain⟨k,rfl,rfl,rfl,hk,hn⟩:=hrel;by_cases hlt:k<n
  ·obtain⟨g,rfl,_,hc⟩:=HP.out (by omega)
   have hck:=hc k _ (zcq l k (by rw[HN.out];exact hlt));clear hc;obtain⟨X,hX⟩:∃X:ByteArray,⟨(l[k]'(by rw[HN.out];exact hlt)).toArray⟩=X:=⟨_,rfl⟩;rw[hX]at hck
   have HX:=hidE hX;clear hX;by_cases he:X=s
   ·have hr:=hidE (show R=true by rw[<-HR.out,<-he,<-HX.out];simp)
    have dq:=strT X s he;clear he;go_wp2
    go_ret
    exact⟨zav hr.out.symm,rfl⟩
   ·have hr:=hidE (zfm _ l k (by rw[HN.out];exact hlt) hn (λe=>he (by rw[<-HX.out,e])))
    have dq:=strF X s he;clear he;go_wp2
    go_roundg (n-(k+1))
    case measure=>omega
    case rel=>exact⟨k+1,rfl,by go_num,rfl,by omega,hr⟩
  ·have hr:=hidE (show R=false by rw[<-HR.out];rw[List.take_of_length_le (by rw[HN.out];omega)]at hn;exact decide_eq_false hn.out)
   go_wp2
   go_ret
   exact⟨zav hr.out.symm,rfl⟩
theorem zdU(v:Value)(ts:List Tok)(i K:Nat)(X:ByteArray)(k:Int)(hkK:k=K)(w:World)(h:RdT w v ts):Calls Tryz.prog 84 #[v,.int .i64 i,.int .i64 k,.string X] w λe w'=>e=.returned (.bool (isAt ts i K X.data.toList))/\w=w':=by
 subst hkK;obtain⟨R,hR⟩:∃R,isAt ts i K X.data.toList=R:=⟨_,rfl⟩;rw[hR]
 by_cases hi:i<ts.length
 ·obtain⟨g,c,rfl,h0,h1,h2⟩:=h.at_ i hi
  rw[zeW ts i K _ hi]at hR
  obtain⟨T,hT⟩:∃T:ByteArray,⟨ts[i].text.toArray⟩=T:=⟨_,rfl⟩;have hT':ts[i].text=T.data.toList:=by rw[<-hT]
  obtain⟨m,hm⟩:∃m,ts[i].kind=m:=⟨_,rfl⟩;rw[hT]at h1
  rw[hm]at h0 hR
  rw[hT']at hR
  clear h2 hT hT' hm h;obtain⟨n,hn⟩:∃n,ts.length=n:=⟨_,rfl⟩;rw[hn]at hi ⊢
  clear hn;by_cases hk:m=K
  ·have dk:=kT m K hk
   by_cases hx:X=⟨#[]⟩
   ·have dx:X.toList.isEmpty=true:=by rw[hx,Lib.toList_data];rfl
    have hr:=hidE (show R=true by rw[<-hR,hx,hk];simp);clear hk hx hR;go_enter Tryz.func84,Tryz.ntmps84
    go_wp2
    go_ret
    exact⟨zav hr.out.symm,rfl⟩
   ·have hx':X.data.toList≠[]:=λe=>hx (ByteArray.ext (by simpa using e))
    have dx:X.toList.isEmpty=false:=by rw[Lib.toList_data];cases hz:X.data.toList with|nil=>exact absurd hz hx'|cons a b=>rfl
    by_cases he:T=X
    ·have dt:=strT T X he
     have hr:=hidE (show R=true by rw[<-hR,he,hk];simp);clear hk hx hx' he hR;go_enter Tryz.func84,Tryz.ntmps84
     go_wp2
     go_ret
     exact⟨zav hr.out.symm,rfl⟩
    ·have dt:=strF T X he
     have he':¬T.data.toList=X.data.toList:=λe=>he (ByteArray.ext (by simpa using e));have hr:=hidE (show R=false by rw[<-hR,hk,beq_eq_false_iff_ne.2 hx',beq_eq_false_iff_ne.2 he'];simp);clear hk hx hx' he he' hR;go_enter Tryz.func84,Tryz.ntmps84
     go_wp2
     go_ret
     exact⟨zav hr.out.symm,rfl⟩
  ·have dk:=kF m K hk
   have hr:=hidE (show R=false by rw[<-hR];simp[hk]);clear hk hR;go_enter Tryz.func84,Tryz.ntmps84
   go_wp2
   go_ret
   exact⟨zav hr.out.symm,rfl⟩
 ·rw[zfn ts i K _ (by omega)]at hR
  obtain⟨A,c,rfl,_⟩:=h;obtain⟨n,hn⟩:∃n,ts.length=n:=⟨_,rfl⟩;rw[hn]at hi ⊢
  clear hn;have hr:=hidE hR;clear hR;go_enter Tryz.func84,Tryz.ntmps84
  go_wp2
  go_ret
  exact⟨zav hr.out,rfl⟩
theorem zlh(s:ByteArray)(w:World)(hd:∀c∈s.data.toList,isDig c=true)(hs:s.size<=6):Calls Tryz.prog 124 #[.string s] w λe w'=>e=.returned (.int .i64 (numOf s.data.toList:Nat))/\w=w':=by
 obtain⟨R,hR⟩:∃R,numOf s.data.toList=R:=⟨_,rfl⟩;have HR:=hidE hR;have HD:=hidE hd;rw[hR]
 clear hR hd;go_enter Tryz.func124,Tryz.ntmps124
 go_wp2
 go_loopg [3,4] s.size (λgg vn v wr=>∃k n:Nat,gg=s.size-k/\vn=.int .i64 n/\v=.int .i64 k/\wr=w/\k<=s.size/\n<1000000/\Hid (numOf (s.data.toList.take k)=n))
 case atStart=>exact⟨0,0,rfl,rfl,rfl,rfl,by omega,by omega,hidE rfl⟩
 case round =>
  obtain⟨k,n,rfl,rfl,rfl,rfl,hk,hn6,hn⟩:=hrel;by_cases hlt:k<s.size
  ·have hkl:k<s.data.toList.length:=by rw[<-Lib.size_eq];exact hlt
   have hdg:isDig s[k]=true:=HD.out _ (by rw[show s[k]=s.data.toList[k] from rfl];exact List.getElem_mem _);have h48:48<=s[k].toNat:=by simp[isDig]at hdg;exact hdg.1
   obtain⟨d,hd⟩:∃d,s[k].toNat-48=d:=⟨_,rfl⟩;have hlt2:s[k].toNat<256:=s[k].toNat_lt;have q1:IntKind.u8.wrap ((s[k].toNat:Int)-48)=(d:Int):=by simp[IntKind.wrap,IntKind.signed,IntKind.bits];omega
   have hr:Hid (numOf (s.data.toList.take (k+1))=10*n+d):=hidE (by rw[zbj _ k hkl,zhY,hn.out,<-hd];rfl);have hn7:10*n+d<1000000:=by
    rw[<-hr.out]
    refine Nat.lt_of_lt_of_le (zk5 _ (λc hc=>HD.out c (List.mem_of_mem_take hc))) ?_;rw[List.length_take]
    exact Nat.le_trans (Nat.pow_le_pow_right (by omega) (show min (k+1) s.data.toList.length<=6 by omega)) (by decide)
   have hd8:d<256:=by omega
   clear hdg hd hlt2;go_wp2
   go_roundg (s.size-(k+1))
   case measure=>omega
   case rel=>exact⟨k+1,10*n+d,rfl,by go_num,by go_num,rfl,by omega,hn7,hr⟩
  ·have hr:=hidE (show n=R by rw[<-HR.out,<-hn.out,List.take_of_length_le (by rw[<-Lib.size_eq];omega)])
   go_wp2
   go_ret
   exact⟨za9 (by rw[hr.out]),rfl⟩
set_option maxRecDepth 100000
theorem zmE(n:Nat):∀(t:Ty)(S:Nat->Prop)(v:Value)(w:World),t.size<=n->n<=1000000->RdV S w t v->(∀g,S g->g<w.heap.size) ->
  Calls Tryz.prog 59 #[v] w λe w'=>e=.returned (.int .i64 (t.depth:Nat))/\Below w.heap.size w w':=by
 induction n with
 |zero=>intro t S v w h;rw[zak]at h;omega
 |succ n ih =>
  intro t S v w hn h5 hv hS;obtain⟨K,X,Z,A,m,c,rfl,-,-,-,hm,ha⟩:=hv.parts;obtain⟨R,hR⟩:∃R,t.depth=R:=⟨_,rfl⟩;have hR1:zbn (kids t)+1=R:=by rw[<-zhK];exact hR
  have hm6:m<=n:=by have:=zaW t;omega
  have hR6:R<=n+1:=by have:=zcr t;omega
  have HM:=hidE hm;have HA:=hidE ha;have IH:=hidE ih;have HS:=hidE hS;have HN:=hidE hn;have HR1:=hidE hR1;rw[hR]
  clear hm hR ha ih hS hn hR1 hv;go_enter Tryz.func59,Tryz.ntmps59
  go_wp2
  go_loopg [3,4] m (λgg va vi wr=>∃i a:Nat,gg=m-i/\va=.int .i64 a/\vi=.int .i64 i/\i<=m/\Hid (zbn ((kids t).take i)=a)/\Below (w.heap.size+1) (w.alloc (.cells #[.int .i64 K,.string X,.int .i64 Z,.slice A m c] 29)) wr)
  case atStart=>exact⟨0,0,rfl,rfl,rfl,by omega,hidE rfl,Below.refl _ _⟩
  case round =>
   obtain⟨i,a,rfl,rfl,rfl,hi,hd,hb⟩:=hrel;have c3:wr.cell? ⟨w.heap.size,3,none⟩=some (.slice A m c):=(hb.cell (p:=⟨w.heap.size,3,none⟩) (by simp)).trans (cell_of_row _ _ _ _ _ _ (heap_alloc_new _ _));have HB:=hidE hb;clear hb;by_cases hlt:i<m
   ·obtain⟨g,u,K1,X1,Z1,A1,n1,c1,rfl,hg,e0,e1,e2,e3,hu,hrd,hsz⟩:=zaP (w':=wr) HA.out HM.out hlt (λg hg=>by rw[HB.out.block g (by have:=HS.out g hg;omega),Below.heap_alloc _ _ _ (HS.out g hg)])
    have hcall:=IH.out u S _ wr (by have:=HN.out;omega) (by omega) hrd (λg hg=>by have:=HB.out.size;have:=HS.out g hg;simp at *;omega);have hmx:=hidE (zhL _ _ _ _ hd hu);obtain⟨D,hD⟩:∃D,u.depth=D:=⟨_,rfl⟩;rw[hD]at hmx hcall
    clear hrd hu hD;go_wp2_with (go_at_call 59;refine hcall.mono ?_;rintro e w1 ⟨rfl,b1⟩)
    all_goals
     have HB2:=hidE (HB.out.trans (b1.mono (by have:=HB.out.size;simp at this;omega)));go_roundg (m-(i+1))
     case measure=>omega
     case rel=>exact⟨i+1,_,rfl,rfl,by go_num,by omega,hidE (by rw[hmx.out];omega),HB2.out⟩
   ·have hr:=hidE (show a+1=R by rw[List.take_of_length_le (by rw[HM.out];omega)]at hd;rw[hd.out]at HR1;exact HR1.out)
    have ha6:a<1000001:=by have:=hr.out;omega
    go_wp2_with fail
    go_ret
    exact⟨za9 (by rw[<-hr.out];rfl),((Below.refl _ w).alloc (Nat.le_refl _) _).trans (HB.out.mono (by omega))⟩
set_option maxRecDepth 100000
theorem zoe(f:Nat)(ts:List Tok)(v:Value)(w:World)(i:Nat)(hv:RdT w v ts)(hg:AllG ts)(hn:ts.length<=100000)(hi:i<=ts.length)(hf:4*(ts.length-i)+2<=f+1)
  (IH:∀(w:World)(i:Nat),RdT w v ts->i<=ts.length->4*(ts.length-i)+4<=f->Calls Tryz.prog 58 #[v,.int .i64 i] w (RPost ts i w (read f (ts.drop i)))):Calls Tryz.prog 108 #[v,.int .i64 i] w (RPost ts i w (atom (f+1) (ts.drop i))):=by
 by_cases hlt:i<ts.length
 ·have hdr:=zb4 ts i hlt
  obtain⟨g,c,rfl,h0,h1,h2⟩:=hv.at_ i hlt;have hgood:=hg _ (List.getElem_mem hlt);have hgl:=hv.lt (by omega);rw[hdr]
  generalize hT:ts[i]=T at *;obtain⟨m,s,p⟩:=T;obtain⟨X,hX⟩:∃X:ByteArray,⟨s.toArray⟩=X:=⟨_,rfl⟩;obtain⟨n,hN⟩:∃n,ts.length=n:=⟨_,rfl⟩;have HX:=hidE hX;have HN:=hidE hN;simp only at h0 h1 h2;rw[hX]at h1
  rw[hN]at hv hlt hn hi hf IH ⊢
  have HV:=hidE hv;have HIH:=hidE IH;have HG:=hidE hgood;clear h2 hv IH hX hN hgood hT hdr hg;obtain⟨O,hO⟩:∃O,atom (f+1) (⟨m,s,p⟩::ts.drop (i+1))=O:=⟨_,rfl⟩;rw[hO]
  rw[atom]at hO
  replace hO:=hO.symm;simp only at hO;by_cases k1:m=1
  ·have HO:=hidE (hO.trans (if_pos k1))
   subst k1;clear hO;have h0:w.cell? ⟨g,i*3,none⟩=some (.int .i64 1):=h0;go_enter Tryz.func108,Tryz.ntmps108
   go_wp2_with fail
   try simp only[Exit.inBlock,Exit.then]
   refine bodyPost_ret (zah rfl _ _ w.heap.size 29 _ (0,0) _ rfl (heap_alloc_new _ _) Tryz.underlying29 rfl (by kernel_rfl)) rfl ?_;exact zbq ts i w _ _ _ 1 X 0 none 0 0 (.var s) (i+1) ((Below.refl _ w).alloc (Nat.le_refl _) _) (by omega) (by rw[HN.out];omega) HO.out rfl ⟨none,0,by rw[<-HX.out];rfl,by rw[Args];trivial⟩
  ·have d1:=zcK m 1 1 rfl k1
   rw[if_neg k1]at hO
   by_cases k2:m=2
   ·have HO:=hidE (hO.trans (if_pos k2))
    subst k2;clear hO;have h0:w.cell? ⟨g,i*3,none⟩=some (.int .i64 2):=h0;go_enter Tryz.func108,Tryz.ntmps108
    go_wp2_with fail
    try simp only[Exit.inBlock,Exit.then]
    refine bodyPost_ret (zah rfl _ _ w.heap.size 29 _ (0,0) _ rfl (heap_alloc_new _ _) Tryz.underlying29 rfl (by kernel_rfl)) rfl ?_;exact zbq ts i w _ _ _ 3 X 0 none 0 0 (.con s []) (i+1) ((Below.refl _ w).alloc (Nat.le_refl _) _) (by omega) (by rw[HN.out];omega) HO.out rfl ⟨none,0,by rw[<-HX.out];rfl,by rw[Args];intro h;exact absurd rfl h⟩
   ·have d2:=zcK m 2 2 rfl k2
    rw[if_neg k2]at hO
    by_cases k5:m=5
    ·have HO:=hidE (hO.trans (if_pos k5))
     subst k5;clear hO;have h0:w.cell? ⟨g,i*3,none⟩=some (.int .i64 5):=h0;obtain⟨g1,g2,g3⟩:=zi3 _ HG.out rfl;have hXs:X.data.toList=s:=by rw[<-HX.out]
     have hX1:1<=X.size:=by rw[Lib.size_eq,hXs];exact g3
     have hXe:(X.extract 1 X.size).data.toList=s.drop 1:=by rw[Lib.extract_eq,hXs];simp only[];rw[List.take_of_length_le];rw[List.length_drop,<-hXs,<-Lib.size_eq];omega
     have hnum:=λw=>zlh (X.extract 1 X.size) w (by rw[hXe];exact g1) (by rw[Lib.size_eq,hXe];exact g2);rw[hXe]at hnum
     clear hXe hXs g1 g2 g3;obtain⟨N,hNn⟩:∃N,numOf (s.drop 1)=N:=⟨_,rfl⟩;rw[hNn]at hnum HO
     clear hNn;go_enter Tryz.func108,Tryz.ntmps108
     go_wp2_with (go_at_call 124;refine(hnum _).mono ?_;rintro e w1 ⟨rfl,rfl⟩)
     try simp only[Exit.inBlock,Exit.then]
     refine bodyPost_ret (zah rfl _ _ w.heap.size 29 _ (0,0) _ rfl (heap_alloc_new _ _) Tryz.underlying29 rfl (by kernel_rfl)) rfl ?_;exact zbq ts i w _ _ _ 2 ⟨#[]⟩ (N:Nat) none 0 0 (.mt N) (i+1) ((Below.refl _ w).alloc (Nat.le_refl _) _) (by omega) (by rw[HN.out];omega) HO.out rfl ⟨none,0,rfl,by rw[Args];trivial⟩
    ·have d5:=zcK m 5 5 rfl k5
     rw[if_neg k5]at hO
     by_cases k40:s=[40]
     ·have dX:(X.toList==[40])=true:=by rw[Lib.toList_data,<-HX.out,k40];rfl
      have HO:=hidE (hO.trans (if_pos k40));clear hO k40;go_enter Tryz.func108,Tryz.ntmps108
      go_wp2_with fail
      refine(HIH.out _ (i+1) (HV.out.alloc _) (by omega) (by omega)).mono ?_;rintro e w1 ⟨b1,K1,X1,Z1,A1,m1,c1,hcases⟩;have hblk:Blk w1 w.heap.size 29 #[.int .i64 0,.string ⟨#[]⟩,.int .i64 0,.slice none 0 0]:=Blk.below (heap_alloc_new _ _) b1 (by simp);obtain⟨a0,a1,a2,a3,r0,r1,r2,r3,hlw⟩:=zaa hblk;have HBLK:=hidE hblk;clear hblk;rcases hcases with⟨ho,rfl⟩|⟨t,k,hk,hkn,ho,rfl,hr⟩
      ·have HO:=hidE (HO.out.trans (by rw[ho]))
       have B1:=hidE b1;clear b1 ho;go_wp2_with fail
       try simp only[Exit.inBlock,Exit.then]
       refine bodyPost_ret (zah rfl _ _ w.heap.size 29 _ (0,0) _ rfl ((zad _ _ _ _ HBLK.out).alloc _) Tryz.underlying29 rfl (by kernel_rfl)) rfl ?_;exact za0 ts i w _ _ _ 0 ⟨#[]⟩ 0 none 0 0 ((zaf (zaD B1.out (Nat.le_refl _)) _ _ _ _ (Nat.le_refl _)).alloc (by simp;omega) _) HO.out rfl
      ·obtain⟨q,hq⟩:∃q,isAt ts k 6 [41]=q:=⟨_,rfl⟩
       have HO:Hid (O=(eat (isSign · [41]) (ts.drop k)).map λr3=>(t,r3)):=hidE (HO.out.trans (by rw[ho]));have B1:=hidE b1;have HQ:=hidE hq;have hIs:∀w,RdT w (.slice (some ⟨g,0,none⟩) n c) ts->Calls Tryz.prog 84 #[.slice (some ⟨g,0,none⟩) n c,.int .i64 k,.int .i64 6,.string ⟨#[41]⟩] w λe w'=>e=.returned (.bool q)/\w=w':=by
        intro w hv;rw[<-hq]
        exact zdU _ ts k 6 ⟨#[41]⟩ 6 rfl w hv
       clear hq;have HR:=hidE hr;clear b1 ho hr;cases q
       ·go_wp2_with (go_at_call 84;refine(hIs _ (((HV.out.alloc _).below B1.out).alloc _)).mono ?_;rintro e w2 ⟨rfl,rfl⟩)
        try simp only[Exit.inBlock,Exit.then]
        refine bodyPost_ret (zah rfl _ _ w.heap.size 29 _ (0,0) _ rfl ((zad _ _ _ _ HBLK.out).alloc _) Tryz.underlying29 rfl (by kernel_rfl)) rfl ?_;exact za0 ts i w _ _ _ 0 ⟨#[]⟩ 0 none 0 0 ((zaf (zaD B1.out (Nat.le_refl _)) _ _ _ _ (Nat.le_refl _)).alloc (by simp;omega) _) (HO.out.trans (by rw[zd8 _ _ _ (by simp),HQ.out,if_neg (by simp)];rfl)) rfl
       ·have hkl:=zeX _ _ _ _ HQ.out
        have hk5:k<100000:=by rw[HN.out]at hkl;omega
        go_wp2_with (go_at_call 84;refine(hIs _ (((HV.out.alloc _).below B1.out).alloc _)).mono ?_;rintro e w2 ⟨rfl,rfl⟩)
        try simp only[Exit.inBlock,Exit.then]
        refine bodyPost_ret (zah rfl _ _ w.heap.size 29 _ (0,0) _ rfl ((zad _ _ _ _ HBLK.out).alloc _) Tryz.underlying29 rfl (by kernel_rfl)) rfl ?_;refine zbq ts i w _ _ _ K1 X1 Z1 A1 m1 c1 t (k+1) ((zaf (zaD B1.out (Nat.le_refl _)) _ _ _ _ (Nat.le_refl _)).alloc (by simp;omega) _) (by omega) (by omega) (HO.out.trans (by rw[zd8 _ _ _ (by simp),HQ.out,if_pos rfl];rfl)) rfl ?_;exact HR.out.keep (λg hg=>by simp at hg ⊢;omega) (λg hg=>by
         simp at hg;rw[Below.heap_alloc _ _ _ (by simp;omega),Below.heap_setCell _ _ _ _ (by simp;omega),Below.heap_setCell _ _ _ _ (by simp;omega),Below.heap_setCell _ _ _ _ (by simp;omega),Below.heap_setCell _ _ _ _ (by simp;omega)])
     ·have dX:(X.toList==[40])=false:=by rw[Lib.toList_data,<-HX.out];exact beq_eq_false_iff_ne.2 k40
      have HO:=hidE (hO.trans (if_neg k40));clear hO k40;go_enter Tryz.func108,Tryz.ntmps108
      go_wp2_with fail
      try simp only[Exit.inBlock,Exit.then]
      refine bodyPost_ret (zah rfl _ _ w.heap.size 29 _ (0,0) _ rfl (heap_alloc_new _ _) Tryz.underlying29 rfl (by kernel_rfl)) rfl ?_;exact za0 ts i w _ _ _ 0 ⟨#[]⟩ 0 none 0 0 ((Below.refl _ w).alloc (Nat.le_refl _) _) HO.out rfl
 ·have HO:atom (f+1) (ts.drop i)=none:=by rw[List.drop_eq_nil_of_le (by omega),atom]
  obtain⟨A,c,rfl,_⟩:=hv;obtain⟨n,hN⟩:∃n,ts.length=n:=⟨_,rfl⟩;rw[hN]at hlt hn hi ⊢
  rw[HO]
  clear hN IH HO hf hg;go_enter Tryz.func108,Tryz.ntmps108
  go_wp2_with fail
  try simp only[Exit.inBlock,Exit.then]
  refine bodyPost_ret (zah rfl _ _ w.heap.size 29 _ (0,0) _ rfl (heap_alloc_new _ _) Tryz.underlying29 rfl (by kernel_rfl)) rfl ?_;exact za0 ts i w _ _ _ 0 ⟨#[]⟩ 0 none 0 0 ((Below.refl _ w).alloc (Nat.le_refl _) _) rfl rfl
set_option maxRecDepth 100000
theorem zeo:(Tryz.prog.info? 29).map (λi=>(i.zero,i.size,i.bytes))=some (some (.agg #[.int .i64 0,.string ⟨#[]⟩,.int .i64 0,.slice none 0 0]),4,56):=by kernel_rfl
def zsD(ts:List Tok)(f n i:Nat)(X:ByteArray)(w:World)(g:Nat)(vk:Value)(wr:World):Prop :=
 ∃k f' done v',g=n-k/\vk=.int .i64 k/\i<k/\k<=n/\4*(n-k)+3<=f'/\f'<=f/\Hid (args f (ts.drop (i+1))=(args f' (ts.drop k)).map λy=>(done++y.1,y.2))/\done.length<=k /\
  Built (λ_=>False) (w.heap.size+2) 29 wr done v'/\Blk wr (w.heap.size+1) 29 #[.int .i64 3,.string X,.int .i64 0,v'] /\
  Blk wr w.heap.size 29 #[.int .i64 0,.string ⟨#[]⟩,.int .i64 0,.slice none 0 0]/\Below w.heap.size w wr
theorem zp5(f:Nat)(ts:List Tok)(v:Value)(w:World)(i:Nat)(hv:RdT w v ts)(hn:ts.length<=100000)(hi:i<=ts.length)(hf:4*(ts.length-i)+3<=f+1)
  (IH:∀f1,f1<=f->∀(w:World)(i:Nat),RdT w v ts->i<=ts.length->4*(ts.length-i)+2<=f1->Calls Tryz.prog 108 #[v,.int .i64 i] w (RPost ts i w (atom f1 (ts.drop i)))):Calls Tryz.prog 85 #[v,.int .i64 i] w (RPost ts i w (app (f+1) (ts.drop i))):=by
 obtain⟨q,hq⟩:∃q,isAt ts i 2 []=q:=⟨_,rfl⟩;have HQ:=hidE hq;have hIs:∀w,RdT w v ts->Calls Tryz.prog 84 #[v,.int .i64 i,.int .i64 2,.string ⟨#[]⟩] w λe w'=>e=.returned (.bool q)/\w=w':=by
  intro w hv;rw[<-hq]
  exact zdU _ ts i 2 ⟨#[]⟩ 2 rfl w hv
 clear hq;have HV:=hidE hv;have HIH:=hidE IH;clear IH;cases q
 ·have HO:Hid (app (f+1) (ts.drop i)=atom f (ts.drop i)):=by
   refine hidE ?_;by_cases hlt:i<ts.length
   ·have h2:=HQ.out
    rw[zeW ts i 2 [] hlt]at h2
    simp at h2;rw[zb4 ts i hlt,app]
    simp only[if_neg h2]
   ·rw[List.drop_eq_nil_of_le (by omega),app]
    obtain⟨f',rfl⟩:∃f',f=f'+1:=⟨f-1,by omega⟩;rw[atom]
  rw[HO.out]
  clear HO hv;go_enter Tryz.func85,Tryz.ntmps85
  go_wp2_with (go_at_call 84;refine(hIs _ (HV.out.alloc _)).mono ?_;rintro e w2 ⟨rfl,rfl⟩)
  go_at_call 108
  refine(HIH.out f (Nat.le_refl _) _ i (HV.out.alloc _) hi (by omega)).mono ?_;rintro e w1 ⟨b1,K1,X1,Z1,A1,m1,c1,hcases⟩;have hblk:Blk w1 w.heap.size 29 #[.int .i64 0,.string ⟨#[]⟩,.int .i64 0,.slice none 0 0]:=Blk.below (heap_alloc_new _ _) b1 (by simp);obtain⟨a0,a1,a2,a3,r0,r1,r2,r3,hlw⟩:=zaa hblk;have HBLK:=hidE hblk;have B1:=hidE b1;clear hblk b1;rcases hcases with⟨ho,rfl⟩|⟨t,k,hk,hkn,ho,rfl,hr⟩
  ·have HO:=hidE ho
   clear ho;go_wp2_with fail
   try simp only[Exit.inBlock,Exit.then]
   refine bodyPost_ret (zah rfl _ _ w.heap.size 29 _ (0,0) _ rfl (zad _ _ _ _ HBLK.out) Tryz.underlying29 rfl (by kernel_rfl)) rfl ?_;exact za0 ts i w _ _ _ K1 X1 Z1 A1 m1 c1 (zaf (zaD B1.out (Nat.le_refl _)) _ _ _ _ (Nat.le_refl _)) HO.out rfl
  ·have HO:=hidE ho
   have HR:=hidE hr;clear ho hr;go_wp2_with fail
   try simp only[Exit.inBlock,Exit.then]
   refine bodyPost_ret (zah rfl _ _ w.heap.size 29 _ (0,0) _ rfl (zad _ _ _ _ HBLK.out) Tryz.underlying29 rfl (by kernel_rfl)) rfl ?_;refine zbq ts i w _ _ _ K1 X1 Z1 A1 m1 c1 t k (zaf (zaD B1.out (Nat.le_refl _)) _ _ _ _ (Nat.le_refl _)) hk hkn HO.out rfl ?_;exact HR.out.keep (λg hg=>by simp at hg ⊢;omega) (λg hg=>zaj _ _ _ _ _ _ _ (by simp at hg;omega))
 ·have hlt:=zeX _ _ _ _ HQ.out
  have hk2:=HQ.out;rw[zeW ts i 2 [] hlt]at hk2
  simp at hk2;obtain⟨g,c,rfl,h0,h1,_⟩:=hv.at_ i hlt;have hgl:=hv.lt (by omega);obtain⟨X,hX⟩:∃X:ByteArray,⟨ts[i].text.toArray⟩=X:=⟨_,rfl⟩;obtain⟨n,hN⟩:∃n,ts.length=n:=⟨_,rfl⟩;have HO:Hid (app (f+1) (ts.drop i)=(args f (ts.drop (i+1))).map λx=>(.con X.data.toList x.1,x.2)):=by
   refine hidE ?_;rw[zb4 ts i hlt,app,<-hX]
   simp only[if_pos hk2]
  have HN:=hidE hN;rw[hX]at h1
  rw[HO.out]
  clear hX h0 hv HQ hk2;have hlt':i<n:=by omega
  obtain⟨i0,hi0,hz0,hz1,hz2⟩:=info_parts zeo;rw[hN]at hn hi hf HIH HV hIs ⊢
  clear hN HO;go_enter Tryz.func85,Tryz.ntmps85
  go_wp2_with (go_at_call 84;refine(hIs _ (HV.out.alloc _)).mono ?_;rintro e w2 ⟨rfl,rfl⟩)
  go_loopg [8] (n-(i+1)) (λgg vk wr=>zsD ts f n i X w gg vk wr)
  case atStart =>
   refine⟨i+1,f,[],.slice none 0 0,rfl,by go_num,by omega,by omega,by omega,Nat.le_refl _,hidE (by simp),by simp,Built.nil _ _ _ _,?_,?_,((Below.refl _ w).alloc (Nat.le_refl _) _).alloc (by simp) _⟩
   ·exact heap_alloc2_new _ _ _
   ·exact heap_alloc2_old _ _ _
  case round =>
   obtain⟨k,f',done,v',rfl,rfl,hik,hkn,hf1,hf2,hargs,hdl,hbuilt,hb1,hb0,hbel⟩:=hrel;obtain⟨f1,rfl⟩:∃f1,f'=f1+1:=⟨f'-1,by omega⟩;obtain⟨vs,hown,hrow⟩:=hbuilt;obtain⟨A0,c0,rfl⟩:=zaz hown;have hvt:=HV.out.below hbel;have HVT:=hidE hvt;have HOWN:=hidE hown;have HROW:=hidE hrow;have HB1:=hidE hb1;have HB0:=hidE hb0;have HBEL:=hidE hbel;have hown2:=hown.lt;have HLT:=hidE hown2;obtain⟨a0,a1,a2,a3,r0,r1,r2,r3,hlw⟩:=zaa hb0;obtain⟨p0,p1,p2,p3,s0,s1,s2,s3,hlx⟩:=zaa hb1;by_cases hkl:k<n
   ·have hkt:k<ts.length:=by rw[HN.out];exact hkl
    obtain⟨e0,e1⟩:=hvt.cells k hkt;obtain⟨Y,hY⟩:∃Y:ByteArray,⟨ts[k].text.toArray⟩=Y:=⟨_,rfl⟩;rw[hY]at e1
    by_cases hat:atomic ts[k]=true
    ·have hw:=zlu _ Y hY hat
     have HAT:=hidE hat;obtain⟨m,hm⟩:∃m,ts[k].kind=m:=⟨_,rfl⟩;rw[hm]at e0 hw
     have hglw:g<wr.heap.size:=by have:=hbel.size;omega
     clear hY hat hm hvt hown hrow hb1 hb0 hbel hown2;rcases hw with d1|⟨d1,d5⟩|⟨d1,d5,d2⟩|⟨d1,d5,d2,dX⟩
     ·go_wp2_with fail
      refine(HIH.out f1 (by omega) wr k HVT.out (by omega) (by omega)).mono ?_;rintro e w1 ⟨b1,K1,X1,Z1,A1,m1,c1,hcases⟩;have hb0:=HB0.out.below b1 hlw;have hb1:=HB1.out.below b1 hlx;obtain⟨a0,a1,a2,a3,r0,r1,r2,r3,hlw1⟩:=zaa hb0;obtain⟨p0,p1,p2,p3,s0,s1,s2,s3,hlx1⟩:=zaa hb1;have HC0:=hidE hb0;have HC1:=hidE hb1;have BB1:=hidE b1;clear b1 hb0 hb1;rcases hcases with⟨ho,rfl⟩|⟨t,k2,hk,hk2n,ho,rfl,hr⟩
      ·have HO:Hid (args f (ts.drop (i+1))=none):=hidE (hargs.out.trans (by rw[zeq f1 ts k hkt HAT.out ho];rfl))
       clear ho;go_wp2_with fail
       try simp only[Exit.inBlock,Exit.then]
       refine bodyPost_ret (zah rfl _ _ w.heap.size 29 _ (0,0) _ rfl ((zad _ _ _ _ HC0.out).alloc _) Tryz.underlying29 rfl (by kernel_rfl)) rfl ?_;exact za0 ts i w _ _ _ 0 ⟨#[]⟩ 0 none 0 0 ((zaf (bnext HBEL.out BB1.out (Nat.le_refl _)) _ _ _ _ (Nat.le_refl _)).alloc (by simp;omega) _) (by rw[HO.out];rfl) rfl
      ·have HO:=hidE (zd9 (hargs.out.trans (by rw[zer f1 ts k hkt HAT.out t _ ho])))
       have HR:=hidE hr;have hown2:=hidE (((own_below HOWN.out BB1.out).alloc (.cells #[.int .i64 K1,.string X1,.int .i64 Z1,.slice A1 m1 c1] 29)).alloc (.cells #[.int .i64 K1,.string X1,.int .i64 Z1,.slice A1 m1 c1] 29));clear ho hr;go_wp2_with (at_builtin;refine wpList_append_own_at _ rfl (.tmp 75) (.tmp 77) 27 rfl (w.heap.size+2) 29 i0 _ 4 56 Tryz.underlying27 hi0 hz0 hz1 hz2 rfl (by decide) _ done.length vs rfl hown2.out ⟨w1.heap.size+1,0,none⟩ 1 1 [.int .i64 K1,.string X1,.int .i64 Z1,.slice A1 m1 c1] rfl rfl (zaK _ _ _ _ (by simp)) (by intro u hu;simp at hu;rcases hu with rfl|rfl|rfl|rfl <;> rfl) (by unfold maxLen;omega) (by omega) (by have:=BB1.out.size;have:=HBEL.out.size;simp;omega) ?_;intro v2 w3 hown3 hgrow _ hat3;obtain⟨A2,c2,rfl⟩:=zaz hown3;have HO3:=hidE hown3;have HG3:=hidE hgrow;have HT3:=hidE hat3;clear hown3 hgrow hat3;have hc1:=((HC1.out.alloc _).alloc _).grown HG3.out (λe=>by have:=HLT.out _ e.symm;omega);have hc0:=((HC0.out.alloc _).alloc _).grown HG3.out (λe=>by have:=HLT.out _ e.symm;omega);obtain⟨y0,y1,y2,y3,z0,z1,z2,z3,hly⟩:=zaa hc1;have HD1:=hidE hc1;have HD0:=hidE hc0;clear hc1 hc0)
       go_roundg (n-k2)
       case measure=>omega
       case rel =>
        have hb:=Built.next (w:=wr) (w1:=w1) (λ_ h=>h.elim) (by omega) HOWN.out HROW.out BB1.out (HR.out.keep (λ_ h=>.inr h) (λ_ _=>rfl)) (((Below.refl _ w1).alloc (Nat.le_refl _) _).alloc (by simp) _) HO3.out HG3.out HT3.out;have hsz:=HBEL.out.size;have hsz1:=BB1.out.size;refine⟨k2,f1,done++[t],_,rfl,rfl,by omega,by rw[HN.out]at hk2n;exact hk2n,by omega,by omega,HO,by simp;omega,hb.setCell _ (by simp) (λh=>h),heap_setCell_same _ _ 3 _ _ _ HD1.out,HD0.out.far (by simp) _,?_⟩;exact(((bnext HBEL.out BB1.out (Nat.le_refl _)).alloc (by omega) _).alloc (by simp;omega) _ |>.grown HG3.out (by simp;omega) (λj hj=>by have:=HLT.out _ hj;omega)).setCell (by simp) _
     ·go_wp2_with fail
      refine(HIH.out f1 (by omega) wr k HVT.out (by omega) (by omega)).mono ?_;rintro e w1 ⟨b1,K1,X1,Z1,A1,m1,c1,hcases⟩;have hb0:=HB0.out.below b1 hlw;have hb1:=HB1.out.below b1 hlx;obtain⟨a0,a1,a2,a3,r0,r1,r2,r3,hlw1⟩:=zaa hb0;obtain⟨p0,p1,p2,p3,s0,s1,s2,s3,hlx1⟩:=zaa hb1;have HC0:=hidE hb0;have HC1:=hidE hb1;have BB1:=hidE b1;clear b1 hb0 hb1;rcases hcases with⟨ho,rfl⟩|⟨t,k2,hk,hk2n,ho,rfl,hr⟩
      ·have HO:Hid (args f (ts.drop (i+1))=none):=hidE (hargs.out.trans (by rw[zeq f1 ts k hkt HAT.out ho];rfl))
       clear ho;go_wp2_with fail
       try simp only[Exit.inBlock,Exit.then]
       refine bodyPost_ret (zah rfl _ _ w.heap.size 29 _ (0,0) _ rfl ((zad _ _ _ _ HC0.out).alloc _) Tryz.underlying29 rfl (by kernel_rfl)) rfl ?_;exact za0 ts i w _ _ _ 0 ⟨#[]⟩ 0 none 0 0 ((zaf (bnext HBEL.out BB1.out (Nat.le_refl _)) _ _ _ _ (Nat.le_refl _)).alloc (by simp;omega) _) (by rw[HO.out];rfl) rfl
      ·have HO:=hidE (zd9 (hargs.out.trans (by rw[zer f1 ts k hkt HAT.out t _ ho])))
       have HR:=hidE hr;have hown2:=hidE (((own_below HOWN.out BB1.out).alloc (.cells #[.int .i64 K1,.string X1,.int .i64 Z1,.slice A1 m1 c1] 29)).alloc (.cells #[.int .i64 K1,.string X1,.int .i64 Z1,.slice A1 m1 c1] 29));clear ho hr;go_wp2_with (at_builtin;refine wpList_append_own_at _ rfl (.tmp 75) (.tmp 77) 27 rfl (w.heap.size+2) 29 i0 _ 4 56 Tryz.underlying27 hi0 hz0 hz1 hz2 rfl (by decide) _ done.length vs rfl hown2.out ⟨w1.heap.size+1,0,none⟩ 1 1 [.int .i64 K1,.string X1,.int .i64 Z1,.slice A1 m1 c1] rfl rfl (zaK _ _ _ _ (by simp)) (by intro u hu;simp at hu;rcases hu with rfl|rfl|rfl|rfl <;> rfl) (by unfold maxLen;omega) (by omega) (by have:=BB1.out.size;have:=HBEL.out.size;simp;omega) ?_;intro v2 w3 hown3 hgrow _ hat3;obtain⟨A2,c2,rfl⟩:=zaz hown3;have HO3:=hidE hown3;have HG3:=hidE hgrow;have HT3:=hidE hat3;clear hown3 hgrow hat3;have hc1:=((HC1.out.alloc _).alloc _).grown HG3.out (λe=>by have:=HLT.out _ e.symm;omega);have hc0:=((HC0.out.alloc _).alloc _).grown HG3.out (λe=>by have:=HLT.out _ e.symm;omega);obtain⟨y0,y1,y2,y3,z0,z1,z2,z3,hly⟩:=zaa hc1;have HD1:=hidE hc1;have HD0:=hidE hc0;clear hc1 hc0)
       go_roundg (n-k2)
       case measure=>omega
       case rel =>
        have hb:=Built.next (w:=wr) (w1:=w1) (λ_ h=>h.elim) (by omega) HOWN.out HROW.out BB1.out (HR.out.keep (λ_ h=>.inr h) (λ_ _=>rfl)) (((Below.refl _ w1).alloc (Nat.le_refl _) _).alloc (by simp) _) HO3.out HG3.out HT3.out;have hsz:=HBEL.out.size;have hsz1:=BB1.out.size;refine⟨k2,f1,done++[t],_,rfl,rfl,by omega,by rw[HN.out]at hk2n;exact hk2n,by omega,by omega,HO,by simp;omega,hb.setCell _ (by simp) (λh=>h),heap_setCell_same _ _ 3 _ _ _ HD1.out,HD0.out.far (by simp) _,?_⟩;exact(((bnext HBEL.out BB1.out (Nat.le_refl _)).alloc (by omega) _).alloc (by simp;omega) _ |>.grown HG3.out (by simp;omega) (λj hj=>by have:=HLT.out _ hj;omega)).setCell (by simp) _
     ·go_wp2_with fail
      refine(HIH.out f1 (by omega) wr k HVT.out (by omega) (by omega)).mono ?_;rintro e w1 ⟨b1,K1,X1,Z1,A1,m1,c1,hcases⟩;have hb0:=HB0.out.below b1 hlw;have hb1:=HB1.out.below b1 hlx;obtain⟨a0,a1,a2,a3,r0,r1,r2,r3,hlw1⟩:=zaa hb0;obtain⟨p0,p1,p2,p3,s0,s1,s2,s3,hlx1⟩:=zaa hb1;have HC0:=hidE hb0;have HC1:=hidE hb1;have BB1:=hidE b1;clear b1 hb0 hb1;rcases hcases with⟨ho,rfl⟩|⟨t,k2,hk,hk2n,ho,rfl,hr⟩
      ·have HO:Hid (args f (ts.drop (i+1))=none):=hidE (hargs.out.trans (by rw[zeq f1 ts k hkt HAT.out ho];rfl))
       clear ho;go_wp2_with fail
       try simp only[Exit.inBlock,Exit.then]
       refine bodyPost_ret (zah rfl _ _ w.heap.size 29 _ (0,0) _ rfl ((zad _ _ _ _ HC0.out).alloc _) Tryz.underlying29 rfl (by kernel_rfl)) rfl ?_;exact za0 ts i w _ _ _ 0 ⟨#[]⟩ 0 none 0 0 ((zaf (bnext HBEL.out BB1.out (Nat.le_refl _)) _ _ _ _ (Nat.le_refl _)).alloc (by simp;omega) _) (by rw[HO.out];rfl) rfl
      ·have HO:=hidE (zd9 (hargs.out.trans (by rw[zer f1 ts k hkt HAT.out t _ ho])))
       have HR:=hidE hr;have hown2:=hidE (((own_below HOWN.out BB1.out).alloc (.cells #[.int .i64 K1,.string X1,.int .i64 Z1,.slice A1 m1 c1] 29)).alloc (.cells #[.int .i64 K1,.string X1,.int .i64 Z1,.slice A1 m1 c1] 29));clear ho hr;go_wp2_with (at_builtin;refine wpList_append_own_at _ rfl (.tmp 75) (.tmp 77) 27 rfl (w.heap.size+2) 29 i0 _ 4 56 Tryz.underlying27 hi0 hz0 hz1 hz2 rfl (by decide) _ done.length vs rfl hown2.out ⟨w1.heap.size+1,0,none⟩ 1 1 [.int .i64 K1,.string X1,.int .i64 Z1,.slice A1 m1 c1] rfl rfl (zaK _ _ _ _ (by simp)) (by intro u hu;simp at hu;rcases hu with rfl|rfl|rfl|rfl <;> rfl) (by unfold maxLen;omega) (by omega) (by have:=BB1.out.size;have:=HBEL.out.size;simp;omega) ?_;intro v2 w3 hown3 hgrow _ hat3;obtain⟨A2,c2,rfl⟩:=zaz hown3;have HO3:=hidE hown3;have HG3:=hidE hgrow;have HT3:=hidE hat3;clear hown3 hgrow hat3;have hc1:=((HC1.out.alloc _).alloc _).grown HG3.out (λe=>by have:=HLT.out _ e.symm;omega);have hc0:=((HC0.out.alloc _).alloc _).grown HG3.out (λe=>by have:=HLT.out _ e.symm;omega);obtain⟨y0,y1,y2,y3,z0,z1,z2,z3,hly⟩:=zaa hc1;have HD1:=hidE hc1;have HD0:=hidE hc0;clear hc1 hc0)
       go_roundg (n-k2)
       case measure=>omega
       case rel =>
        have hb:=Built.next (w:=wr) (w1:=w1) (λ_ h=>h.elim) (by omega) HOWN.out HROW.out BB1.out (HR.out.keep (λ_ h=>.inr h) (λ_ _=>rfl)) (((Below.refl _ w1).alloc (Nat.le_refl _) _).alloc (by simp) _) HO3.out HG3.out HT3.out;have hsz:=HBEL.out.size;have hsz1:=BB1.out.size;refine⟨k2,f1,done++[t],_,rfl,rfl,by omega,by rw[HN.out]at hk2n;exact hk2n,by omega,by omega,HO,by simp;omega,hb.setCell _ (by simp) (λh=>h),heap_setCell_same _ _ 3 _ _ _ HD1.out,HD0.out.far (by simp) _,?_⟩;exact(((bnext HBEL.out BB1.out (Nat.le_refl _)).alloc (by omega) _).alloc (by simp;omega) _ |>.grown HG3.out (by simp;omega) (λj hj=>by have:=HLT.out _ hj;omega)).setCell (by simp) _
     ·go_wp2_with fail
      refine(HIH.out f1 (by omega) wr k HVT.out (by omega) (by omega)).mono ?_;rintro e w1 ⟨b1,K1,X1,Z1,A1,m1,c1,hcases⟩;have hb0:=HB0.out.below b1 hlw;have hb1:=HB1.out.below b1 hlx;obtain⟨a0,a1,a2,a3,r0,r1,r2,r3,hlw1⟩:=zaa hb0;obtain⟨p0,p1,p2,p3,s0,s1,s2,s3,hlx1⟩:=zaa hb1;have HC0:=hidE hb0;have HC1:=hidE hb1;have BB1:=hidE b1;clear b1 hb0 hb1;rcases hcases with⟨ho,rfl⟩|⟨t,k2,hk,hk2n,ho,rfl,hr⟩
      ·have HO:Hid (args f (ts.drop (i+1))=none):=hidE (hargs.out.trans (by rw[zeq f1 ts k hkt HAT.out ho];rfl))
       clear ho;go_wp2_with fail
       try simp only[Exit.inBlock,Exit.then]
       refine bodyPost_ret (zah rfl _ _ w.heap.size 29 _ (0,0) _ rfl ((zad _ _ _ _ HC0.out).alloc _) Tryz.underlying29 rfl (by kernel_rfl)) rfl ?_;exact za0 ts i w _ _ _ 0 ⟨#[]⟩ 0 none 0 0 ((zaf (bnext HBEL.out BB1.out (Nat.le_refl _)) _ _ _ _ (Nat.le_refl _)).alloc (by simp;omega) _) (by rw[HO.out];rfl) rfl
      ·have HO:=hidE (zd9 (hargs.out.trans (by rw[zer f1 ts k hkt HAT.out t _ ho])))
       have HR:=hidE hr;have hown2:=hidE (((own_below HOWN.out BB1.out).alloc (.cells #[.int .i64 K1,.string X1,.int .i64 Z1,.slice A1 m1 c1] 29)).alloc (.cells #[.int .i64 K1,.string X1,.int .i64 Z1,.slice A1 m1 c1] 29));clear ho hr;go_wp2_with (at_builtin;refine wpList_append_own_at _ rfl (.tmp 75) (.tmp 77) 27 rfl (w.heap.size+2) 29 i0 _ 4 56 Tryz.underlying27 hi0 hz0 hz1 hz2 rfl (by decide) _ done.length vs rfl hown2.out ⟨w1.heap.size+1,0,none⟩ 1 1 [.int .i64 K1,.string X1,.int .i64 Z1,.slice A1 m1 c1] rfl rfl (zaK _ _ _ _ (by simp)) (by intro u hu;simp at hu;rcases hu with rfl|rfl|rfl|rfl <;> rfl) (by unfold maxLen;omega) (by omega) (by have:=BB1.out.size;have:=HBEL.out.size;simp;omega) ?_;intro v2 w3 hown3 hgrow _ hat3;obtain⟨A2,c2,rfl⟩:=zaz hown3;have HO3:=hidE hown3;have HG3:=hidE hgrow;have HT3:=hidE hat3;clear hown3 hgrow hat3;have hc1:=((HC1.out.alloc _).alloc _).grown HG3.out (λe=>by have:=HLT.out _ e.symm;omega);have hc0:=((HC0.out.alloc _).alloc _).grown HG3.out (λe=>by have:=HLT.out _ e.symm;omega);obtain⟨y0,y1,y2,y3,z0,z1,z2,z3,hly⟩:=zaa hc1;have HD1:=hidE hc1;have HD0:=hidE hc0;clear hc1 hc0)
       go_roundg (n-k2)
       case measure=>omega
       case rel =>
        have hb:=Built.next (w:=wr) (w1:=w1) (λ_ h=>h.elim) (by omega) HOWN.out HROW.out BB1.out (HR.out.keep (λ_ h=>.inr h) (λ_ _=>rfl)) (((Below.refl _ w1).alloc (Nat.le_refl _) _).alloc (by simp) _) HO3.out HG3.out HT3.out;have hsz:=HBEL.out.size;have hsz1:=BB1.out.size;refine⟨k2,f1,done++[t],_,rfl,rfl,by omega,by rw[HN.out]at hk2n;exact hk2n,by omega,by omega,HO,by simp;omega,hb.setCell _ (by simp) (λh=>h),heap_setCell_same _ _ 3 _ _ _ HD1.out,HD0.out.far (by simp) _,?_⟩;exact(((bnext HBEL.out BB1.out (Nat.le_refl _)).alloc (by omega) _).alloc (by simp;omega) _ |>.grown HG3.out (by simp;omega) (λj hj=>by have:=HLT.out _ hj;omega)).setCell (by simp) _
    ·have hat:atomic ts[k]=false:=by simpa using hat
     have HO:Hid (args f (ts.drop (i+1))=some (done,ts.drop k)):=hidE (hargs.out.trans (by rw[zi4 f1 ts k (λ_=>hat)];simp));have HARG:=hidE (Built.args (t:=.con X.data.toList done) (show Built _ _ _ wr (kids (.con X.data.toList done)) _ from⟨vs,hown,hrow⟩)).2;obtain⟨d1,d5,d2,dX⟩:=zm8 _ Y hY hat;obtain⟨m,hm⟩:∃m,ts[k].kind=m:=⟨_,rfl⟩;rw[hm]at e0 d1 d2 d5
     have hglw:g<wr.heap.size:=by have:=hbel.size;omega
     clear hY hat hm hvt hown hrow hb1 hb0 hbel hown2;go_wp2_with fail
     try simp only[Exit.inBlock,Exit.then]
     refine bodyPost_ret (zah rfl _ _ w.heap.size 29 _ (0,0) _ rfl (zad _ _ _ _ HB0.out) Tryz.underlying29 rfl (by kernel_rfl)) rfl ?_;refine zbq ts i w _ _ _ 3 X 0 A0 done.length c0 (.con X.data.toList done) k (zaf HBEL.out _ _ _ _ (Nat.le_refl _)) hik (by rw[HN.out];exact hkn) (by rw[HO.out];rfl) rfl ?_;refine⟨A0,c0,by rw[nmB,Lib.mk_data];rfl,Args.keep (λg hg=>?_) (λg hg=>zaj _ _ _ _ _ _ _ ?_) _ _ HARG.out⟩
     ·rcases hg with hg|hg
      ·exact hg.elim
      ·simp;omega
     ·rcases hg with hg|hg
      ·exact hg.elim
      ·omega
   ·have HO:Hid (args f (ts.drop (i+1))=some (done,ts.drop k)):=hidE (hargs.out.trans (by rw[zi4 f1 ts k (λh=>absurd h (by rw[HN.out];omega))];simp))
    have HARG:=hidE (Built.args (t:=.con X.data.toList done) (show Built _ _ _ wr (kids (.con X.data.toList done)) _ from⟨vs,hown,hrow⟩)).2;clear hvt hown hrow hb1 hb0 hbel hown2;go_wp2_with fail
    try simp only[Exit.inBlock,Exit.then]
    refine bodyPost_ret (zah rfl _ _ w.heap.size 29 _ (0,0) _ rfl (zad _ _ _ _ HB0.out) Tryz.underlying29 rfl (by kernel_rfl)) rfl ?_;refine zbq ts i w _ _ _ 3 X 0 A0 done.length c0 (.con X.data.toList done) k (zaf HBEL.out _ _ _ _ (Nat.le_refl _)) hik (by rw[HN.out];exact hkn) (by rw[HO.out];rfl) rfl ?_;refine⟨A0,c0,by rw[nmB,Lib.mk_data];rfl,Args.keep (λg hg=>?_) (λg hg=>zaj _ _ _ _ _ _ _ ?_) _ _ HARG.out⟩
    ·rcases hg with hg|hg
     ·exact hg.elim
     ·simp;omega
    ·rcases hg with hg|hg
     ·exact hg.elim
     ·omega
set_option maxRecDepth 100000
theorem zjx(f:Nat)(ts:List Tok)(v:Value)(w:World)(i:Nat)(hv:RdT w v ts)(hn:ts.length<=100000)(hi:i<=ts.length)(hf:4*(ts.length-i)+4<=f+1)(hq:isAt ts i 3 wForall=false)
  (IHA:∀(w:World)(i:Nat),RdT w v ts->i<=ts.length->4*(ts.length-i)+3<=f->Calls Tryz.prog 85 #[v,.int .i64 i] w (RPost ts i w (app f (ts.drop i))))
  (IHR:∀(w:World)(i:Nat),RdT w v ts->i<=ts.length->4*(ts.length-i)+4<=f->Calls Tryz.prog 58 #[v,.int .i64 i] w (RPost ts i w (read f (ts.drop i)))):Calls Tryz.prog 58 #[v,.int .i64 i] w (RPost ts i w (read (f+1) (ts.drop i))):=by
 have hIs:∀w,RdT w v ts->Calls Tryz.prog 84 #[v,.int .i64 i,.int .i64 3,.string ⟨#[102,111,114,97,108,108]⟩] w λe w'=>e=.returned (.bool false)/\w=w':=by
  intro w hv;rw[<-hq]
  exact zdU _ ts i 3 ⟨#[102,111,114,97,108,108]⟩ 3 rfl w hv
 have HO:=hidE (zm9 f ts i hq);obtain⟨O,hO⟩:∃O,read (f+1) (ts.drop i)=O:=⟨_,rfl⟩;rw[hO]
 rw[hO]at HO
 have HV:=hidE hv;have HA:=hidE IHA;have HR:=hidE IHR;clear hq hO hv IHA IHR;go_enter Tryz.func58,Tryz.ntmps58
 go_wp2_with (go_at_call 84;refine(hIs _ (HV.out.alloc _)).mono ?_;rintro e w2 ⟨rfl,rfl⟩)
 go_at_call 85
 refine(HA.out _ i (HV.out.alloc _) hi (by omega)).mono ?_;rintro e w1 ⟨b1,K1,X1,Z1,A1,m1,c1,hcases⟩;have hblk:Blk w1 w.heap.size 29 #[.int .i64 0,.string ⟨#[]⟩,.int .i64 0,.slice none 0 0]:=Blk.below (heap_alloc_new _ _) b1 (by simp);have HBLK:=hidE hblk;have B1:=hidE b1;obtain⟨a0,a1,a2,a3,r0,r1,r2,r3,hlw⟩:=zaa hblk;clear hblk b1;rcases hcases with⟨ho,rfl⟩|⟨t,k,hk,hkn,ho,rfl,hr⟩
 ·have HO:Hid (O=none):=hidE (HO.out.trans (by rw[ho]))
  clear ho;go_wp2_with fail
  try simp only[Exit.inBlock,Exit.then]
  refine bodyPost_ret (zah rfl _ _ w.heap.size 29 _ (0,0) _ rfl ((zad _ _ _ _ HBLK.out).alloc _) Tryz.underlying29 rfl (by kernel_rfl)) rfl ?_;exact za0 ts i w _ _ _ 0 ⟨#[]⟩ 0 none 0 0 ((zaf (zaD B1.out (Nat.le_refl _)) _ _ _ _ (Nat.le_refl _)).alloc (by simp;omega) _) HO.out rfl
 ·obtain⟨q,hq⟩:∃q,isAt ts k 6 [45,62]=q:=⟨_,rfl⟩
  have HQ:=hidE hq;have hIs2:∀w,RdT w v ts->Calls Tryz.prog 84 #[v,.int .i64 k,.int .i64 6,.string ⟨#[45,62]⟩] w λe w'=>e=.returned (.bool q)/\w=w':=by
   intro w hv;rw[<-hq]
   exact zdU _ ts k 6 ⟨#[45,62]⟩ 6 rfl w hv
  clear hq;have HO:Hid (O=match eat (isSign · [45,62]) (ts.drop k) with|none=>some (t,ts.drop k)|some r2=>(read f r2).map λx=>(.fn t x.1,x.2)):=hidE (HO.out.trans (by rw[ho];rfl));have HT:=hidE hr;clear ho hr;cases q
  ·have HO:Hid (O=some (t,ts.drop k)):=hidE (HO.out.trans (by rw[zd8 _ _ _ (by simp),HQ.out,if_neg (by simp)]))
   go_wp2_with (go_at_call 84;refine(hIs2 _ (((HV.out.alloc _).below B1.out).alloc _)).mono ?_;rintro e w2 ⟨rfl,rfl⟩)
   try simp only[Exit.inBlock,Exit.then]
   refine bodyPost_ret (zah rfl _ _ w.heap.size 29 _ (0,0) _ rfl ((zad _ _ _ _ HBLK.out).alloc _) Tryz.underlying29 rfl (by kernel_rfl)) rfl ?_;refine zbq ts i w _ _ _ K1 X1 Z1 A1 m1 c1 t k ((zaf (zaD B1.out (Nat.le_refl _)) _ _ _ _ (Nat.le_refl _)).alloc (by simp;omega) _) hk hkn HO.out rfl ?_;exact HT.out.keep (λg hg=>by simp at hg ⊢;omega) (λg hg=>by simp at hg;rw[Below.heap_alloc _ _ _ (by simp;omega)];exact zaj _ _ _ _ _ _ _ (by omega))
  ·have hkl:=zeX _ _ _ _ HQ.out
   have HO:Hid (O=(read f (ts.drop (k+1))).map λx=>(.fn t x.1,x.2)):=hidE (HO.out.trans (by rw[zd8 _ _ _ (by simp),HQ.out,if_pos rfl]));go_wp2_with (go_at_call 84;refine(hIs2 _ (((HV.out.alloc _).below B1.out).alloc _)).mono ?_;rintro e w2 ⟨rfl,rfl⟩)
   have hV1:=hidE ((((HV.out.alloc (.cells #[.int .i64 0,.string ⟨#[]⟩,.int .i64 0,.slice none 0 0] 29)).below B1.out).alloc (.cells #[.int .i64 K1,.string X1,.int .i64 Z1,.slice A1 m1 c1] 29)));refine(HR.out _ (k+1) hV1.out (by omega) (by omega)).mono ?_;rintro e w3 ⟨b3,K2,X2,Z2,A2,m2,c2,hcases⟩;have hb12:Blk w3 w1.heap.size 29 #[.int .i64 K1,.string X1,.int .i64 Z1,.slice A1 m1 c1]:=Blk.below (heap_alloc_new _ _) b3 (by simp);have hb0:Blk w3 w.heap.size 29 #[.int .i64 0,.string ⟨#[]⟩,.int .i64 0,.slice none 0 0]:=Blk.below (HBLK.out.alloc _) b3 (by simp;omega);obtain⟨a0,a1,a2,a3,r0,r1,r2,r3,hlw3⟩:=zaa hb0;obtain⟨p0,p1,p2,p3,s0,s1,s2,s3,hlx3⟩:=zaa hb12;have HB0:=hidE hb0;have B3:=hidE b3;have B13:=hidE (zaD b3 (Nat.le_refl _));have hbel:=hidE (bnext (zaD B1.out (Nat.le_refl _)) B13.out (Nat.le_refl _));clear hb12 hb0 b3;rcases hcases with⟨ho,rfl⟩|⟨u,k2,hk2,hkn2,ho,rfl,hr⟩
   ·have HO:Hid (O=none):=hidE (HO.out.trans (by rw[ho];rfl))
    clear ho;go_wp2_with fail
    try simp only[Exit.inBlock,Exit.then]
    refine bodyPost_ret (zah rfl _ _ w.heap.size 29 _ (0,0) _ rfl (((zad _ _ _ _ HB0.out).alloc _).alloc _) Tryz.underlying29 rfl (by kernel_rfl)) rfl ?_;exact za0 ts i w _ _ _ 4 ⟨#[]⟩ 0 _ 2 2 (((zaf hbel.out _ _ _ _ (Nat.le_refl _)).alloc (by simp;omega) _).alloc (by simp;omega) _) HO.out rfl
   ·have HO:Hid (O=some (.fn t u,ts.drop k2)):=hidE (HO.out.trans (by rw[ho];rfl))
    have HU:=hidE hr;clear ho hr;go_wp2_with fail
    try simp only[Exit.inBlock,Exit.then]
    refine bodyPost_ret (zah rfl _ _ w.heap.size 29 _ (0,0) _ rfl (((zad _ _ _ _ HB0.out).alloc _).alloc _) Tryz.underlying29 rfl (by kernel_rfl)) rfl ?_;refine zbq ts i w _ _ _ 4 ⟨#[]⟩ 0 (some ⟨w3.heap.size+1,0,none⟩) 2 2 (.fn t u) k2 (((zaf hbel.out _ _ _ _ (Nat.le_refl _)).alloc (by simp;omega) _).alloc (by simp;omega) _) (by omega) hkn2 HO.out rfl ?_;have s3:=B3.out.size;simp at s3;refine zkH (K1:=K1) (X1:=X1) (Z1:=Z1) (A1:=A1) (m1:=m1) (c1:=c1) (K2:=K2) (X2:=X2) (Z2:=Z2) (A2:=A2) (m2:=m2) (c2:=c2) ?_ ?_ (by simp;omega) ?_
    ·exact HT.out.keep (λg hg=>by simp at hg ⊢;omega) (λg hg=>by
      simp at hg;rw[Below.heap_alloc _ _ _ (by simp;omega),Below.heap_alloc _ _ _ (by simp;omega),zaj _ _ _ _ _ _ _ (by omega)]
      exact B13.out.block g hg.2)
    ·exact HU.out.keep (λg hg=>by simp at hg ⊢;omega) (λg hg=>by
      simp at hg;rw[Below.heap_alloc _ _ _ (by simp;omega),Below.heap_alloc _ _ _ (by simp;omega),zaj _ _ _ _ _ _ _ (by omega)])
    ·intro j x hx
     have:=zaK ((((((w3.setCell ⟨w.heap.size,0,none⟩ (.int .i64 4)).setCell ⟨w.heap.size,1,none⟩ (.string ⟨#[]⟩)).setCell ⟨w.heap.size,2,none⟩ (.int .i64 0)).setCell ⟨w.heap.size,3,none⟩ (.slice (some ⟨w3.heap.size+1,0,none⟩) 2 2))).alloc (.cells #[.int .i64 K2,.string X2,.int .i64 Z2,.slice A2 m2 c2] 29)) #[.int .i64 K1,.string X1,.int .i64 Z1,.slice A1 m1 c1,.int .i64 K2,.string X2,.int .i64 Z2,.slice A2 m2 c2] 29 (w3.heap.size+1) (by simp) j x hx;rw[zaQ]at this
     exact this
set_option maxRecDepth 100000
theorem zbi:(Tryz.prog.info? 9).map (λi=>(i.zero,i.size,i.bytes))=some (some (.string ⟨#[]⟩),1,16):=by kernel_rfl
set_option maxRecDepth 2000 in
theorem zjB(x:List UInt8)(A:Option Addr)(m c:Nat)(vb vo:Value)(bound out:List (List UInt8))(w:World)(hb:RowV w vb (strV bound))(ho:RowN w vo (strV out))(hbl:bound.length<=1000000)(hol:out.length<=1000000):Calls Tryz.prog 44 #[.agg #[.int .i64 1,.string ⟨x.toArray⟩,.int .i64 0,.slice A m c],vb,vo] w λe w'=>∃v',e=.returned v'/\RowN w' v' (strV (if x∈bound then out else addN x out))/\Below w.heap.size w w':=by
 obtain⟨X,hX⟩:∃X:ByteArray,⟨x.toArray⟩=X:=⟨_,rfl⟩;have hXx:X.data.toList=x:=by rw[<-hX]
 have cb:=hidE (λw' (h:RowV w' vb (strV bound))=>zdc vb bound X w' h hbl);have co:=hidE (λw' (h:RowV w' vo (strV out))=>zdc vo out X w' h hol);rw[hXx]at cb co
 rw[hX]
 have HX:=hidE hX;clear hX;obtain⟨p,hp⟩:∃p,decide (x∈bound)=p:=⟨_,rfl⟩;obtain⟨q,hq⟩:∃q,decide (x∈out)=q:=⟨_,rfl⟩;rw[hp]at cb
 rw[hq]at co
 have HP:=hidE hp;have HQ:=hidE hq;have HB:=hidE hb;have HO:=hidE ho;have HO1:=hidE ho.1;clear hp hq hb ho;have hal:∀o:Obj,Below w.heap.size w (w.alloc o):=λo=>(Below.refl _ _).alloc (Nat.le_refl _) _;have HAL:=hidE hal;clear hal;obtain⟨i0,hi0,hz0,hz1,hz2⟩:=info_parts zbi;obtain⟨L,hL⟩:∃L,(if x∈bound then out else addN x out)=L:=⟨_,rfl⟩;rw[hL]
 have HL:=hidE hL;clear hL;cases p
 ·cases q
  ·go_enter Tryz.func44,Tryz.ntmps44
   go_wp2_with (first|(go_at_call 24;(with_reducible refine(cb.out _ (HB.out.below (HAL.out _))).mono ?_);rintro e w1 ⟨rfl,rfl⟩)|(go_at_call 24;(with_reducible refine(co.out _ (HO1.out.below (HAL.out _))).mono ?_);rintro e w1 ⟨rfl,rfl⟩))
   have HRES:Hid (L=out++[x]):=hidE (by rw[<-HL.out,if_neg (of_decide_eq_false HP.out),addN,if_neg (of_decide_eq_false HQ.out)]);by_cases hz:out=[]
   ·obtain rfl:=HO.out.2 (by rw[hz];rfl)
    have HZ:=hidE hz;clear hz;have hs0:w.heap.size<(w.alloc (.cells #[.int .i64 1,.string X,.int .i64 0,.slice A m c] 29)).heap.size:=by simp
    go_region_held3 (λw'=>w'.cell? ⟨w.heap.size,1,none⟩=some (.string X)) (first|go_keep|(rw[hgrow.cell_far _ (by first|omega|(simp;done)|(simp;omega)) (by simp[Value.ownBlock];try omega)];assumption))
     ((refine step_append_lies _ (by rfl) _ _ _ (by rfl) w.heap.size 9 i0 _ 1 16 Tryz.underlying22 hi0 hz0 hz1 hz2 rfl (by omega) _ 0 [] (by rfl) (zba (by first|exact alloc_at _ _ _ (by simp)|exact zae _ _ _ _ (alloc_at _ _ _ (by simp))) (by first|omega|(simp;done)|(simp;omega))) _ 1 1 [.string X] (by rfl) (by rfl) (World.news_of_block (cs:=#[.string X]) (t:=9) (fr:=(0,0)) (by first|exact alloc_at _ _ _ (by simp)|exact zae _ _ _ _ (alloc_at _ _ _ (by simp)))) (by simp[Value.oneCell']) (by omega) (by unfold maxLen;omega) (by omega) (by first|omega|(simp;done)|(simp;omega)) _ rfl ?_;intro gg cap w1 hown1 hgrow hat hlt;have B1:Hid (Below w.heap.size w w1):=hidE (Below.grown (by repeat first|exact Below.refl _ _|exact B1.out|(refine Below.alloc ?_ (by first|omega|(simp;done)|(simp;omega)) _)|(refine Below.drew ?_)) hgrow (by first|omega|(simp;done)|(simp;omega)) (by intro k hk;simp[Value.ownBlock]at hk;omega));have HW1:=hidE hown1;clear hat hown1))
    all_goals
     go_wp2_with fail
     go_ret
     exact⟨_,rfl,by rw[HRES.out];exact zdy out x X HW1.out HX.out (by rw[HZ.out];rfl),B1.out⟩
   ·have HZ:=hidE hz
    obtain⟨A0,c0,rfl,hcl⟩:=HO1.out;rw[zaJ]at *
    have hk0:0<out.length:=List.length_pos_iff.2 hz;obtain⟨g0,rfl,hg0,hcells⟩:=hcl hk0;have HSL:Hid ((strV out).length=out.length*1):=hidE (by rw[zaJ,Nat.mul_one]);have HCELLS:Hid (∀W':World,Below w.heap.size w W'->∀j u,(strV out)[j]?=some u->W'.cell? ((⟨g0,0,none⟩:Addr).add j)=some u):=hidE λW' hb j u hu=>by
     rw[zaQ,hb.cell (p:=⟨g0,j,none⟩) hg0];exact hcells j u hu
    obtain⟨k,hk⟩:∃k,out.length=k:=⟨_,rfl⟩;rw[hk]at hk0 hol HSL ⊢
    have hs0:w.heap.size<(w.alloc (.cells #[.int .i64 1,.string X,.int .i64 0,.slice A m c] 29)).heap.size:=by simp
    clear hz hcl hcells hk;go_region_held3 (λw'=>w'.cell? ⟨w.heap.size,1,none⟩=some (.string X)) (first|go_keep|(rw[hgrow2.cell_far _ (by first|omega|(simp;done)|(simp;omega)) (by intro e;injection e with e;simp at e;omega)];assumption)|(rw[hgrow.cell_far _ (by first|omega|(simp;done)|(simp;omega)) (by simp[Value.ownBlock];try omega)];assumption))
     (first|((refine step_append_lies _ (by rfl) _ _ _ (by rfl) (w.heap.size+1) 9 i0 _ 1 16 Tryz.underlying22 hi0 hz0 hz1 hz2 rfl (by omega) _ 0 [] (by rfl) (zba (by first|exact alloc_at _ _ _ (by simp)|exact zae _ _ _ _ (alloc_at _ _ _ (by simp))) (by first|omega|(simp;done)|(simp;omega))) ⟨g0,0,none⟩ k c0 (strV out) (by rfl) HSL.out (HCELLS.out _ (by repeat first|exact Below.refl _ _|exact B1.out|(refine Below.alloc ?_ (by first|omega|(simp;done)|(simp;omega)) _)|(refine Below.drew ?_))) (zcg out) hk0 (by unfold maxLen;omega) (by omega) (by first|omega|(simp;done)|(simp;omega)) _ rfl ?_);intro gg cap w1 hown1 hgrow hat hlt;simp only[Nat.zero_add,List.nil_append]at hown1 ⊢;have B1:Hid (Below w.heap.size w w1):=hidE (Below.grown (by repeat first|exact Below.refl _ _|exact B1.out|(refine Below.alloc ?_ (by first|omega|(simp;done)|(simp;omega)) _)|(refine Below.drew ?_)) hgrow (by first|omega|(simp;done)|(simp;omega)) (by intro k hk;simp[Value.ownBlock]at hk;omega));have HW1:=hidE hown1;have HGE:w.heap.size+1<=gg:=(hown1.lt gg rfl).1;first|(have HXB:Hid (w1.heap[w.heap.size+1+1]?=some (.cells #[.string X] 9 (0,0))):=hidE ((hgrow.block _ (by first|omega|(simp;done)|(simp;omega)) (by simp[Value.ownBlock])).trans (alloc_at _ _ _ (by simp))))|(have HXB:Hid (w1.heap[w.heap.size+1]?=some (.cells #[.string X] 9 (0,0))):=hidE ((hgrow.block _ (by first|omega|(simp;done)|(simp;omega)) (by simp[Value.ownBlock])).trans (zae _ _ _ _ (alloc_at _ _ _ (by simp)))))|skip;clear hat hown1)|((refine step_append_lies _ (by rfl) _ _ _ (by rfl) (w.heap.size+1) 9 i0 _ 1 16 Tryz.underlying22 hi0 hz0 hz1 hz2 rfl (by omega) _ k (strV out) (by rfl) (by first|exact HW1.out|exact HW1.out.alloc _) _ 1 1 [.string X] (by rfl) (by rfl) (World.news_of_block (cs:=#[.string X]) (t:=9) (fr:=(0,0)) (by first|exact HXB.out|exact alloc_at _ _ _ (by simp))) (by simp[Value.oneCell']) (by omega) (by unfold maxLen;omega) (by omega) (by first|omega|(simp;done)|(simp;omega)) _ rfl ?_);intro gg2 cap2 w2 hown2 hgrow2' hat2 hlt2;have hgrow2:World.grownBy _ w2 (some gg):=hgrow2';clear hgrow2';have B2:Hid (Below w.heap.size w w2):=hidE (Below.grown (by repeat first|exact Below.refl _ _|exact B1.out|(refine Below.alloc ?_ (by first|omega|(simp;done)|(simp;omega)) _)|(refine Below.drew ?_)) hgrow2 (by first|omega|(simp;done)|(simp;omega)) (by intro k hk;injection hk with hk;omega));have HW2:=hidE hown2;clear hat2 hown2))
    all_goals
     go_wp2_with fail
     go_ret
     exact⟨_,rfl,by rw[HRES.out];exact zdy out x X HW2.out HX.out rfl,B2.out⟩
  ·have HRES:Hid (L=out):=hidE (by rw[<-HL.out,if_neg (of_decide_eq_false HP.out),addN,if_pos (of_decide_eq_true HQ.out)])
   go_enter Tryz.func44,Tryz.ntmps44
   go_wp2_with (first|(go_at_call 24;(with_reducible refine(cb.out _ (HB.out.below (HAL.out _))).mono ?_);rintro e w1 ⟨rfl,rfl⟩)|(go_at_call 24;(with_reducible refine(co.out _ (HO1.out.below (HAL.out _))).mono ?_);rintro e w1 ⟨rfl,rfl⟩))
   go_ret
   exact⟨_,rfl,by rw[HRES.out];exact HO.out.below (HAL.out _),HAL.out _⟩
 ·have HRES:Hid (L=out):=hidE (by rw[<-HL.out,if_pos (of_decide_eq_true HP.out)])
  cases q
  all_goals
   go_enter Tryz.func44,Tryz.ntmps44
   go_wp2_with (first|(go_at_call 24;(with_reducible refine(cb.out _ (HB.out.below (HAL.out _))).mono ?_);rintro e w1 ⟨rfl,rfl⟩)|(go_at_call 24;(with_reducible refine(co.out _ (HO1.out.below (HAL.out _))).mono ?_);rintro e w1 ⟨rfl,rfl⟩))
   go_ret
   exact⟨_,rfl,by rw[HRES.out];exact HO.out.below (HAL.out _),HAL.out _⟩
end Go.Proofs.YtaomnlcplmkokaaGreatDoor
namespace Go.Proofs.YtaomnlcplmkokaaGreatDoor
open Go.RowKit Lx Tx
set_option maxRecDepth 100000
def zkm(n:Nat):Prop:=∀(t:Ty)(S:Nat->Prop)(v vb vo:Value)(b out:List (List UInt8))(w:World),t.size<=n->RdV S w t v->(∀g,S g->g<w.heap.size)->RowN w vb (strV b)->RowN w vo (strV out) ->
 b.length+t.size<=1000000->out.length+t.size<=1000000->Calls Tryz.prog 44 #[v,vb,vo] w (FreePost t b out w)
set_option maxRecDepth 2000 in
theorem zdd(n:Nat)(IH:zkm n)(t:Ty)(S:Nat->Prop)(K:Int)(X:ByteArray)(Z:Int)(A:Option Addr)(m c:Nat)(vb vo:Value)(b out:List (List UInt8))(w:World)(hn:t.size<=n+1)
  (d1:((K:Int)==1)=false)(d5:((K:Int)==5)=false)(hf:t.freeO b out=zaS b (kids t) out)(hm:(kids t).length=m)(ha:Args S w t A)(hS:∀g,S g->g<w.heap.size)(hb:RowN w vb (strV b))(ho:RowN w vo (strV out))
  (hbl:b.length+t.size<=1000000)(hol:out.length+t.size<=1000000):Calls Tryz.prog 44 #[.agg #[.int .i64 K,.string X,.int .i64 Z,.slice A m c],vb,vo] w (FreePost t b out w):=by
 have HM:=hidE hm;have HA:=hidE ha;have HIH:=hidE IH;have HS:=hidE hS;have HN:=hidE hn;have HF:=hidE hf;have HB:=hidE hb;have HO:=hidE ho;have HBL:=hidE hbl;have HOL:=hidE hol;have hm6:m<=1000000:=by have:=zaW t;omega
 clear hm ha IH hS hn hf hb ho hbl hol;go_enter Tryz.func44,Tryz.ntmps44
 go_wp2_with fail
 go_loopg [2,10] m (λgg vs vi wr=>∃(i:Nat) (o:List (List UInt8)),gg=m-i/\vi=.int .i64 i/\i<=m/\Hid (o=zaS b ((kids t).take i) out)/\RowN wr vs (strV o)/\Below (w.heap.size+1) (w.alloc (.cells #[.int .i64 K,.string X,.int .i64 Z,.slice A m c] 29)) wr)
 case atStart=>exact⟨0,out,rfl,rfl,by omega,hidE rfl,HO.out.below ((Below.refl _ _).alloc (Nat.le_refl _) _),Below.refl _ _⟩
 case round =>
  obtain⟨i,o,rfl,rfl,hi,hd,hro,hb⟩:=hrel;have c3:wr.cell? ⟨w.heap.size,3,none⟩=some (.slice A m c):=(hb.cell (p:=⟨w.heap.size,3,none⟩) (by simp)).trans (cell_of_row _ _ _ _ _ _ (heap_alloc_new _ _));have HB2:=hidE hb;have HRO:=hidE hro;clear hb hro;by_cases hlt:i<m
  ·obtain⟨g,u,K1,X1,Z1,A1,n1,c1,rfl,hg,e0,e1,e2,e3,hu,hrd,hsz⟩:=zaP (w':=wr) HA.out HM.out hlt (λg hg=>by rw[HB2.out.block g (by have:=HS.out g hg;omega),Below.heap_alloc _ _ _ (HS.out g hg)])
   have hbw:Below w.heap.size w wr:=((Below.refl _ w).alloc (Nat.le_refl _) _).trans (HB2.out.mono (by omega));have hgw:g<wr.heap.size:=by have:=hbw.size;have:=HS.out g hg;omega
   have hlen:o.length+u.size<=1000000:=by
    have h1:=zfp b ((kids t).take i) out;rw[<-hd.out]at h1
    obtain⟨hil,hul⟩:=List.getElem?_eq_some_iff.1 hu;have h2:=zdO (kids t) i;have h3:u.size<=zab ((kids t).drop i):=by
     rw[List.drop_eq_getElem_cons hil,zab,hul];omega
    have:=zak t;have:=HOL.out;omega
   have hcall:=HIH.out u S _ vb u2 b o wr (by have:=HN.out;omega) hrd (λg hg=>by have:=hbw.size;have:=HS.out g hg;omega) (HB.out.below hbw) HRO.out (by have:=HBL.out;omega) hlen;have hnx:=hidE (zeH b _ _ _ _ _ hd hu);clear hrd hu hd hbw hlen;go_wp2_with (go_at_call 44;refine hcall.mono ?_;rintro e w1 ⟨v1,rfl,hr1,b1⟩)
   have HR1:=hidE hr1;have HB3:=hidE (bnext HB2.out b1 (by simp));go_roundg (m-(i+1))
   case measure=>omega
   case rel=>exact⟨i+1,_,rfl,by go_num,by omega,hnx,HR1.out,HB3.out⟩
  ·have hr:=hidE (show o=t.freeO b out by rw[HF.out,hd.out,List.take_of_length_le (by rw[HM.out];omega)])
   go_wp2_with fail
   go_ret
   exact⟨_,rfl,by rw[<-hr.out];exact HRO.out,((Below.refl _ w).alloc (Nat.le_refl _) _).trans (HB2.out.mono (by omega))⟩
set_option maxRecDepth 2000 in
theorem zjC(n:Nat)(IH:zkm n)(x:List UInt8)(t:Ty)(S:Nat->Prop)(Z:Int)(A:Option Addr)(c:Nat)(vb vo:Value)(b out:List (List UInt8))(w:World)(hn:(Ty.all x t).size<=n+1)
  (ha:Args S w (.all x t) A)(hS:∀g,S g->g<w.heap.size)(hb:RowN w vb (strV b))(ho:RowN w vo (strV out))(hbl:b.length+(Ty.all x t).size<=1000000)(hol:out.length+(Ty.all x t).size<=1000000):Calls Tryz.prog 44 #[.agg #[.int .i64 5,.string ⟨x.toArray⟩,.int .i64 Z,.slice A 1 c],vb,vo] w (FreePost (.all x t) b out w):=by
 obtain⟨X,hX⟩:∃X:ByteArray,⟨x.toArray⟩=X:=⟨_,rfl⟩;rw[hX]
 have HX:=hidE hX;have HA:=hidE ha;have HIH:=hidE IH;have HS:=hidE hS;have HN:=hidE hn;have HF:=hidE (zdN (.all x t) b out (λ_ h=>by cases h));have HB:=hidE hb;have HB1:=hidE hb.1;have HO:=hidE ho;have HBL:=hidE hbl;have HOL:=hidE hol;have hbl6:b.length<=1000000:=by omega
 obtain⟨i0,hi0,hz0,hz1,hz2⟩:=info_parts zbi;have hs0:w.heap.size<(w.alloc (.cells #[.int .i64 5,.string X,.int .i64 Z,.slice A 1 c] 29)).heap.size:=by simp
 by_cases hz:b=[]
 ·obtain rfl:=HB.out.2 (by rw[hz];rfl)
  have HZ:=hidE hz;clear hz hX ha IH hS hn hb ho hbl hol;go_enter Tryz.func44,Tryz.ntmps44
  go_wp2_with fail
  go_region_held3 (λw'=>w'.cell? ⟨w.heap.size,1,none⟩=some (.string X)/\w'.cell? ⟨w.heap.size,3,none⟩=some (.slice A 1 c)) (first|go_keep|(go_split_ands;refine⟨?_,?_⟩ <;>(rw[hgrow2.cell_far _ (by first|omega|(simp;done)|(simp;omega)) (by intro e;injection e with e;simp at e;omega)];assumption))|(go_split_ands;refine⟨?_,?_⟩ <;>(rw[hgrow.cell_far _ (by first|omega|(simp;done)|(simp;omega)) (by simp[Value.ownBlock];try omega)];assumption)))
   (((refine step_append_lies _ (by rfl) _ _ _ (by rfl) (w.heap.size+1) 9 i0 _ 1 16 Tryz.underlying22 hi0 hz0 hz1 hz2 rfl (by omega) _ 0 [] (by rfl) (zba (by first|exact alloc_at _ _ _ (by simp)|exact zae _ _ _ _ (alloc_at _ _ _ (by simp))) (by first|omega|(simp;done)|(simp;omega))) _ 1 1 [.string X] (by rfl) (by rfl) (World.news_of_block (cs:=#[.string X]) (t:=9) (fr:=(0,0)) (by first|exact alloc_at _ _ _ (by simp)|exact zae _ _ _ _ (alloc_at _ _ _ (by simp)))) (by simp[Value.oneCell']) (by omega) (by unfold maxLen;omega) (by omega) (by first|omega|(simp;done)|(simp;omega)) _ rfl ?_);intro gg cap w2 hown1 hgrow hat hlt;have B2:Hid (Below (w.heap.size+1) (w.alloc (.cells #[.int .i64 5,.string X,.int .i64 Z,.slice A 1 c] 29)) w2):=hidE (Below.grown (by repeat first|exact Below.refl _ _|exact B1.out|(refine Below.alloc ?_ (by first|omega|(simp;done)|(simp;omega)) _)|(refine Below.drew ?_)) hgrow (by first|omega|(simp;done)|(simp;omega)) (by intro k hk;simp[Value.ownBlock]at hk;omega));have HW2:=hidE hown1;clear hat hown1))
  all_goals (
   clear hgrow;have c3w:w2.cell? ⟨w.heap.size,3,none⟩=some (.slice A 1 c):=(B2.out.cell (p:=⟨w.heap.size,3,none⟩) (by simp)).trans (cell_of_row _ _ _ _ _ _ (heap_alloc_new _ _));have hbel2:Hid (Below w.heap.size w w2):=hidE (((Below.refl _ w).alloc (Nat.le_refl _) _).trans (B2.out.mono (by omega)));have HRB:Hid (RowN w2 _ (strV (b++[x]))):=hidE (zdy b x X HW2.out HX.out (by rw[HZ.out];rfl));clear HW2;go_wp2_with fail
   go_loopg [2,10] 1 (λgg vs vi wr=>∃(i:Nat) (o:List (List UInt8)),gg=1-i/\vi=.int .i64 i/\i<=1/\Hid (o=zaS (b++[x]) ((kids (.all x t)).take i) out)/\RowN wr vs (strV o)/\Below w2.heap.size w2 wr)
   case atStart=>exact⟨0,out,rfl,rfl,by omega,hidE rfl,HO.out.below hbel2.out,Below.refl _ _⟩
   case round =>
    obtain⟨i,o,rfl,rfl,hi,hd,hro,hb⟩:=hrel;have hbw:Below w.heap.size w wr:=bnext hbel2.out hb (Nat.le_refl _);have c3:wr.cell? ⟨w.heap.size,3,none⟩=some (.slice A 1 c):=(hb.cell (p:=⟨w.heap.size,3,none⟩) (by have:=B2.out.size;simp at this;simp;omega)).trans c3w;have HB2:=hidE hb;have HRO:=hidE hro;have HBW:=hidE hbw;clear hb hro;by_cases hlt:i<1
    ·obtain⟨g,u,K1,X1,Z1,A1,n1,c1,rfl,hg,e0,e1,e2,e3,hu,hrd,hsz⟩:=zaP (w':=wr) HA.out (show(kids (.all x t)).length=1 from rfl) hlt (λg hg=>hbw.block g (HS.out g hg))
     have hgw:g<wr.heap.size:=by have:=hbw.size;have:=HS.out g hg;omega
     have hlen:o.length+u.size<=1000000:=by
      obtain rfl:i=0:=by omega
      have h1:=HOL.out;rw[hd.out]
      simp only[List.take_zero,zaS];omega
     have hcall:=HIH.out u S _ _ u2 (b++[x]) o wr (by have:=HN.out;omega) hrd (λg hg=>by have:=hbw.size;have:=HS.out g hg;omega) (HRB.out.below HB2.out) HRO.out (by have:=HBL.out;simp;omega) hlen;have hnx:=hidE (zeH (b++[x]) _ _ _ _ _ hd hu);clear hrd hu hd hbw hlen;go_wp2_with (go_at_call 44;refine hcall.mono ?_;rintro e w3 ⟨v1,rfl,hr1,b1⟩)
     have HR1:=hidE hr1;have HB3:=hidE (bnext HB2.out b1 (Nat.le_refl _));go_roundg (1-(i+1))
     case measure=>omega
     case rel=>exact⟨i+1,_,rfl,by go_num,by omega,hnx,HR1.out,HB3.out⟩
    ·have hr:=hidE (show o=(Ty.all x t).freeO b out by rw[HF.out,hd.out,List.take_of_length_le (by show 1<=i;omega)];rfl)
     clear hbw;go_wp2_with fail
     go_ret
     exact⟨_,rfl,by rw[<-hr.out];exact HRO.out,HBW.out⟩
   )
 ·have HZ:=hidE hz
  obtain⟨A0,c0,rfl,hcl⟩:=HB1.out;rw[zaJ]at *
  have hk0:0<b.length:=List.length_pos_iff.2 hz;obtain⟨g0,rfl,hg0,hcells⟩:=hcl hk0;have HSL:Hid ((strV b).length=b.length*1):=hidE (by rw[zaJ,Nat.mul_one]);have HCELLS:Hid (∀W':World,Below (w.heap.size+1) (w.alloc (.cells #[.int .i64 5,.string X,.int .i64 Z,.slice A 1 c] 29)) W'->∀j u,(strV b)[j]?=some u->W'.cell? ((⟨g0,0,none⟩:Addr).add j)=some u):=hidE λW' hb j u hu=>by
   rw[zaQ,hb.cell (p:=⟨g0,j,none⟩) (by simp;omega),World.cell?_of_block (w:=w) (a:=⟨g0,j,none⟩) (Below.heap_alloc _ _ _ hg0)];exact hcells j u hu
  obtain⟨k,hk⟩:∃k,b.length=k:=⟨_,rfl⟩;rw[hk]at hk0 hbl6 HSL HB ⊢
  clear hz hcl hcells hk hX ha IH hS hn hb ho hbl hol HB1;go_enter Tryz.func44,Tryz.ntmps44
  go_wp2_with fail
  go_region_held3 (λw'=>w'.cell? ⟨w.heap.size,1,none⟩=some (.string X)/\w'.cell? ⟨w.heap.size,3,none⟩=some (.slice A 1 c)) (first|go_keep|(go_split_ands;refine⟨?_,?_⟩ <;>(rw[hgrow2.cell_far _ (by first|omega|(simp;done)|(simp;omega)) (by intro e;injection e with e;simp at e;omega)];assumption))|(go_split_ands;refine⟨?_,?_⟩ <;>(rw[hgrow.cell_far _ (by first|omega|(simp;done)|(simp;omega)) (by simp[Value.ownBlock];try omega)];assumption)))
   (first|((refine step_append_lies _ (by rfl) _ _ _ (by rfl) (w.heap.size+1) 9 i0 _ 1 16 Tryz.underlying22 hi0 hz0 hz1 hz2 rfl (by omega) _ 0 [] (by rfl) (zba (by first|exact alloc_at _ _ _ (by simp)|exact zae _ _ _ _ (alloc_at _ _ _ (by simp))) (by first|omega|(simp;done)|(simp;omega))) ⟨g0,0,none⟩ k c0 (strV b) (by rfl) HSL.out (HCELLS.out _ (by repeat first|exact Below.refl _ _|exact B1.out|(refine Below.alloc ?_ (by first|omega|(simp;done)|(simp;omega)) _)|(refine Below.drew ?_))) (zcg b) hk0 (by unfold maxLen;omega) (by omega) (by first|omega|(simp;done)|(simp;omega)) _ rfl ?_);intro gg cap w1 hown1 hgrow hat hlt;simp only[Nat.zero_add,List.nil_append]at hown1 ⊢;have B1:Hid (Below (w.heap.size+1) (w.alloc (.cells #[.int .i64 5,.string X,.int .i64 Z,.slice A 1 c] 29)) w1):=hidE (Below.grown (by repeat first|exact Below.refl _ _|exact B1.out|(refine Below.alloc ?_ (by first|omega|(simp;done)|(simp;omega)) _)|(refine Below.drew ?_)) hgrow (by first|omega|(simp;done)|(simp;omega)) (by intro k hk;simp[Value.ownBlock]at hk;omega));have HW1:=hidE hown1;have HGE:(w.heap.size+1)<=gg:=(hown1.lt gg rfl).1;first|(have HXB:Hid (w1.heap[w.heap.size+1+1]?=some (.cells #[.string X] 9 (0,0))):=hidE ((hgrow.block _ (by first|omega|(simp;done)|(simp;omega)) (by simp[Value.ownBlock])).trans (alloc_at _ _ _ (by simp))))|(have HXB:Hid (w1.heap[w.heap.size+1]?=some (.cells #[.string X] 9 (0,0))):=hidE ((hgrow.block _ (by first|omega|(simp;done)|(simp;omega)) (by simp[Value.ownBlock])).trans (zae _ _ _ _ (alloc_at _ _ _ (by simp)))))|skip;clear hat hown1)|((refine step_append_lies _ (by rfl) _ _ _ (by rfl) (w.heap.size+1) 9 i0 _ 1 16 Tryz.underlying22 hi0 hz0 hz1 hz2 rfl (by omega) _ k (strV b) (by rfl) (by first|exact HW1.out|exact HW1.out.alloc _) _ 1 1 [.string X] (by rfl) (by rfl) (World.news_of_block (cs:=#[.string X]) (t:=9) (fr:=(0,0)) (by first|exact HXB.out|exact alloc_at _ _ _ (by simp))) (by simp[Value.oneCell']) (by omega) (by unfold maxLen;omega) (by omega) (by first|omega|(simp;done)|(simp;omega)) _ rfl ?_);intro gg2 cap2 w2 hown2 hgrow2' hat2 hlt2;have hgrow2:World.grownBy _ w2 (some gg):=hgrow2';clear hgrow2';have B2:Hid (Below (w.heap.size+1) (w.alloc (.cells #[.int .i64 5,.string X,.int .i64 Z,.slice A 1 c] 29)) w2):=hidE (Below.grown (by repeat first|exact Below.refl _ _|exact B1.out|(refine Below.alloc ?_ (by first|omega|(simp;done)|(simp;omega)) _)|(refine Below.drew ?_)) hgrow2 (by first|omega|(simp;done)|(simp;omega)) (by intro k hk;injection hk with hk;omega));have HW2:=hidE hown2;clear hat2 hown2))
  all_goals (
   clear hgrow hgrow2;have c3w:w2.cell? ⟨w.heap.size,3,none⟩=some (.slice A 1 c):=(B2.out.cell (p:=⟨w.heap.size,3,none⟩) (by simp)).trans (cell_of_row _ _ _ _ _ _ (heap_alloc_new _ _));have hbel2:Hid (Below w.heap.size w w2):=hidE (((Below.refl _ w).alloc (Nat.le_refl _) _).trans (B2.out.mono (by omega)));have HRB:Hid (RowN w2 _ (strV (b++[x]))):=hidE (zdy b x X HW2.out HX.out rfl);clear HW2;go_wp2_with fail
   go_loopg [2,10] 1 (λgg vs vi wr=>∃(i:Nat) (o:List (List UInt8)),gg=1-i/\vi=.int .i64 i/\i<=1/\Hid (o=zaS (b++[x]) ((kids (.all x t)).take i) out)/\RowN wr vs (strV o)/\Below w2.heap.size w2 wr)
   case atStart=>exact⟨0,out,rfl,rfl,by omega,hidE rfl,HO.out.below hbel2.out,Below.refl _ _⟩
   case round =>
    obtain⟨i,o,rfl,rfl,hi,hd,hro,hb⟩:=hrel;have hbw:Below w.heap.size w wr:=bnext hbel2.out hb (Nat.le_refl _);have c3:wr.cell? ⟨w.heap.size,3,none⟩=some (.slice A 1 c):=(hb.cell (p:=⟨w.heap.size,3,none⟩) (by have:=B2.out.size;simp at this;simp;omega)).trans c3w;have HB2:=hidE hb;have HRO:=hidE hro;have HBW:=hidE hbw;clear hb hro;by_cases hlt:i<1
    ·obtain⟨g,u,K1,X1,Z1,A1,n1,c1,rfl,hg,e0,e1,e2,e3,hu,hrd,hsz⟩:=zaP (w':=wr) HA.out (show(kids (.all x t)).length=1 from rfl) hlt (λg hg=>hbw.block g (HS.out g hg))
     have hgw:g<wr.heap.size:=by have:=hbw.size;have:=HS.out g hg;omega
     have hlen:o.length+u.size<=1000000:=by
      obtain rfl:i=0:=by omega
      have h1:=HOL.out;rw[hd.out]
      simp only[List.take_zero,zaS];omega
     have hcall:=HIH.out u S _ _ u2 (b++[x]) o wr (by have:=HN.out;omega) hrd (λg hg=>by have:=hbw.size;have:=HS.out g hg;omega) (HRB.out.below HB2.out) HRO.out (by have:=HBL.out;simp;omega) hlen;have hnx:=hidE (zeH (b++[x]) _ _ _ _ _ hd hu);clear hrd hu hd hbw hlen;go_wp2_with (go_at_call 44;refine hcall.mono ?_;rintro e w3 ⟨v1,rfl,hr1,b1⟩)
     have HR1:=hidE hr1;have HB3:=hidE (bnext HB2.out b1 (Nat.le_refl _));go_roundg (1-(i+1))
     case measure=>omega
     case rel=>exact⟨i+1,_,rfl,by go_num,by omega,hnx,HR1.out,HB3.out⟩
    ·have hr:=hidE (show o=(Ty.all x t).freeO b out by rw[HF.out,hd.out,List.take_of_length_le (by show 1<=i;omega)];rfl)
     clear hbw;go_wp2_with fail
     go_ret
     exact⟨_,rfl,by rw[<-hr.out];exact HRO.out,HBW.out⟩
   )
theorem zmG(n:Nat):zkm n:=by
 induction n with
 |zero=>intro t S v vb vo b out w h;have:=zak t;omega
 |succ n ih =>
  intro t S v vb vo b out w hn hv hS hb ho hbl hol;obtain⟨A,c,rfl,ha⟩:=hv;cases t with
  |var x =>
   refine(zjB x A _ c vb vo b out w hb.1 ho (by omega) (by omega)).mono ?_;rintro e w' ⟨v',h1,h2,h3⟩;exact⟨v',h1,by rw[Ty.freeO];exact h2,h3⟩
  |mt k=>exact zdd n ih (.mt k) S _ _ _ A _ c vb vo b out w hn rfl rfl (zdN _ _ _ (λ_ h=>by cases h)) rfl ha hS hb ho hbl hol
  |con k l=>exact zdd n ih (.con k l) S _ _ _ A _ c vb vo b out w hn rfl rfl (zdN _ _ _ (λ_ h=>by cases h)) rfl ha hS hb ho hbl hol
  |fn t u=>exact zdd n ih (.fn t u) S _ _ _ A _ c vb vo b out w hn rfl rfl (zdN _ _ _ (λ_ h=>by cases h)) rfl ha hS hb ho hbl hol
  |all x t=>exact zjC n ih x t S _ A c vb vo b out w hn ha hS hb ho hbl hol
theorem zbs(t:Ty)(S:Nat->Prop)(v:Value)(w:World)(hs:t.size<=1000000)(hv:RdV S w t v)(hS:∀g,S g->g<w.heap.size):Calls Tryz.prog 18 #[v] w λe w'=>∃v',e=.returned v'/\RowN w' v' (strV t.free)/\Below w.heap.size w w':=by
 obtain⟨K,X,Z,A,m,c,rfl,-,-,-,hm,ha⟩:=hv.parts;have hcall:=hidE (λw' (hv':RdV S w' t (.agg #[.int .i64 K,.string X,.int .i64 Z,.slice A m c])) hS'=>zmG 1000000 t S _ (.slice none 0 0) (.slice none 0 0) [] [] w' hs hv' hS' (RowN.nil w') (RowN.nil w') (by simpa using hs) (by simpa using hs));have HV:=hidE (hv.keep (S':=S) (w':=w.alloc (.cells #[.int .i64 K,.string X,.int .i64 Z,.slice A m c] 29)) (λ_ h=>h) (λg hg=>Below.heap_alloc _ _ _ (hS g hg)));have HS:=hidE hS;clear hv hm ha hS;go_enter Tryz.func18,Tryz.ntmps18
 go_wp2_with (go_at_call 44;refine(hcall.out _ HV.out (λg hg=>by have:=HS.out g hg;simp;omega)).mono ?_;rintro e w1 ⟨v1,rfl,hr1,b1⟩)
 go_ret
 exact⟨_,rfl,hr1,zaD b1 (Nat.le_refl _)⟩
end Go.Proofs.YtaomnlcplmkokaaGreatDoor
namespace Go.Proofs.YtaomnlcplmkokaaGreatDoor
open Go.RowKit Lx Tx
set_option maxRecDepth 100000
theorem zjD:(Tryz.prog.info? 3).map (λi=>(i.zero,i.size,i.bytes))=some (some (.int .i64 0),1,8):=by kernel_rfl
set_option maxRecDepth 2000 in
theorem zjE(k:Nat)(X:ByteArray)(A:Option Addr)(m c:Nat)(vo:Value)(out:List Nat)(w:World)(ho:RowN w vo (intV out))(hol:out.length<=100000):Calls Tryz.prog 60 #[.agg #[.int .i64 2,.string X,.int .i64 k,.slice A m c],vo] w λe w'=>∃v',e=.returned v'/\RowN w' v' (intV (addN k out))/\Below w.heap.size w w':=by
 obtain⟨L,hL⟩:∃L,addN k out=L:=⟨_,rfl⟩;rw[hL]
 have HL:=hidE hL;clear hL;have HO:=hidE ho;have HO1:=hidE ho.1;obtain⟨i0,hi0,hz0,hz1,hz2⟩:=info_parts zjD;have hs0:w.heap.size<(w.alloc (.cells #[.int .i64 2,.string X,.int .i64 k,.slice A m c] 29)).heap.size:=by simp
 by_cases hz:out=[]
 ·obtain rfl:=HO.out.2 (by rw[hz];rfl)
  have HZ:=hidE hz;have HRES:Hid (L=out++[k]):=hidE (by rw[<-HL.out,hz];rfl);clear hz ho hol;go_enter Tryz.func60,Tryz.ntmps60
  go_wp2_with fail
  go_loopg [5] 0 (λgg vi wr=>gg=0/\vi=.int .i64 0/\wr=w.alloc (.cells #[.int .i64 2,.string X,.int .i64 k,.slice A m c] 29))
  case atStart=>exact⟨rfl,rfl,rfl⟩
  case round =>
   obtain⟨rfl,rfl,rfl⟩:=hrel;go_wp2_with fail
   go_region_held3 (λw'=>w'.cell? ⟨w.heap.size,2,none⟩=some (.int .i64 k)) (first|go_keep|(rw[hgrow2.cell_far _ (by first|omega|(simp;done)|(simp;omega)) (by intro e;injection e with e;simp at e;omega)];assumption)|(rw[hgrow.cell_far _ (by first|omega|(simp;done)|(simp;omega)) (by simp[Value.ownBlock];try omega)];assumption))
    (((refine step_append_lies _ (by rfl) _ _ _ (by rfl) (w.heap.size+1) 3 i0 _ 1 8 Tryz.underlying63 hi0 hz0 hz1 hz2 rfl (by omega) _ 0 [] (by rfl) (zba (by first|exact alloc_at _ _ _ (by simp)|exact zae _ _ _ _ (alloc_at _ _ _ (by simp))) (by first|omega|(simp;done)|(simp;omega))) _ 1 1 [.int .i64 k] (by rfl) (by rfl) (World.news_of_block (cs:=#[.int .i64 k]) (t:=3) (fr:=(0,0)) (by first|exact alloc_at _ _ _ (by simp)|exact zae _ _ _ _ (alloc_at _ _ _ (by simp)))) (by simp[Value.oneCell']) (by omega) (by unfold maxLen;omega) (by omega) (by first|omega|(simp;done)|(simp;omega)) _ rfl ?_);intro gg cap w2 hown1 hgrow hat hlt;have B2:Hid (Below w.heap.size w w2):=hidE (Below.grown (by repeat first|exact Below.refl _ _|exact B1.out|(refine Below.alloc ?_ (by first|omega|(simp;done)|(simp;omega)) _)|(refine Below.drew ?_)) hgrow (by first|omega|(simp;done)|(simp;omega)) (by intro k hk;simp[Value.ownBlock]at hk;omega));have HW2:=hidE hown1;clear hat hown1))
   all_goals
    go_wp2_with fail
    go_ret
    exact⟨_,rfl,by rw[HRES.out];exact zhO out k HW2.out (by rw[HZ.out];rfl),B2.out⟩
 ·have HZ:=hidE hz
  obtain⟨A0,c0,rfl,hcl⟩:=HO1.out;rw[zfl]at *
  have hk0:0<out.length:=List.length_pos_iff.2 hz;obtain⟨g0,rfl,hg0,hcells⟩:=hcl hk0;have HSL:Hid ((intV out).length=out.length*1):=hidE (by rw[zfl,Nat.mul_one]);have HCELLS:Hid (∀W':World,Below w.heap.size w W'->∀j u,(intV out)[j]?=some u->W'.cell? ((⟨g0,0,none⟩:Addr).add j)=some u):=hidE λW' hb j u hu=>by
   rw[zaQ,hb.cell (p:=⟨g0,j,none⟩) hg0];exact hcells j u hu
  have HAT:Hid (∀j (h:j<out.length),w.cell? ⟨g0,j,none⟩=some (.int .i64 (out[j]:Nat))):=hidE λj h=>hcells j _ (zif out j h);obtain⟨z,hk⟩:∃z,out.length=z:=⟨_,rfl⟩;have HK:=hidE hk;rw[hk]at hk0 hol HSL ⊢
  have HO2:=hidE ho;rw[hk]at HO2
  clear hz hcl hcells hk ho HO HO1;go_enter Tryz.func60,Tryz.ntmps60
  go_wp2_with fail
  go_loopg [5] z (λgg vi wr=>∃(i:Nat) (nd:Nat),gg=z-i/\vi=.int .i64 i/\i<=z/\wr=(w.alloc (.cells #[.int .i64 2,.string X,.int .i64 k,.slice A m c] 29)).drewN nd/\Hid (k∉out.take i))
  case atStart=>exact⟨0,0,rfl,rfl,by omega,rfl,hidE (by simp)⟩
  case round =>
   obtain⟨i,nd,rfl,rfl,hi,rfl,hni⟩:=hrel;by_cases hlt:i<z
   ·have hol':i<out.length:=by rw[HK.out];exact hlt
    obtain⟨y,hy⟩:∃y,out[i]=y:=⟨_,rfl⟩;have e0:=HAT.out i hol';rw[hy]at e0
    have hlI:(i:Int)<(z:Int):=by omega
    have hiI:(0:Int)<=(i:Int):=by omega
    by_cases hyk:y=k
    ·have dy:=kT y k hyk
     have HRES:Hid (L=out):=hidE (by rw[<-HL.out,addN,if_pos (by rw[<-hyk,<-hy];exact List.getElem_mem hol')]);clear hyk hy;go_wp2_with fail
     go_quiet (fail)
     go_wp2_with fail
     go_ret
     have hb2:Below w.heap.size w (((w.alloc (.cells #[.int .i64 2,.string X,.int .i64 k,.slice A m c] 29)).drewN nd).drewN nq):=below_drewN' (below_drewN' ((Below.refl _ w).alloc (Nat.le_refl _) _) nd) nq;exact⟨_,rfl,by rw[HRES.out];exact HO2.out.below hb2,hb2⟩
    ·have dy:=kF y k hyk
     have hnx:=hidE (zfm k out i hol' hni (by rw[hy];exact hyk));clear hyk hy;go_wp2_with fail
     go_quiet (fail)
     go_wp2_with fail
     go_roundg (z-(i+1))
     case measure=>omega
     case rel=>exact⟨i+1,nd+nq,rfl,by go_num,by omega,by rw[zi9],hnx⟩
   ·have HRES:Hid (L=out++[k]):=hidE (by rw[<-HL.out,addN,if_neg (by have:=hni.out;rwa [List.take_of_length_le (by rw[HK.out];omega)]at this)])
    obtain⟨W,hW⟩:∃W:World,(w.alloc (.cells #[.int .i64 2,.string X,.int .i64 k,.slice A m c] 29)).drewN nd=W:=⟨_,rfl⟩;have hwb:Hid (Below w.heap.size w W):=hidE (hW▸below_drewN' ((Below.refl _ w).alloc (Nat.le_refl _) _) nd);have x0:W.cell? ⟨w.heap.size,0,none⟩=some (.int .i64 2):=hW▸cell_of_row _ _ _ _ _ _ (heap_alloc_new w (.cells #[.int .i64 2,.string X,.int .i64 k,.slice A m c] 29));have x2:W.cell? ⟨w.heap.size,2,none⟩=some (.int .i64 k):=hW▸cell_of_row _ _ _ _ _ _ (heap_alloc_new w (.cells #[.int .i64 2,.string X,.int .i64 k,.slice A m c] 29));have hs1:w.heap.size+1<=W.heap.size:=by rw[<-hW];simp
    have hs2:w.heap.size<W.heap.size:=by omega
    rw[hW]
    clear hW hni;go_wp2_with fail
    go_region_held3 (λw'=>w'.cell? ⟨w.heap.size,2,none⟩=some (.int .i64 k)) (first|go_keep|(rw[hgrow2.cell_far _ (by first|omega|(simp;done)|(simp;omega)) (by intro e;injection e with e;simp at e;omega)];assumption)|(rw[hgrow.cell_far _ (by first|omega|(simp;done)|(simp;omega)) (by simp[Value.ownBlock];try omega)];assumption))
     (first|((refine step_append_lies _ (by rfl) _ _ _ (by rfl) (w.heap.size+1) 3 i0 _ 1 8 Tryz.underlying63 hi0 hz0 hz1 hz2 rfl (by omega) _ 0 [] (by rfl) (zba (by first|exact alloc_at _ _ _ (by simp)|exact zae _ _ _ _ (alloc_at _ _ _ (by simp))) (by first|omega|(simp;done)|(simp;omega))) ⟨g0,0,none⟩ z c0 (intV out) (by rfl) HSL.out (HCELLS.out _ (by repeat first|exact hwb.out|exact B1.out|(refine Below.alloc ?_ (by first|omega|(simp;done)|(simp;omega)) _)|(refine Below.drew ?_))) (zqF out) hk0 (by unfold maxLen;omega) (by omega) (by first|omega|(simp;done)|(simp;omega)) _ rfl ?_);intro gg cap w1 hown1 hgrow hat hlt;simp only[Nat.zero_add,List.nil_append]at hown1 ⊢;have B1:Hid (Below w.heap.size w w1):=hidE (Below.grown (by repeat first|exact hwb.out|exact B1.out|(refine Below.alloc ?_ (by first|omega|(simp;done)|(simp;omega)) _)|(refine Below.drew ?_)) hgrow (by first|omega|(simp;done)|(simp;omega)) (by intro k hk;simp[Value.ownBlock]at hk;omega));have HW1:=hidE hown1;have HGE:(w.heap.size+1)<=gg:=(hown1.lt gg rfl).1;first|(have HXB:Hid (w1.heap[W.heap.size+1]?=some (.cells #[.int .i64 k] 3 (0,0))):=hidE ((hgrow.block _ (by first|omega|(simp;done)|(simp;omega)) (by simp[Value.ownBlock])).trans (alloc_at _ _ _ (by simp))))|(have HXB:Hid (w1.heap[W.heap.size]?=some (.cells #[.int .i64 k] 3 (0,0))):=hidE ((hgrow.block _ (by first|omega|(simp;done)|(simp;omega)) (by simp[Value.ownBlock])).trans (zae _ _ _ _ (alloc_at _ _ _ (by simp)))))|skip;clear hat hown1)|((refine step_append_lies _ (by rfl) _ _ _ (by rfl) (w.heap.size+1) 3 i0 _ 1 8 Tryz.underlying63 hi0 hz0 hz1 hz2 rfl (by omega) _ z (intV out) (by rfl) (by first|exact HW1.out|exact HW1.out.alloc _) _ 1 1 [.int .i64 k] (by rfl) (by rfl) (World.news_of_block (cs:=#[.int .i64 k]) (t:=3) (fr:=(0,0)) (by first|exact HXB.out|exact alloc_at _ _ _ (by simp))) (by simp[Value.oneCell']) (by omega) (by unfold maxLen;omega) (by omega) (by first|omega|(simp;done)|(simp;omega)) _ rfl ?_);intro gg2 cap2 w2 hown2 hgrow2' hat2 hlt2;have hgrow2:World.grownBy _ w2 (some gg):=hgrow2';clear hgrow2';have B2:Hid (Below w.heap.size w w2):=hidE (Below.grown (by repeat first|exact Below.refl _ _|exact B1.out|(refine Below.alloc ?_ (by first|omega|(simp;done)|(simp;omega)) _)|(refine Below.drew ?_)) hgrow2 (by first|omega|(simp;done)|(simp;omega)) (by intro k hk;injection hk with hk;omega));have HW2:=hidE hown2;clear hat2 hown2))
    all_goals
     go_wp2_with fail
     go_ret
     exact⟨_,rfl,by rw[HRES.out];exact zhO out k HW2.out rfl,B2.out⟩
end Go.Proofs.YtaomnlcplmkokaaGreatDoor
namespace Go.Proofs.YtaomnlcplmkokaaGreatDoor
open Go.RowKit Lx Tx
set_option maxRecDepth 100000
set_option maxRecDepth 2000 in
theorem zjF(x:List UInt8)(A:Option Addr)(m c:Nat)(vn vbut:Value)(letter:ByteArray)(lc:UInt8)(but xs ys:List (List UInt8))(k:Nat)(w:World)(hnv:NmV w vn xs ys)(hxy:xs.length=ys.length)(hx5:xs.length<=1000000):Calls Tryz.prog 37 #[.agg #[.int .i64 1,.string ⟨x.toArray⟩,.int .i64 0,.slice A m c],vn,.string letter,vbut,.int .i64 k] w (NPost (numb lc but xs ys (.var x) k) w):=by
 obtain⟨F,T,rfl,⟨⟨A0,c0,rfl,hF⟩,-⟩,⟨⟨A1,c1,rfl,hT⟩,-⟩⟩:=hnv;simp only[zaJ,List.length_reverse]at hF hT ⊢;obtain⟨n,hn⟩:∃n,xs.length=n:=⟨_,rfl⟩;have hn2:ys.length=n:=by omega
 rw[hn]at hx5 hF hxy ⊢
 rw[hn2]at hT ⊢
 obtain⟨X,hX⟩:∃X:ByteArray,⟨x.toArray⟩=X:=⟨_,rfl⟩;rw[hX]
 have HX:=hidE hX;have HF:=hidE hF;have HT:=hidE hT;have HN:=hidE hn;have HN2:=hidE hn2;obtain⟨O,hO⟩:∃O,numb lc but xs ys (.var x) k=O:=⟨_,rfl⟩;have HO:=hidE hO;rw[hO]
 clear hX hF hT hn hn2 hO hxy;go_enter Tryz.func37,Tryz.ntmps37
 go_wp2_with fail
 obtain⟨W,hW⟩:∃W:World,((((w.alloc (.cells #[.int .i64 1,.string X,.int .i64 0,.slice A m c] 29)).alloc (.cells #[.slice A0 n c0,.slice A1 n c1] 76)).alloc (.cells #[.int .i64 0,.string ⟨#[]⟩,.int .i64 0,.slice none 0 0] 29)).alloc (.cells #[.int .i64 1,.string X,.int .i64 0,.slice none 0 0] 29))=W:=⟨_,rfl⟩;have hsz:W.heap.size=w.heap.size+4:=by rw[<-hW];simp
 have k5:Blk W w.heap.size 29 #[.int .i64 1,.string X,.int .i64 0,.slice A m c]:=hW▸zae _ _ _ _ (zae _ _ _ _ (zae _ _ _ _ (heap_alloc_new _ _)));have k6:Blk W (w.heap.size+1) 76 #[.slice A0 n c0,.slice A1 n c1]:=hW▸zae _ _ _ _ (zae _ _ _ _ (alloc_at _ _ _ (by simp)));have k10:Blk W (w.heap.size+2) 29 #[.int .i64 0,.string ⟨#[]⟩,.int .i64 0,.slice none 0 0]:=hW▸zae _ _ _ _ (alloc_at _ _ _ (by simp));have k12:Blk W (w.heap.size+3) 29 #[.int .i64 1,.string X,.int .i64 0,.slice none 0 0]:=hW▸alloc_at _ _ _ (by simp);have kb:Below w.heap.size w W:=hW▸((((Below.refl _ w).alloc (Nat.le_refl _) _).alloc (by simp) _).alloc (by simp;omega) _).alloc (by simp;omega) _;rw[hW]
 have K10:=hidE k10;have K12:=hidE k12;have KB:=hidE kb;obtain⟨-,x1,-,-,-,-,-,-,-⟩:=zaa k5;have f0:W.cell? ⟨w.heap.size+1,0,none⟩=some (.slice A0 n c0):=k6.cell 0;have f1:W.cell? ⟨w.heap.size+1,1,none⟩=some (.slice A1 n c1):=k6.cell 1;obtain⟨z0,z1,z2,z3,s0,s1,s2,s3,hzl⟩:=zaa k10;obtain⟨o0,o1,o2,o3,q0,q1,q2,q3,hol⟩:=zaa k12;clear k5 k6 k10 k12 kb hW;go_loopg [13] n (λgg vi wr=>∃r nd:Nat,gg=r/\vi=.int .i64 ((r:Int)-1)/\r<=n/\wr=W.drewN nd/\Hid (x∉xs.take (n-r)))
 case atStart=>exact⟨n,0,rfl,rfl,by omega,rfl,hidE (by simp)⟩
 case round =>
  obtain⟨r,nd,hgg,rfl,hr,rfl,hni⟩:=hrel;rcases Nat.eq_zero_or_pos r with rfl|hpos
  ·have HRES:Hid (O=(.var x,k)):=hidE (by
    rw[<-HO.out,numb,(zb8 x xs).2 (by have:=hni.out;rwa [List.take_of_length_le (by rw[HN.out];omega)]at this)])
   go_wp2_with fail
   try simp only[Exit.inBlock,Exit.then]
   refine bodyPost_ret (zah rfl _ _ (w.heap.size+2) 29 _ (0,0) _ rfl (zad _ _ _ _ (K10.out.drewN nd)) Tryz.underlying29 rfl (by kernel_rfl)) rfl ?_;refine⟨zaf (below_drewN' KB.out nd) _ _ _ _ (by omega),1,X,0,none,0,0,by rw[HRES.out];rfl,?_⟩;rw[HRES.out]
   exact⟨none,0,by rw[<-HX.out];rfl,by rw[Args];trivial⟩
  ·obtain⟨j,rfl⟩:∃j,r=j+1:=⟨r-1,by omega⟩
   rw[show((j+1:Nat):Int)-1=(j:Int) by omega]
   obtain⟨g0,rfl,hg0,hfc⟩:=HF.out (by omega);obtain⟨g1,rfl,hg1,htc⟩:=HT.out (by omega);have hjx:j<xs.reverse.length:=by rw[List.length_reverse,HN.out];omega
   have hjy:j<ys.reverse.length:=by rw[List.length_reverse,HN2.out];omega
   have e0:=hfc j _ (zcq xs.reverse j hjx);have e1:=htc j _ (zcq ys.reverse j hjy);have hkb:∀g,g<w.heap.size->∀j,W.cell? ⟨g,j,none⟩=w.cell? ⟨g,j,none⟩:=λg hg j=>KB.out.cell (p:=⟨g,j,none⟩) hg;rw[<-hkb g0 hg0]at e0
   rw[<-hkb g1 hg1]at e1
   have hgw0:g0<W.heap.size:=by omega
   have hgw1:g1<W.heap.size:=by omega
   have hxr:xs.reverse[j]=xs[n-1-j]'(by rw[HN.out];omega):=by rw[List.getElem_reverse];congr 1;rw[HN.out]
   obtain⟨y,hy⟩:∃y,xs.reverse[j]=y:=⟨_,rfl⟩;obtain⟨Y,hY⟩:∃Y:ByteArray,⟨y.toArray⟩=Y:=⟨_,rfl⟩;obtain⟨V,hV⟩:∃V:ByteArray,⟨(ys.reverse[j]).toArray⟩=V:=⟨_,rfl⟩;rw[hy,hY]at e0
   rw[hV]at e1
   have hiI:(0:Int)<=(j:Int):=by omega
   have hlI:(j:Int)<(n:Int):=by omega
   have hj0:¬((j:Int)<0):=by omega
   by_cases hyx:y=x
   ·have dy:(Y.toList==X.toList)=true:=strT _ _ (by rw[<-hY,<-HX.out,hyx])
    have HRES:Hid (O=(.var (ys.reverse[j]),k)):=hidE (by
     rw[<-HO.out,numb,zsr x xs (n-1-j) (by rw[HN.out];omega) (by rw[show n-1-j=n-(j+1) by omega];exact hni.out) (by rw[<-hxr,hy,hyx])]
     simp only[Prod.mk.injEq,Ty.var.injEq,and_true];rw[List.getD_eq_getElem?_getD,List.getElem?_eq_getElem (by rw[HN2.out];omega),List.getElem_reverse]
     simp only[Option.getD_some];congr 1
     rw[HN2.out])
    have HV:=hidE hV;clear hfc htc hkb hxr hy hY hyx hV;go_wp2_with fail
    go_quiet (fail)
    go_wp2_with fail
    try simp only[Exit.inBlock,Exit.then]
    refine bodyPost_ret (zah rfl _ _ (w.heap.size+2) 29 _ (0,0) _ rfl (zad _ _ _ _ ((K10.out.drewN (nd+nq)).far (p:=⟨w.heap.size+3,1,none⟩) (by simp) _)) Tryz.underlying29 rfl (by kernel_rfl)) rfl ?_;refine⟨zaf ((below_drewN' KB.out (nd+nq)).setCell (p:=⟨w.heap.size+3,1,none⟩) (by simp) _) _ _ _ _ (by omega),1,V,0,none,0,0,by rw[HRES.out];rfl,?_⟩;rw[HRES.out]
    exact⟨none,0,by rw[<-HV.out];rfl,by rw[Args];trivial⟩
   ·have dy:(Y.toList==X.toList)=false:=strF _ _ (λe=>hyx (by
     rw[<-hY,<-HX.out]at e
     simpa using congrArg (λz=>z.data.toList) e))
    have hnx:Hid (x∉xs.take (n-j)):=hidE (by
     rw[show n-j=n-(j+1)+1 by omega]
     exact(zfm x xs (n-(j+1)) (by rw[HN.out];omega) hni.out (by rw[show xs[n-(j+1)]'(by rw[HN.out];omega)=y by rw[<-hy,hxr];congr 1;omega];exact hyx)))
    clear hfc htc hkb hxr hy hY hyx hV;go_wp2_with fail
    go_quiet (fail)
    go_wp2_with fail
    go_roundg j
    case measure=>omega
    case rel=>exact⟨j,nd+nq,rfl,by go_num,by omega,by rw[zi9],hnx⟩
def zgm(n:Nat):Prop:=∀(t:Ty)(S:Nat->Prop)(v:Value)(w:World),t.size<=n->Nm t->t.print.length<=10 ^ 12->RdV S w t v->(∀g,S g->g<w.heap.size) ->
  Calls Tryz.prog 38 #[v] w λe w'=>e=.returned (.string ⟨t.print.toArray⟩)/\Below w.heap.size w w'
theorem zh8(x:List UInt8)(A:Option Addr)(c m:Nat)(w:World):Calls Tryz.prog 38 #[.agg #[.int .i64 1,.string ⟨x.toArray⟩,.int .i64 0,.slice A m c]] w λe w'=>e=.returned (.string ⟨x.toArray⟩)/\Below w.heap.size w w':=by
 obtain⟨X,hX⟩:∃X:ByteArray,⟨x.toArray⟩=X:=⟨_,rfl⟩;rw[hX]
 clear hX;go_enter Tryz.func38,Tryz.ntmps38
 go_wp2_with fail
 go_ret
 exact⟨rfl,(Below.refl _ _).alloc (Nat.le_refl _) _⟩
theorem zjz(k:Nat)(hk:k<=999999)(X:ByteArray)(A:Option Addr)(c m:Nat)(w:World):Calls Tryz.prog 38 #[.agg #[.int .i64 2,.string X,.int .i64 k,.slice A m c]] w λe w'=>e=.returned (.string ⟨(63::dec k).toArray⟩)/\Below w.heap.size w w':=by
 have hd:=λw=>zbo k w (by omega);have hl:(⟨(dec k).toArray⟩:ByteArray).size<=20:=zbK 20 20 k (by omega) (by omega);have hq:=hidE (zsH (dec k));obtain⟨D,hD⟩:∃D:ByteArray,⟨(dec k).toArray⟩=D:=⟨_,rfl⟩;rw[hD]at hd hl hq
 clear hD;go_enter Tryz.func38,Tryz.ntmps38
 go_wp2_with (go_at_call 42;refine(hd _).mono ?_;rintro e w1 ⟨rfl,b1⟩)
 go_ret
 exact⟨zbB hq.out,zaD b1 (Nat.le_refl _)⟩
set_option maxRecDepth 2000 in
theorem zh9(n:Nat)(IH:zgm n)(h6:n<=1000000)(c:List UInt8)(l:List Ty)(S:Nat->Prop)(w:World)(A:Option Addr)(cc m:Nat)(hn:(Ty.con c l).size<=n+1)(hnm:Nm (.con c l))(hlen:(Ty.con c l).print.length<=10 ^ 12)
  (hm:(kids (.con c l)).length=m)(ha:Args S w (.con c l) A)(hS:∀g,S g->g<w.heap.size):Calls Tryz.prog 38 #[.agg #[.int .i64 3,.string ⟨c.toArray⟩,.int .i64 0,.slice A m cc]] w λe w'=>e=.returned (.string ⟨(Ty.con c l).print.toArray⟩)/\Below w.heap.size w w':=by
 have hp:(Ty.con c l).print=c++zaB l:=by rw[Ty.print]
 rw[hp]at hlen ⊢
 obtain⟨R,hR⟩:∃R:ByteArray,⟨(c++zaB l).toArray⟩=R:=⟨_,rfl⟩;have hcl:(⟨c.toArray⟩:ByteArray).size<=10 ^ 12:=by rw[zgt];simp at hlen;omega
 have hm6:m<=1000000:=by have:=zaW (.con c l);omega
 obtain⟨C,hC⟩:∃C:ByteArray,⟨c.toArray⟩=C:=⟨_,rfl⟩;have HR:=hidE hR;have HC:=hidE hC;have HIH:=hidE IH;have HN:=hidE hn;have HNM:=hidE hnm;have HL:=hidE hlen;have HM:=hidE hm;have HA:=hidE ha;have HS:=hidE hS;rw[hR]
 rw[hC]at hcl ⊢
 clear hp hR hC IH hn hnm hlen hm ha hS;go_enter Tryz.func38,Tryz.ntmps38
 go_wp2_with fail
 go_loopg [3,4] m (λgg vs vi wr=>∃(i:Nat) (X:ByteArray),gg=m-i/\vs=.string X/\vi=.int .i64 i/\i<=m/\Hid (X=⟨(c++zaB (l.take i)).toArray⟩)/\Below (w.heap.size+1) (w.alloc (.cells #[.int .i64 3,.string C,.int .i64 0,.slice A m cc] 29)) wr)
 case atStart=>exact⟨0,C,rfl,rfl,rfl,by omega,hidE (by rw[<-HC.out];simp[zaB]),Below.refl _ _⟩
 case round =>
  obtain⟨i,X,rfl,rfl,rfl,hi,hX,hb⟩:=hrel;have c3:wr.cell? ⟨w.heap.size,3,none⟩=some (.slice A m cc):=(hb.cell (p:=⟨w.heap.size,3,none⟩) (by simp)).trans (cell_of_row _ _ _ _ _ _ (heap_alloc_new _ _));have hXs:X.size<=10 ^ 12:=by
   rw[hX.out,zgt]
   have:=HL.out;have:=zeY l i;simp at *;omega
  have HB:=hidE hb;clear hb;by_cases hlt:i<m
  ·obtain⟨g,u,K1,X1,Z1,A1,n1,c1,rfl,hg,e0,e1,e2,e3,⟨hu1,hu⟩,hrd,hsz,hK1,hn1⟩:=zdM (w':=wr) HA.out HM.out hlt (λg hg=>by rw[HB.out.block g (by have:=HS.out g hg;omega),Below.heap_alloc _ _ _ (HS.out g hg)])
   obtain⟨hil,hul⟩:∃h:i<l.length,l[i]=u:=⟨hu1,hu⟩;have hpu:u.print.length<=10 ^ 12:=by
    have:=HL.out;have:=zna l i hil;rw[hul]at this
    simp at *;omega
   have hgw:g<wr.heap.size:=by have:=HB.out.size;have:=HS.out g hg;simp at *;omega
   have hcall:=hidE (λw' v hv hs=>HIH.out u S v w' (by have:=HN.out;omega) (by rw[<-hu];exact zbu HNM.out i hu1) hpu hv hs);have hst:=zgM l i hil;rw[hul]at hst
   have hps:(⟨u.print.toArray⟩:ByteArray).size<=10 ^ 12:=hpu;obtain⟨P,hP⟩:∃P:ByteArray,⟨u.print.toArray⟩=P:=⟨_,rfl⟩;have HRDU:=hidE hrd;have HSG:Hid (∀g,S g->g<wr.heap.size):=hidE (λg hg=>by have:=HB.out.size;have:=HS.out g hg;simp at *;omega);rw[hP]at hcall hps
   cases hbig:u.big with
   |true =>
    have HX:Hid (X++⟨#[32,40]⟩++P++⟨#[41]⟩=⟨(c++zaB (l.take (i+1))).toArray⟩):=hidE (by rw[hX.out,<-hP,zrR,hst,hbig];simp);have hw:=zqB u hbig;rw[<-hK1,<-hn1]at hw
    clear hX hpu hst hbig hP hrd hu hul hK1 hn1;rcases hw with d4|⟨d4,d5⟩|⟨d4,d5,d3,dm⟩
    ·go_wp2_with (go_at_call 38;refine(hcall.out _ _ (HRDU.out.keep (λ_ h=>h) (λg hg=>Below.heap_alloc _ _ _ (HSG.out g hg))) (λg hg=>by have:=HSG.out g hg;simp;omega)).mono ?_;rintro e w1 ⟨rfl,b1⟩)
     have HB2:=hidE (bnext HB.out (zaD b1 (Nat.le_refl _)) (by simp));go_roundg (m-(i+1))
     case measure=>omega
     case rel=>exact⟨i+1,_,rfl,rfl,by go_num,by omega,HX,HB2.out⟩
    ·go_wp2_with (go_at_call 38;refine(hcall.out _ _ (HRDU.out.keep (λ_ h=>h) (λg hg=>Below.heap_alloc _ _ _ (HSG.out g hg))) (λg hg=>by have:=HSG.out g hg;simp;omega)).mono ?_;rintro e w1 ⟨rfl,b1⟩)
     have HB2:=hidE (bnext HB.out (zaD b1 (Nat.le_refl _)) (by simp));go_roundg (m-(i+1))
     case measure=>omega
     case rel=>exact⟨i+1,_,rfl,rfl,by go_num,by omega,HX,HB2.out⟩
    ·go_wp2_with (go_at_call 38;refine(hcall.out _ _ (HRDU.out.keep (λ_ h=>h) (λg hg=>Below.heap_alloc _ _ _ (HSG.out g hg))) (λg hg=>by have:=HSG.out g hg;simp;omega)).mono ?_;rintro e w1 ⟨rfl,b1⟩)
     have HB2:=hidE (bnext HB.out (zaD b1 (Nat.le_refl _)) (by simp));go_roundg (m-(i+1))
     case measure=>omega
     case rel=>exact⟨i+1,_,rfl,rfl,by go_num,by omega,HX,HB2.out⟩
   |false =>
    have HX:Hid (X++⟨#[32]⟩++P=⟨(c++zaB (l.take (i+1))).toArray⟩):=hidE (by rw[hX.out,<-hP,zoM,hst,hbig];simp);obtain⟨d4,d5,hw⟩:=znb u hbig;rw[<-hK1]at d4 d5
    rw[<-hK1,<-hn1]at hw
    clear hX hpu hst hbig hP hrd hu hul hK1 hn1;rcases hw with d3|⟨d3,rfl⟩
    ·go_wp2_with (go_at_call 38;refine(hcall.out _ _ (HRDU.out.keep (λ_ h=>h) (λg hg=>Below.heap_alloc _ _ _ (HSG.out g hg))) (λg hg=>by have:=HSG.out g hg;simp;omega)).mono ?_;rintro e w1 ⟨rfl,b1⟩)
     have HB2:=hidE (bnext HB.out (zaD b1 (Nat.le_refl _)) (by simp));go_roundg (m-(i+1))
     case measure=>omega
     case rel=>exact⟨i+1,_,rfl,rfl,by go_num,by omega,HX,HB2.out⟩
    ·go_wp2_with (go_at_call 38;refine(hcall.out _ _ (HRDU.out.keep (λ_ h=>h) (λg hg=>Below.heap_alloc _ _ _ (HSG.out g hg))) (λg hg=>by have:=HSG.out g hg;simp;omega)).mono ?_;rintro e w1 ⟨rfl,b1⟩)
     have HB2:=hidE (bnext HB.out (zaD b1 (Nat.le_refl _)) (by simp));go_roundg (m-(i+1))
     case measure=>omega
     case rel=>exact⟨i+1,_,rfl,rfl,by go_num,by omega,HX,HB2.out⟩
  ·have hr:=hidE (show X=R by rw[hX.out,<-HR.out,List.take_of_length_le (by have:=HM.out;rw[kids]at this;omega)])
   clear hX;go_wp2_with fail
   go_ret
   exact⟨zbB hr.out,((Below.refl _ w).alloc (Nat.le_refl _) _).trans (HB.out.mono (by omega))⟩
set_option maxRecDepth 2000 in
theorem zjA(n:Nat)(IH:zgm n)(a b:Ty)(S:Nat->Prop)(w:World)(A:Option Addr)(cc:Nat)(X0:ByteArray)(Z0:Int)(hn:(Ty.fn a b).size<=n+1)(hnm:Nm (.fn a b))(hlen:(Ty.fn a b).print.length<=10 ^ 12)
  (ha:Args S w (.fn a b) A)(hS:∀g,S g->g<w.heap.size):Calls Tryz.prog 38 #[.agg #[.int .i64 4,.string X0,.int .i64 Z0,.slice A 2 cc]] w λe w'=>e=.returned (.string ⟨(Ty.fn a b).print.toArray⟩)/\Below w.heap.size w w':=by
 rw[Args]at ha
 obtain⟨g,rfl,hg,⟨A1,c1,h1,r1⟩,⟨A2,c2,h2,r2⟩⟩:=ha;obtain⟨K1,X1,Z1,n1,e0,e1,e2,e3,rd1,hK1,-⟩:=zcc h1 r1;obtain⟨K2,X2,Z2,n2,f0,f1,f2,f3,rd2,-,-⟩:=zcc h2 r2;have hgw:=hS g hg;have hp:(Ty.fn a b).print=(if a.isFA then 40::(a.print++[41]) else a.print)++[32,45,62,32]++b.print:=by rw[Ty.print]
 have la:a.print.length<=10 ^ 12:=by rw[hp]at hlen;split at hlen <;> simp at hlen <;> omega
 have lb:b.print.length<=10 ^ 12:=by rw[hp]at hlen;split at hlen <;> simp at hlen <;> omega
 have sa:(⟨a.print.toArray⟩:ByteArray).size<=10 ^ 12:=la;have sb:(⟨b.print.toArray⟩:ByteArray).size<=10 ^ 12:=lb;have hna:Nm a:=zbu hnm 0 (by simp[kids]);have hnb:Nm b:=zbu hnm 1 (by simp[kids]);have hza:a.size<=n:=by rw[Ty.size]at hn;omega
 have hzb:b.size<=n:=by rw[Ty.size]at hn;omega
 have CA:=hidE (λw' v hv hs=>IH a S v w' hza hna la hv hs);have CB:=hidE (λw' v hv hs=>IH b S v w' hzb hnb lb hv hs);obtain⟨P,hP⟩:∃P:ByteArray,⟨a.print.toArray⟩=P:=⟨_,rfl⟩;obtain⟨Q,hQ⟩:∃Q:ByteArray,⟨b.print.toArray⟩=Q:=⟨_,rfl⟩;have HP:=hidE hP;have HQ:=hidE hQ;have HS:=hidE hS;have HR1:=hidE rd1;have HR2:=hidE rd2;have HPR:=hidE hp;rw[hP]at sa CA
 rw[hQ]at sb CB
 obtain⟨R,hR⟩:∃R:ByteArray,⟨(Ty.fn a b).print.toArray⟩=R:=⟨_,rfl⟩;rw[hR]
 have HR:=hidE hR;have KEEP:∀w',Below (w.heap.size+1) (w.alloc (.cells #[.int .i64 4,.string X0,.int .i64 Z0,.slice (some ⟨g,0,none⟩) 2 cc] 29)) w'->w.heap.size<w'.heap.size/\(∀k,k<w.heap.size->w'.heap[k]?=w.heap[k]?):=by
  intro w' hb;have hs:=hb.size;simp at hs;exact⟨by omega,λk hk=>by rw[hb.block k (by omega),Below.heap_alloc _ _ _ hk]⟩
 have SOF:Hid (∀w',Below (w.heap.size+1) (w.alloc (.cells #[.int .i64 4,.string X0,.int .i64 Z0,.slice (some ⟨g,0,none⟩) 2 cc] 29)) w'->w'.cell? ⟨w.heap.size,3,none⟩=some (.slice (some ⟨g,0,none⟩) 2 cc)/\w'.cell? ⟨g,0,none⟩=some (.int .i64 K1)/\w'.cell? ⟨g,1,none⟩=some (.string X1)/\w'.cell? ⟨g,2,none⟩=some (.int .i64 Z1)/\w'.cell? ⟨g,3,none⟩=some (.slice A1 n1 c1)/\w'.cell? ⟨g,4,none⟩=some (.int .i64 K2)/\w'.cell? ⟨g,5,none⟩=some (.string X2)/\w'.cell? ⟨g,6,none⟩=some (.int .i64 Z2)/\w'.cell? ⟨g,7,none⟩=some (.slice A2 n2 c2)):=by
  refine hidE λw' hb=>?_;obtain⟨hs,hk⟩:=KEEP w' hb;have hc:∀i,w'.cell? ⟨g,i,none⟩=w.cell? ⟨g,i,none⟩:=λi=>World.cell?_of_block (w:=w) (a:=⟨g,i,none⟩) (hk g hgw);exact⟨(hb.cell (p:=⟨w.heap.size,3,none⟩) (by simp)).trans (cell_of_row _ _ _ _ _ _ (heap_alloc_new _ _)),(hc _).trans e0,(hc _).trans e1,(hc _).trans e2,(hc _).trans e3,(hc _).trans f0,(hc _).trans f1,(hc _).trans f2,(hc _).trans f3⟩
 have HRA:Hid (∀w',Below (w.heap.size+1) (w.alloc (.cells #[.int .i64 4,.string X0,.int .i64 Z0,.slice (some ⟨g,0,none⟩) 2 cc] 29)) w'->RdV S w' a (.agg #[.int .i64 K1,.string X1,.int .i64 Z1,.slice A1 n1 c1])):=hidE λw' hb=>HR1.out.keep (λ_ h=>h) (λg hg=>(KEEP w' hb).2 g (HS.out g hg));have HRB:Hid (∀w',Below (w.heap.size+1) (w.alloc (.cells #[.int .i64 4,.string X0,.int .i64 Z0,.slice (some ⟨g,0,none⟩) 2 cc] 29)) w'->RdV S w' b (.agg #[.int .i64 K2,.string X2,.int .i64 Z2,.slice A2 n2 c2])):=hidE λw' hb=>HR2.out.keep (λ_ h=>h) (λg hg=>(KEEP w' hb).2 g (HS.out g hg));have HSG:Hid (∀w',Below (w.heap.size+1) (w.alloc (.cells #[.int .i64 4,.string X0,.int .i64 Z0,.slice (some ⟨g,0,none⟩) 2 cc] 29)) w'->∀g,S g->g<w'.heap.size):=hidE λw' hb g hg=>Nat.lt_trans (HS.out g hg) (KEEP w' hb).1;have B0:Hid (Below (w.heap.size+1) (w.alloc (.cells #[.int .i64 4,.string X0,.int .i64 Z0,.slice (some ⟨g,0,none⟩) 2 cc] 29)) (w.alloc (.cells #[.int .i64 4,.string X0,.int .i64 Z0,.slice (some ⟨g,0,none⟩) 2 cc] 29)).drew):=hidE (Below.refl _ _).drew;have hend:Hid (∀w',Below (w.heap.size+1) (w.alloc (.cells #[.int .i64 4,.string X0,.int .i64 Z0,.slice (some ⟨g,0,none⟩) 2 cc] 29)) w'->Below w.heap.size w w'):=hidE λw' hb=>((Below.refl _ w).alloc (Nat.le_refl _) _).trans (hb.mono (by omega));obtain⟨x3,y0,y1,y2,y3,z0,z1,z2,z3⟩:=SOF.out _ (Below.refl _ _);cases hfa:a.isFA with
 |true =>
  have HX:Hid (⟨#[40]⟩++P++⟨#[41,32,45,62,32]⟩++Q=R):=hidE (by rw[<-HP.out,<-HQ.out,znc,<-HR.out,HPR.out,hfa];simp);have hw:=zrS a hfa;rw[<-hK1]at hw
  clear h1 h2 r1 r2 rd1 rd2 hK1 hS hg hp hlen la lb hna hnb hza hzb hP hQ hR e0 e1 e2 e3 f0 f1 f2 f3 KEEP hfa hn hnm IH;have o1:¬9223372036854775807<1+P.size:=by omega
  have o2:¬9223372036854775807<1+P.size+5:=by omega
  have o3:¬9223372036854775807<1+P.size+5+Q.size:=by omega
  rcases hw with d4|⟨d4,d5⟩
  ·go_enter Tryz.func38,Tryz.ntmps38
   go_wp2_with fail
   go_region_held3 (λw'=>w'.cell? ⟨w.heap.size,3,none⟩=some (.slice (some ⟨g,0,none⟩) 2 cc)/\w'.cell? ⟨g,0,none⟩=some (.int .i64 K1)/\w'.cell? ⟨g,1,none⟩=some (.string X1)/\w'.cell? ⟨g,2,none⟩=some (.int .i64 Z1)/\w'.cell? ⟨g,3,none⟩=some (.slice A1 n1 c1)/\w'.cell? ⟨g,4,none⟩=some (.int .i64 K2)/\w'.cell? ⟨g,5,none⟩=some (.string X2)/\w'.cell? ⟨g,6,none⟩=some (.int .i64 Z2)/\w'.cell? ⟨g,7,none⟩=some (.slice A2 n2 c2)) (first|exact SOF.out _ B2.out|exact SOF.out _ B1.out|exact SOF.out _ B0.out) (first|((with_reducible refine(CA.out _ _ (HRA.out _ (by first|exact B1.out|exact B0.out)) (HSG.out _ (by first|exact B1.out|exact B0.out))).mono ?_);rintro e w1 ⟨rfl,b1⟩;first|(have B2:=hidE (bnext B1.out b1 (by simp)))|(have B1:=hidE (bnext B0.out b1 (by simp)));clear b1)|((with_reducible refine(CB.out _ _ (HRB.out _ (by first|exact B1.out|exact B0.out)) (HSG.out _ (by first|exact B1.out|exact B0.out))).mono ?_);rintro e w1 ⟨rfl,b1⟩;first|(have B2:=hidE (bnext B1.out b1 (by simp)))|(have B1:=hidE (bnext B0.out b1 (by simp)));clear b1))
   all_goals
    go_wp2_with fail
    go_ret
    exact⟨zbB HX.out,hend.out _ B2.out⟩
  ·go_enter Tryz.func38,Tryz.ntmps38
   go_wp2_with fail
   go_region_held3 (λw'=>w'.cell? ⟨w.heap.size,3,none⟩=some (.slice (some ⟨g,0,none⟩) 2 cc)/\w'.cell? ⟨g,0,none⟩=some (.int .i64 K1)/\w'.cell? ⟨g,1,none⟩=some (.string X1)/\w'.cell? ⟨g,2,none⟩=some (.int .i64 Z1)/\w'.cell? ⟨g,3,none⟩=some (.slice A1 n1 c1)/\w'.cell? ⟨g,4,none⟩=some (.int .i64 K2)/\w'.cell? ⟨g,5,none⟩=some (.string X2)/\w'.cell? ⟨g,6,none⟩=some (.int .i64 Z2)/\w'.cell? ⟨g,7,none⟩=some (.slice A2 n2 c2)) (first|exact SOF.out _ B2.out|exact SOF.out _ B1.out|exact SOF.out _ B0.out) (first|((with_reducible refine(CA.out _ _ (HRA.out _ (by first|exact B1.out|exact B0.out)) (HSG.out _ (by first|exact B1.out|exact B0.out))).mono ?_);rintro e w1 ⟨rfl,b1⟩;first|(have B2:=hidE (bnext B1.out b1 (by simp)))|(have B1:=hidE (bnext B0.out b1 (by simp)));clear b1)|((with_reducible refine(CB.out _ _ (HRB.out _ (by first|exact B1.out|exact B0.out)) (HSG.out _ (by first|exact B1.out|exact B0.out))).mono ?_);rintro e w1 ⟨rfl,b1⟩;first|(have B2:=hidE (bnext B1.out b1 (by simp)))|(have B1:=hidE (bnext B0.out b1 (by simp)));clear b1))
   all_goals
    go_wp2_with fail
    go_ret
    exact⟨zbB HX.out,hend.out _ B2.out⟩
 |false =>
  have HX:Hid (P++⟨#[32,45,62,32]⟩++Q=R):=hidE (by rw[<-HP.out,<-HQ.out,zoN,<-HR.out,HPR.out,hfa];simp);obtain⟨d4,d5⟩:=zsq a hfa;rw[<-hK1]at d4 d5
  clear h1 h2 r1 r2 rd1 rd2 hK1 hS hg hp hlen la lb hna hnb hza hzb hP hQ hR e0 e1 e2 e3 f0 f1 f2 f3 KEEP hfa hn hnm IH;have o1:¬9223372036854775807<P.size+4:=by omega
  have o2:¬9223372036854775807<P.size+4+Q.size:=by omega
  go_enter Tryz.func38,Tryz.ntmps38
  go_wp2_with fail
  go_region_held3 (λw'=>w'.cell? ⟨w.heap.size,3,none⟩=some (.slice (some ⟨g,0,none⟩) 2 cc)/\w'.cell? ⟨g,0,none⟩=some (.int .i64 K1)/\w'.cell? ⟨g,1,none⟩=some (.string X1)/\w'.cell? ⟨g,2,none⟩=some (.int .i64 Z1)/\w'.cell? ⟨g,3,none⟩=some (.slice A1 n1 c1)/\w'.cell? ⟨g,4,none⟩=some (.int .i64 K2)/\w'.cell? ⟨g,5,none⟩=some (.string X2)/\w'.cell? ⟨g,6,none⟩=some (.int .i64 Z2)/\w'.cell? ⟨g,7,none⟩=some (.slice A2 n2 c2)) (first|exact SOF.out _ B2.out|exact SOF.out _ B1.out|exact SOF.out _ B0.out) (first|((with_reducible refine(CA.out _ _ (HRA.out _ (by first|exact B1.out|exact B0.out)) (HSG.out _ (by first|exact B1.out|exact B0.out))).mono ?_);rintro e w1 ⟨rfl,b1⟩;first|(have B2:=hidE (bnext B1.out b1 (by simp)))|(have B1:=hidE (bnext B0.out b1 (by simp)));clear b1)|((with_reducible refine(CB.out _ _ (HRB.out _ (by first|exact B1.out|exact B0.out)) (HSG.out _ (by first|exact B1.out|exact B0.out))).mono ?_);rintro e w1 ⟨rfl,b1⟩;first|(have B2:=hidE (bnext B1.out b1 (by simp)))|(have B1:=hidE (bnext B0.out b1 (by simp)));clear b1))
  all_goals
   go_wp2_with fail
   go_ret
   exact⟨zbB HX.out,hend.out _ B2.out⟩
set_option maxRecDepth 2000 in
theorem zia(n:Nat)(IH:zgm n)(x:List UInt8)(t:Ty)(S:Nat->Prop)(w:World)(A:Option Addr)(cc:Nat)(Z0:Int)(hn:(Ty.all x t).size<=n+1)(hnm:Nm (.all x t))(hlen:(Ty.all x t).print.length<=10 ^ 12)
  (ha:Args S w (.all x t) A)(hS:∀g,S g->g<w.heap.size):Calls Tryz.prog 38 #[.agg #[.int .i64 5,.string ⟨x.toArray⟩,.int .i64 Z0,.slice A 1 cc]] w λe w'=>e=.returned (.string ⟨(Ty.all x t).print.toArray⟩)/\Below w.heap.size w w':=by
 rw[Args]at ha
 obtain⟨g,rfl,hg,A1,c1,h1,r1⟩:=ha;obtain⟨K1,X1,Z1,n1,e0,e1,e2,e3,rd1,hK1,-⟩:=zcc h1 r1;have hgw:=hS g hg;have hp:(Ty.all x t).print=wForall++32::x++zaI t:=by rw[Ty.print]
 rw[hp]at hlen ⊢
 obtain⟨R,hR⟩:∃R:ByteArray,⟨(wForall++32::x++zaI t).toArray⟩=R:=⟨_,rfl⟩;have hRs:R.size<=10 ^ 12:=by rw[<-hR,zgt];exact hlen
 have hxs:(⟨x.toArray⟩:ByteArray).size<=10 ^ 12:=by rw[zgt];simp at hlen;omega
 rw[hR]
 have hx0:((⟨#[102,111,114,97,108,108,32]⟩:ByteArray)++⟨x.toArray⟩).data.toList++zaI t=R.data.toList:=by
  rw[<-hR];simp[wForall]
 obtain⟨X0,hX0⟩:∃X0:ByteArray,⟨x.toArray⟩=X0:=⟨_,rfl⟩;rw[hX0]at hx0 hxs ⊢
 have hnt:Nm t:=zbu hnm 0 (by simp[kids]);have htn:t.size<=n:=by rw[Ty.size]at hn;omega
 have HIH:=hidE IH;have HS:=hidE hS;have HX0:=hidE hx0;have HRD:=hidE rd1;have HNT:=hidE hnt;have HK1:=hidE hK1;clear hp hlen hR hX0 hx0 IH hS h1 r1 rd1 hg hn hnm hnt hK1;go_enter Tryz.func38,Tryz.ntmps38
 go_wp2_with fail
 go_loopg [6] t.size (λgg vs wr=>∃(u:Ty) (K:Int) (X:ByteArray) (Z:Int) (A':Option Addr) (m c:Nat) (Y:ByteArray),gg=u.size/\vs=.string Y/\Blk wr (w.heap.size+1) 29 #[.int .i64 K,.string X,.int .i64 Z,.slice A' m c] /\
  RdV S wr u (.agg #[.int .i64 K,.string X,.int .i64 Z,.slice A' m c])/\Below w.heap.size w wr/\Hid (Y.data.toList++zaI u=R.data.toList)/\Nm u/\u.size<=n)
 case atStart =>
  refine⟨t,K1,X1,Z1,A1,n1,c1,_,rfl,rfl,heap_alloc2_new _ _ _,?_,((Below.refl _ w).alloc (Nat.le_refl _) _).alloc (by simp) _,hidE HX0.out,HNT.out,htn⟩;exact HRD.out.keep (λ_ h=>h) (λg hg=>by rw[Below.heap_alloc _ _ _ (by simp;have:=HS.out g hg;omega),Below.heap_alloc _ _ _ (HS.out g hg)])
 case round =>
  clear e0 e1 e2 e3;obtain⟨u,K,X,Z,A',m,c,Y,rfl,rfl,hb,hrd,hbel,hY,hnu,hun⟩:=hrel;obtain⟨p0,p1,p2,p3,s0,s1,s2,s3,hlx⟩:=zaa hb;have HB:=hidE hb;have HBEL:=hidE hbel;have hsz:=congrArg List.length hY.out;rw[List.length_append,<-Lib.size_eq,<-Lib.size_eq]at hsz
  by_cases hu:∃y u',u=.all y u'
  ·obtain⟨y,u',rfl⟩:=hu
   obtain⟨rfl,hX,rfl,g',rfl,hg',K2,X2,Z2,A2,n2,c2,f0,f1,f2,f3,hrd2⟩:=zkI hrd;have hgw':g'<wr.heap.size:=by have:=HS.out g' hg';have:=hbel.size;omega
   have hgne:g'≠w.heap.size+1:=by have:=HS.out g' hg';omega
   have hst:(Y++⟨#[32]⟩++X).data.toList++zaI u'=R.data.toList:=by rw[<-hY.out,zcZ,zqC _ y Y X rfl hX];simp
   have hsz2:=congrArg List.length hst;rw[List.length_append,<-Lib.size_eq,<-Lib.size_eq]at hsz2
   simp at hsz2;have HST:=hidE hst;have HRD2:=hidE hrd2;have HNU:=hidE (zbu hnu 0 (by simp[kids]));have hus:u'.size+1=(Ty.all y u').size:=by rw[Ty.size]
   clear hb hrd hbel hY hnu hsz hst hrd2 hX;go_wp2_with fail
   go_roundg u'.size
   case measure=>omega
   case rel =>
    refine⟨u',K2,X2,Z2,A2,n2,c2,_,rfl,rfl,zad _ _ _ _ HB.out,HRD2.out.keep (λ_ h=>h) (λg hg=>zaj _ _ _ _ _ _ _ (by have:=HS.out g hg;omega)),zaf HBEL.out _ _ _ _ (by omega),HST,HNU.out,by omega⟩
  ·obtain⟨d5,hpr⟩:=zrT u hu
   obtain⟨hK,hm⟩:=zrU hrd;rw[<-hK]at d5
   have hps:u.print.length<=10 ^ 12:=by rw[hpr]at hsz;simp at hsz;omega
   have HC:=hidE (HIH.out u S _ wr hun hnu hps hrd (λg hg=>by have:=HS.out g hg;have:=hbel.size;omega));have HX:Hid (Y++⟨#[46,32]⟩++⟨u.print.toArray⟩=R):=hidE (by rw[zqD,<-hpr,hY.out]);have hps':(⟨u.print.toArray⟩:ByteArray).size<=10 ^ 12:=hps;obtain⟨P,hP⟩:∃P:ByteArray,⟨u.print.toArray⟩=P:=⟨_,rfl⟩;rw[hP]at HC HX hps'
   clear hP hb hrd hbel hY hnu hpr hu hK hm;go_wp2_with (go_at_call 38;refine HC.out.mono ?_;rintro e w1 ⟨rfl,b1⟩)
   go_ret
   exact⟨zbB HX.out,bnext HBEL.out b1 (Nat.le_refl _)⟩
theorem zli(n:Nat)(h6:n<=1000000):zgm n:=by
 induction n with
 |zero=>intro t S v w h;have:=zak t;omega
 |succ n ih =>
  have IH:=ih (by omega);intro t S v w hn hnm hlen hv hS;obtain⟨A,c,rfl,ha⟩:=hv;cases t with
  |var x =>
   rw[Ty.print]
   exact zh8 x A c _ w
  |mt k =>
   cases hnm with
   |mt _ hk =>
    rw[Ty.print]
    exact zjz k hk _ A c _ w
  |con x l=>exact zh9 n IH (by omega) x l S w A c _ hn hnm hlen rfl ha hS
  |fn a b=>exact zjA n IH a b S w A c _ _ hn hnm hlen ha hS
  |all x t=>exact zia n IH x t S w A c _ hn hnm hlen ha hS
theorem zmF(t:Ty)(S:Nat->Prop)(v:Value)(w:World)(hs:t.size<=1000000)(hnm:Nm t)(hlen:t.print.length<=10 ^ 12)(hv:RdV S w t v)(hS:∀g,S g->g<w.heap.size):Calls Tryz.prog 38 #[v] w λe w'=>e=.returned (.string ⟨t.print.toArray⟩)/\Below w.heap.size w w' :=
 zli 1000000 (Nat.le_refl _) t S v w hs hnm hlen hv hS
def zq4(i K0 b9:Nat)(V:List (List UInt8))(o:Option Ty)(w:World)(gg:Nat)(vj:Value)(wr:World):Prop :=
 ∃j K X Z A m c,gg=j-i/\vj=.int .i64 j/\i<=j/\j<K0/\Blk wr b9 29 #[.int .i64 K,.string X,.int .i64 Z,.slice A m c] /\
  Blk wr w.heap.size 29 #[.int .i64 0,.string ⟨#[]⟩,.int .i64 0,.slice none 0 0]/\Below w.heap.size w wr /\
  ∀t0,o=some t0->RdV (λg=>w.heap.size<g/\g<wr.heap.size/\g≠b9) wr (alls (V.drop (j-i)) t0) (.agg #[.int .i64 K,.string X,.int .i64 Z,.slice A m c])
theorem zjy(f:Nat)(ts:List Tok)(v:Value)(w:World)(i:Nat)(hv:RdT w v ts)(hn:ts.length<=100000)(hf:4*(ts.length-i)+4<=f+1)(hq:isAt ts i 3 wForall=true)
  (IHR:∀(w:World)(i:Nat),RdT w v ts->i<=ts.length->4*(ts.length-i)+4<=f->Calls Tryz.prog 58 #[v,.int .i64 i] w (RPost ts i w (read f (ts.drop i)))):Calls Tryz.prog 58 #[v,.int .i64 i] w (RPost ts i w (read (f+1) (ts.drop i))):=by
 have hlt:=zeX _ _ _ _ hq;have hIs:∀w,RdT w v ts->Calls Tryz.prog 84 #[v,.int .i64 i,.int .i64 3,.string ⟨#[102,111,114,97,108,108]⟩] w λe w'=>e=.returned (.bool true)/\w=w':=by
  intro w hv;rw[<-hq]
  exact zdU _ ts i 3 ⟨#[102,111,114,97,108,108]⟩ 3 rfl w hv
 obtain⟨hv1,hv2,hv3,hv4⟩:=zrQ ts ts.length (i+1) (by omega) (by omega);have HO0:=zqA f ts i hq _ rfl hv3;generalize hVe:(vars (ts.drop (i+1))).1=V at *;obtain⟨O,hO⟩:∃O,read (f+1) (ts.drop i)=O:=⟨_,rfl⟩;rw[hO]
 rw[hO]at HO0
 obtain⟨K0,hK0⟩:∃K0,i+1+V.length=K0:=⟨_,rfl⟩;rw[hK0]at hv2 hv4 HO0
 have HO:=hidE HO0;have HV1:Hid (∀k,i+1<=k->k<K0->∃h:k<ts.length,ts[k].kind=1/\ts[k].text=V.getD (k-(i+1)) []):=by
  refine hidE λk h1 h2=>?_;obtain⟨d,rfl⟩:∃d,k=i+1+d:=⟨k-(i+1),by omega⟩;obtain⟨h,e1,e2⟩:=hv1 d (by omega);exact⟨h,e1,by rw[e2,Nat.add_sub_cancel_left,List.getD_eq_getElem?_getD,List.getElem?_eq_getElem (by omega)];rfl⟩
 have HV4:=hidE hv4;have HK0:=hidE hK0;have hKi:i+1<=K0:=by omega
 obtain⟨q,hq2⟩:∃q,isAt ts K0 6 [46]=q:=⟨_,rfl⟩;have HQ:=hidE hq2;have hIs2:∀w,RdT w v ts->Calls Tryz.prog 84 #[v,.int .i64 K0,.int .i64 6,.string ⟨#[46]⟩] w λe w'=>e=.returned (.bool q)/\w=w':=by
  intro w hv;rw[<-hq2]
  exact zdU _ ts K0 6 ⟨#[46]⟩ 6 rfl w hv
 clear HO0 hVe hv1 hv3 hv4 hO hq hq2 hK0;obtain⟨g,c,rfl,_,_,_⟩:=hv.at_ i hlt;have hgl:=hv.lt (by omega);obtain⟨n,hN⟩:∃n,ts.length=n:=⟨_,rfl⟩;have HN:=hidE hN;rw[hN]at hv hIs hIs2 hn hf hlt hv2 IHR ⊢
 have HV:=hidE hv;have HR:=hidE IHR;clear hN IHR hv;go_enter Tryz.func58,Tryz.ntmps58
 go_wp2_with (go_at_call 84;refine(hIs _ (HV.out.alloc _)).mono ?_;rintro e w2 ⟨rfl,rfl⟩)
 go_loopg [7] (K0-(i+1)) (λgg vk wr=>∃k:Nat,gg=K0-k/\vk=.int .i64 k/\wr=w.alloc (.cells #[.int .i64 0,.string ⟨#[]⟩,.int .i64 0,.slice none 0 0] 29)/\i+1<=k/\k<=K0)
 case atStart=>exact⟨i+1,rfl,by go_num,rfl,by omega,hKi⟩
 case round =>
  obtain⟨k,rfl,rfl,rfl,hk1,hk2⟩:=hrel;by_cases hkK:k<K0
  ·obtain⟨hkn,e1,-⟩:=HV1.out k hk1 hkK
   have e0:=(HV.out.cells k hkn).1;rw[e1]at e0
   have e0:w.cell? ⟨g,k*3,none⟩=some (.int .i64 1):=e0;have hkn':k<n:=by omega
   clear e1 hkn;go_wp2_with fail
   go_roundg (K0-(k+1))
   case measure=>omega
   case rel=>exact⟨k+1,rfl,by go_num,rfl,by omega,by omega⟩
  ·obtain rfl:k=K0:=by omega
   by_cases hkn:k<n
   ·have hkn':k<ts.length:=by rw[HN.out];exact hkn
    have e0:=(HV.out.cells k hkn').1;obtain⟨m,hm⟩:∃m,ts[k].kind=m:=⟨_,rfl⟩;have d1:=kF m 1 (by rw[<-hm];exact HV4.out hkn');rw[hm]at e0
    clear hm hkn';cases q
    ·have HO:Hid (O=none):=hidE (HO.out.trans (by rw[HQ.out];simp))
     go_wp2_with (go_at_call 84;refine(hIs2 _ (HV.out.alloc _)).mono ?_;rintro e w2 ⟨rfl,rfl⟩)
     try simp only[Exit.inBlock,Exit.then]
     refine bodyPost_ret (zah rfl _ _ w.heap.size 29 _ (0,0) _ rfl (heap_alloc_new _ _) Tryz.underlying29 rfl (by kernel_rfl)) rfl ?_;exact za0 ts i w _ _ _ 0 ⟨#[]⟩ 0 none 0 0 ((Below.refl _ w).alloc (Nat.le_refl _) _) HO.out rfl
    ·by_cases hki:k=i+1
     ·have dk:((k:Int) ==(i:Int)+1)=true:=by simp;omega
      have hVn:V=[]:=by cases V with|nil=>rfl|cons a b=>have:=HK0.out;simp at this;omega
      have HO:Hid (O=none):=hidE (HO.out.trans (by rw[if_pos hVn]));clear hVn hki;go_wp2_with (go_at_call 84;refine(hIs2 _ (HV.out.alloc _)).mono ?_;rintro e w2 ⟨rfl,rfl⟩)
      try simp only[Exit.inBlock,Exit.then]
      refine bodyPost_ret (zah rfl _ _ w.heap.size 29 _ (0,0) _ rfl (heap_alloc_new _ _) Tryz.underlying29 rfl (by kernel_rfl)) rfl ?_;exact za0 ts i w _ _ _ 0 ⟨#[]⟩ 0 none 0 0 ((Below.refl _ w).alloc (Nat.le_refl _) _) HO.out rfl
     ·have dk:((k:Int) ==(i:Int)+1)=false:=by rw[Bool.eq_false_iff];intro h;simp at h;omega
      have hVn:V≠[]:=by intro e;have:=HK0.out;rw[e]at this;simp at this;omega
      have HO:Hid (O=(read f (ts.drop (k+1))).map λx=>(alls V x.1,x.2)):=hidE (HO.out.trans (by rw[if_neg hVn,HQ.out,if_pos rfl]));clear hVn;go_wp2_with (go_at_call 84;refine(hIs2 _ (HV.out.alloc _)).mono ?_;rintro e w2 ⟨rfl,rfl⟩)
      refine(HR.out _ (k+1) (HV.out.alloc _) (by omega) (by omega)).mono ?_;rintro e w1 ⟨b1,K1,X1,Z1,A1,m1,c1,hcases⟩;have hb0:Blk w1 w.heap.size 29 #[.int .i64 0,.string ⟨#[]⟩,.int .i64 0,.slice none 0 0]:=Blk.below (heap_alloc_new _ _) b1 (by simp);have HB0:=hidE hb0;have B1:=hidE b1;have hlw:=hb0.lt;clear hb0 b1;rcases hcases with⟨ho,rfl⟩|⟨t,k2,hk2,hkn2,ho,rfl,hr⟩
      ·have HO:Hid (O=none):=hidE (HO.out.trans (by rw[ho];rfl))
       clear ho;go_wp2_with fail
       go_loopg [11] (k-1-i) (λgg vj wr=>zq4 i k w1.heap.size V none w gg vj wr)
       case atStart =>
        refine⟨k-1,K1,X1,Z1,A1,m1,c1,by omega,by go_num,by omega,by omega,heap_alloc_new _ _,HB0.out.alloc _,(zaD B1.out (Nat.le_refl _)).alloc (by omega) _,?_⟩;intro t0 h;exact absurd h (by simp)
       case round =>
        obtain⟨j,K,X,Z,A,mm,cc,rfl,rfl,hij,hjK,hb9,hb0,hbel,hrd⟩:=hrel;obtain⟨p0,p1,p2,p3,s0,s1,s2,s3,hlx⟩:=zaa hb9;obtain⟨a0,a1,a2,a3,r0,r1,r2,r3,hlw3⟩:=zaa hb0;have HB9:=hidE hb9;have HB0:=hidE hb0;have HBEL:=hidE hbel;have HRD:=hidE hrd;have hgw:g<wr.heap.size:=by have:=hbel.size;omega
        clear hb9 hb0 hrd;by_cases hji:i<j
        ·obtain⟨hjn,-,hjt⟩:=HV1.out j (by omega) (by omega)
         obtain⟨-,e1⟩:=(HV.out.below hbel).cells j hjn;obtain⟨Y,hY⟩:∃Y:ByteArray,⟨ts[j].text.toArray⟩=Y:=⟨_,rfl⟩;rw[hY]at e1
         have HY:Hid (Y=⟨(V.getD (j-(i+1)) []).toArray⟩):=hidE (by rw[<-hY,hjt]);have hjn':j<n:=by omega
         clear hbel hjt hY hjn;go_wp2_with fail
         go_region
         go_wp2_with fail
         go_roundg (j-1-i)
         case measure=>omega
         case rel =>
          have hsz:=HBEL.out.size;have h9:w.heap.size<w1.heap.size:=hlw;refine⟨j-1,5,Y,0,some ⟨wr.heap.size,0,none⟩,1,1,by omega,by go_num,by omega,by omega,((zad _ _ _ _ HB9.out).alloc _).drew,((zg8 (by omega) HB0.out).alloc _).drew,((zaf HBEL.out _ _ _ _ (by omega)).alloc (by simp;omega) _).drew,λt0 h=>?_⟩;rw[zf7 V (j-1-i) t0 (by have:=HK0.out;omega),show j-1-i+1=j-i by omega]
          refine zf6 (w:=wr) (by rw[HY.out,show j-1-i=j-(i+1) by omega]) (HRD.out t0 h) (λg hg=>?_) (λg hg=>?_) ?_ ?_
          ·have:=hg.2.1
           exact⟨hg.1,by simp;omega,hg.2.2⟩
          ·exact(Below.heap_alloc _ _ _ (by simp;exact hg.2.1)).trans (zaj _ _ _ _ _ _ _ hg.2.2)
          ·exact⟨by omega,by simp,by omega⟩
          ·intro d u hu
           have:=zaK ((((wr.setCell ⟨w1.heap.size,0,none⟩ (.int .i64 5)).setCell ⟨w1.heap.size,1,none⟩ (.string Y)).setCell ⟨w1.heap.size,2,none⟩ (.int .i64 0)).setCell ⟨w1.heap.size,3,none⟩ (.slice (some ⟨wr.heap.size,0,none⟩) 1 1)) #[.int .i64 K,.string X,.int .i64 Z,.slice A mm cc] 29 wr.heap.size (by simp) d u hu;rw[zaQ]at this
           exact this
        ·clear hbel
         go_wp2_with fail
         try simp only[Exit.inBlock,Exit.then]
         refine bodyPost_ret (zah rfl _ _ w.heap.size 29 _ (0,0) _ rfl (zad _ _ _ _ HB0.out) Tryz.underlying29 rfl (by kernel_rfl)) rfl ?_;exact za0 ts i w _ _ _ K X Z A mm cc (zaf HBEL.out _ _ _ _ (Nat.le_refl _)) HO.out rfl
      ·have HO:Hid (O=some (alls V t,ts.drop k2)):=hidE (HO.out.trans (by rw[ho];rfl))
       have HT:=hidE hr;clear ho hr;go_wp2_with fail
       go_loopg [11] (k-1-i) (λgg vj wr=>zq4 i k w1.heap.size V (some t) w gg vj wr)
       case atStart =>
        refine⟨k-1,K1,X1,Z1,A1,m1,c1,by omega,by go_num,by omega,by omega,heap_alloc_new _ _,HB0.out.alloc _,(zaD B1.out (Nat.le_refl _)).alloc (by omega) _,?_⟩;intro t0 h;injection h with h;subst h;rw[List.drop_eq_nil_of_le (by have:=HK0.out;omega)]
        exact HT.out.keep (λg hg=>by simp at hg ⊢;omega) (λg hg=>Below.heap_alloc _ _ _ hg.2)
       case round =>
        obtain⟨j,K,X,Z,A,mm,cc,rfl,rfl,hij,hjK,hb9,hb0,hbel,hrd⟩:=hrel;obtain⟨p0,p1,p2,p3,s0,s1,s2,s3,hlx⟩:=zaa hb9;obtain⟨a0,a1,a2,a3,r0,r1,r2,r3,hlw3⟩:=zaa hb0;have HB9:=hidE hb9;have HB0:=hidE hb0;have HBEL:=hidE hbel;have HRD:=hidE hrd;have hgw:g<wr.heap.size:=by have:=hbel.size;omega
        clear hb9 hb0 hrd;by_cases hji:i<j
        ·obtain⟨hjn,-,hjt⟩:=HV1.out j (by omega) (by omega)
         obtain⟨-,e1⟩:=(HV.out.below hbel).cells j hjn;obtain⟨Y,hY⟩:∃Y:ByteArray,⟨ts[j].text.toArray⟩=Y:=⟨_,rfl⟩;rw[hY]at e1
         have HY:Hid (Y=⟨(V.getD (j-(i+1)) []).toArray⟩):=hidE (by rw[<-hY,hjt]);have hjn':j<n:=by omega
         clear hbel hjt hY hjn;go_wp2_with fail
         go_region
         go_wp2_with fail
         go_roundg (j-1-i)
         case measure=>omega
         case rel =>
          have hsz:=HBEL.out.size;have h9:w.heap.size<w1.heap.size:=hlw;refine⟨j-1,5,Y,0,some ⟨wr.heap.size,0,none⟩,1,1,by omega,by go_num,by omega,by omega,((zad _ _ _ _ HB9.out).alloc _).drew,((zg8 (by omega) HB0.out).alloc _).drew,((zaf HBEL.out _ _ _ _ (by omega)).alloc (by simp;omega) _).drew,λt0 h=>?_⟩;rw[zf7 V (j-1-i) t0 (by have:=HK0.out;omega),show j-1-i+1=j-i by omega]
          refine zf6 (w:=wr) (by rw[HY.out,show j-1-i=j-(i+1) by omega]) (HRD.out t0 h) (λg hg=>?_) (λg hg=>?_) ?_ ?_
          ·have:=hg.2.1
           exact⟨hg.1,by simp;omega,hg.2.2⟩
          ·exact(Below.heap_alloc _ _ _ (by simp;exact hg.2.1)).trans (zaj _ _ _ _ _ _ _ hg.2.2)
          ·exact⟨by omega,by simp,by omega⟩
          ·intro d u hu
           have:=zaK ((((wr.setCell ⟨w1.heap.size,0,none⟩ (.int .i64 5)).setCell ⟨w1.heap.size,1,none⟩ (.string Y)).setCell ⟨w1.heap.size,2,none⟩ (.int .i64 0)).setCell ⟨w1.heap.size,3,none⟩ (.slice (some ⟨wr.heap.size,0,none⟩) 1 1)) #[.int .i64 K,.string X,.int .i64 Z,.slice A mm cc] 29 wr.heap.size (by simp) d u hu;rw[zaQ]at this
           exact this
        ·clear hbel
         go_wp2_with fail
         try simp only[Exit.inBlock,Exit.then]
         refine bodyPost_ret (zah rfl _ _ w.heap.size 29 _ (0,0) _ rfl (zad _ _ _ _ HB0.out) Tryz.underlying29 rfl (by kernel_rfl)) rfl ?_;obtain rfl:i=j:=by omega
         have hr:=HRD.out t rfl;rw[Nat.sub_self,List.drop_zero]at hr
         refine zbq ts i w _ _ _ K X Z A mm cc (alls V t) k2 (zaf HBEL.out _ _ _ _ (Nat.le_refl _)) (by omega) hkn2 HO.out rfl ?_;exact hr.keep (λg hg=>by simp at hg ⊢;omega) (λg hg=>zaj _ _ _ _ _ _ _ (by omega))
   ·cases q
    ·have HO:Hid (O=none):=hidE (HO.out.trans (by rw[HQ.out];simp))
     go_wp2_with (go_at_call 84;refine(hIs2 _ (HV.out.alloc _)).mono ?_;rintro e w2 ⟨rfl,rfl⟩)
     try simp only[Exit.inBlock,Exit.then]
     refine bodyPost_ret (zah rfl _ _ w.heap.size 29 _ (0,0) _ rfl (heap_alloc_new _ _) Tryz.underlying29 rfl (by kernel_rfl)) rfl ?_;exact za0 ts i w _ _ _ 0 ⟨#[]⟩ 0 none 0 0 ((Below.refl _ w).alloc (Nat.le_refl _) _) HO.out rfl
    ·exact absurd (zeX _ _ _ _ HQ.out) (by rw[HN.out];exact hkn)
theorem zp6(ts:List Tok)(v:Value)(hg:AllG ts)(hn:ts.length<=100000)(f:Nat):∀f1,f1<=f ->
  (∀(w:World)(i:Nat),RdT w v ts->i<=ts.length->4*(ts.length-i)+4<=f1->Calls Tryz.prog 58 #[v,.int .i64 i] w (RPost ts i w (read f1 (ts.drop i)))) /\
  (∀(w:World)(i:Nat),RdT w v ts->i<=ts.length->4*(ts.length-i)+3<=f1->Calls Tryz.prog 85 #[v,.int .i64 i] w (RPost ts i w (app f1 (ts.drop i)))) /\
  (∀(w:World)(i:Nat),RdT w v ts->i<=ts.length->4*(ts.length-i)+2<=f1->Calls Tryz.prog 108 #[v,.int .i64 i] w (RPost ts i w (atom f1 (ts.drop i)))):=by
 induction f with
 |zero =>
  intro f1 h;exact⟨λw i _ _ h2=>by omega,λw i _ _ h2=>by omega,λw i _ _ h2=>by omega⟩
 |succ f ih =>
  intro f1 h1;by_cases h:f1<=f
  ·exact ih f1 h
  ·obtain rfl:f1=f+1:=by omega
   have i0:=ih f (Nat.le_refl _);refine⟨λw i hv hi hf=>?_,λw i hv hi hf=>?_,λw i hv hi hf=>?_⟩
   ·cases hq:isAt ts i 3 wForall with
    |true=>exact zjy f ts v w i hv hn hf hq i0.1
    |false=>exact zjx f ts v w i hv hn hi hf hq i0.2.1 i0.1
   ·exact zp5 f ts v w i hv hn hi hf (λf1 h=>(ih f1 h).2.2)
   ·exact zoe f ts v w i hv hg hn hi hf i0.1
theorem zof(ts:List Tok)(v:Value)(w:World)(hg:AllG ts)(hn:ts.length<=100000)(hv:RdT w v ts):Calls Tryz.prog 58 #[v,.int .i64 0] w (RPost ts 0 w (read (enough ts) ts)):=by
 have:=(zp6 ts v hg hn (enough ts) (enough ts) (Nat.le_refl _)).1 w 0 hv (Nat.zero_le _) (by unfold enough;omega);rwa [List.drop_zero]at this
def zlY(n:Nat):Prop:=∀(t:Ty)(S:Nat->Prop)(v vo:Value)(out:List Nat)(w:World),t.size<=n->RdV S w t v->(∀g,S g->g<w.heap.size)->RowN w vo (intV out) ->
 out.length+t.size<=100000->Calls Tryz.prog 60 #[v,vo] w (MetasPost t out w)
set_option maxRecDepth 2000 in
theorem zcd(n:Nat)(IH:zlY n)(t:Ty)(S:Nat->Prop)(K:Int)(X:ByteArray)(Z:Int)(A:Option Addr)(m c:Nat)(vo:Value)(out:List Nat)(w:World)(hn:t.size<=n+1)
  (d2:((K:Int)==2)=false)(hf:t.metasO out=zaO (kids t) out)(hm:(kids t).length=m)(ha:Args S w t A)(hS:∀g,S g->g<w.heap.size)(ho:RowN w vo (intV out))
  (hol:out.length+t.size<=100000):Calls Tryz.prog 60 #[.agg #[.int .i64 K,.string X,.int .i64 Z,.slice A m c],vo] w (MetasPost t out w):=by
 have HM:=hidE hm;have HA:=hidE ha;have HIH:=hidE IH;have HS:=hidE hS;have HN:=hidE hn;have HF:=hidE hf;have HO:=hidE ho;have HOL:=hidE hol;have hm6:m<=100000:=by have:=zaW t;omega
 clear hm ha IH hS hn hf ho hol;go_enter Tryz.func60,Tryz.ntmps60
 go_wp2_with fail
 go_loopg [1,6] m (λgg vs vi wr=>∃(i:Nat) (o:List Nat),gg=m-i/\vi=.int .i64 i/\i<=m/\Hid (o=zaO ((kids t).take i) out)/\RowN wr vs (intV o)/\Below (w.heap.size+1) (w.alloc (.cells #[.int .i64 K,.string X,.int .i64 Z,.slice A m c] 29)) wr)
 case atStart=>exact⟨0,out,rfl,rfl,by omega,hidE rfl,HO.out.below ((Below.refl _ _).alloc (Nat.le_refl _) _),Below.refl _ _⟩
 case round =>
  obtain⟨i,o,rfl,rfl,hi,hd,hro,hb⟩:=hrel;have c3:wr.cell? ⟨w.heap.size,3,none⟩=some (.slice A m c):=(hb.cell (p:=⟨w.heap.size,3,none⟩) (by simp)).trans (cell_of_row _ _ _ _ _ _ (heap_alloc_new _ _));have HB2:=hidE hb;have HRO:=hidE hro;clear hb hro;by_cases hlt:i<m
  ·obtain⟨g,u,K1,X1,Z1,A1,n1,c1,rfl,hg,e0,e1,e2,e3,hu,hrd,hsz⟩:=zaP (w':=wr) HA.out HM.out hlt (λg hg=>by rw[HB2.out.block g (by have:=HS.out g hg;omega),Below.heap_alloc _ _ _ (HS.out g hg)])
   have hbw:Below w.heap.size w wr:=((Below.refl _ w).alloc (Nat.le_refl _) _).trans (HB2.out.mono (by omega));have hgw:g<wr.heap.size:=by have:=hbw.size;have:=HS.out g hg;omega
   have hlen:o.length+u.size<=100000:=by
    have h1:=zeI ((kids t).take i) out;rw[<-hd.out]at h1
    obtain⟨hil,hul⟩:=List.getElem?_eq_some_iff.1 hu;have h2:=zdO (kids t) i;have h3:u.size<=zab ((kids t).drop i):=by
     rw[List.drop_eq_getElem_cons hil,zab,hul];omega
    have:=zak t;have:=HOL.out;omega
   have hcall:=HIH.out u S _ u1 o wr (by have:=HN.out;omega) hrd (λg hg=>by have:=hbw.size;have:=HS.out g hg;omega) HRO.out hlen;have hnx:=hidE (zkK _ _ _ _ _ hd hu);clear hrd hu hd hbw hlen;go_wp2_with (go_at_call 60;refine hcall.mono ?_;rintro e w1 ⟨v1,rfl,hr1,b1⟩)
   have HR1:=hidE hr1;have HB3:=hidE (bnext HB2.out b1 (by simp));go_roundg (m-(i+1))
   case measure=>omega
   case rel=>exact⟨i+1,_,rfl,by go_num,by omega,hnx,HR1.out,HB3.out⟩
  ·have hr:=hidE (show o=t.metasO out by rw[HF.out,hd.out,List.take_of_length_le (by rw[HM.out];omega)])
   go_wp2_with fail
   go_ret
   exact⟨_,rfl,by rw[<-hr.out];exact HRO.out,((Below.refl _ w).alloc (Nat.le_refl _) _).trans (HB2.out.mono (by omega))⟩
theorem zlj(n:Nat):zlY n:=by
 induction n with
 |zero=>intro t S v vo out w h;have:=zak t;omega
 |succ n ih =>
  intro t S v vo out w hn hv hS ho hol;obtain⟨A,c,rfl,ha⟩:=hv;cases t with
  |var x=>exact zcd n ih (.var x) S _ _ _ A _ c vo out w hn rfl (zdn _ _ (λ_ h=>by cases h)) rfl ha hS ho hol
  |mt k =>
   refine(zjE k _ A _ c vo out w ho (by omega)).mono ?_;rintro e w' ⟨v',h1,h2,h3⟩;exact⟨v',h1,by rw[Ty.metasO];exact h2,h3⟩
  |con k l=>exact zcd n ih (.con k l) S _ _ _ A _ c vo out w hn rfl (zdn _ _ (λ_ h=>by cases h)) rfl ha hS ho hol
  |fn t u=>exact zcd n ih (.fn t u) S _ _ _ A _ c vo out w hn rfl (zdn _ _ (λ_ h=>by cases h)) rfl ha hS ho hol
  |all x t=>exact zcd n ih (.all x t) S _ _ _ A _ c vo out w hn rfl (zdn _ _ (λ_ h=>by cases h)) rfl ha hS ho hol
theorem zmH(t:Ty)(S:Nat->Prop)(v:Value)(w:World)(hs:t.size<=100000)(hv:RdV S w t v)(hS:∀g,S g->g<w.heap.size):Calls Tryz.prog 29 #[v] w λe w'=>∃v',e=.returned v'/\RowN w' v' (intV t.metas)/\Below w.heap.size w w':=by
 obtain⟨K,X,Z,A,m,c,rfl,-,-,-,hm,ha⟩:=hv.parts;have hcall:=hidE (λw' (hv':RdV S w' t (.agg #[.int .i64 K,.string X,.int .i64 Z,.slice A m c])) hS'=>zlj 100000 t S _ (.slice none 0 0) [] w' hs hv' hS' (RowN.nil w') (by simpa using hs));have HV:=hidE (hv.keep (S':=S) (w':=w.alloc (.cells #[.int .i64 K,.string X,.int .i64 Z,.slice A m c] 29)) (λ_ h=>h) (λg hg=>Below.heap_alloc _ _ _ (hS g hg)));have HS:=hidE hS;clear hv hm ha hS;go_enter Tryz.func29,Tryz.ntmps29
 go_wp2_with (go_at_call 60;refine(hcall.out _ HV.out (λg hg=>by have:=HS.out g hg;simp;omega)).mono ?_;rintro e w1 ⟨v1,rfl,hr1,b1⟩)
 go_ret
 exact⟨_,rfl,hr1,zaD b1 (Nat.le_refl _)⟩
def zn3(s:List UInt8)(w:World)(e:Ending)(w':World):Prop :=
 Below w.heap.size w w'/\∃K X Z A m c,
  ((∃n,n≠0/\parse s=.error n/\e=.returned (.tuple #[.agg #[.int .i64 0,.string ⟨#[]⟩,.int .i64 0,.slice none 0 0],.int .i64 (n:Nat)])) \/
   (∃t,parse s=.ok t/\e=.returned (.tuple #[.agg #[.int .i64 K,.string X,.int .i64 Z,.slice A m c],.int .i64 0]) /\
    RdV (λg=>w.heap.size<=g/\g<w'.heap.size) w' t (.agg #[.int .i64 K,.string X,.int .i64 Z,.slice A m c])))
theorem zdI(s:List UInt8)(w w':World)(e:Ending)(n:Nat)(N:Int)(hb:Below w.heap.size w w')(h0:n≠0)(hp:parse s=.error n)(hN:N=n)
  (he:e=.returned (.tuple #[.agg #[.int .i64 0,.string ⟨#[]⟩,.int .i64 0,.slice none 0 0],.int .i64 N])):zn3 s w e w' :=
 ⟨hb,0,⟨#[]⟩,0,none,0,0,.inl ⟨n,h0,hp,by rw[he,hN]⟩⟩
theorem zgF(s:ByteArray)(w:World)(hs:s.size<=maxLen):Calls Tryz.prog 28 #[.string s] w (zn3 s.data.toList w):=by
 go_enter Tryz.func28,Tryz.ntmps28
 go_wp2_with fail
 refine(zrC s _ hs).mono ?_;rintro e w1 ⟨b1,v,ts,a,er,hsc,rfl,hown⟩;have hb0:Blk w1 w.heap.size 29 #[.int .i64 0,.string ⟨#[]⟩,.int .i64 0,.slice none 0 0]:=Blk.below (heap_alloc_new _ _) b1 (by simp);obtain⟨a0,a1,a2,a3,r0,r1,r2,r3,hlw⟩:=zaa hb0;have HB0:=hidE hb0;have B1:=hidE b1;have HSC:=hidE hsc;have HRD:=hidE (RdT.of_own hown);obtain⟨P,c,rfl⟩:∃P c,v=.slice P ts.length c:=zaz hown;clear hb0 b1 hsc hown;by_cases he:er=0
 ·subst he
  obtain⟨hG,hL⟩:=zi5 _ _ _ HSC.out;have HR:=hidE (zof ts (.slice P ts.length c) w1 hG (by omega) HRD.out);obtain⟨n,hN⟩:∃n,ts.length=n:=⟨_,rfl⟩;have HN:=hidE hN;rw[hN]at HR hL ⊢
  clear hN;go_wp2_with fail
  refine HR.out.mono ?_;rintro e w2 ⟨b2,K1,X1,Z1,A1,m1,c1,hcases⟩;have hb0:=HB0.out.below b2 hlw;obtain⟨a0,a1,a2,a3,r0,r1,r2,r3,hlw2⟩:=zaa hb0;have HC0:=hidE hb0;have B2:=hidE b2;have HBEL:=hidE (bnext (zaD B1.out (Nat.le_refl _)) b2 (Nat.le_refl _));clear hb0 b2;rcases hcases with⟨ho,rfl⟩|⟨t,k,hk,hkn,ho,rfl,hr⟩
  ·have HP:=hidE (zes _ _ _ HSC.out (by rw[ho];simp))
   have dn:((-1:Int) !=(n:Int))=true:=neqT _ _ (by omega);clear ho;go_wp2_with fail
   try simp only[Exit.inBlock,Exit.then]
   refine bodyPost_ret (zah rfl _ _ w.heap.size 29 _ (0,0) _ rfl ((zad _ _ _ _ HC0.out).alloc _) Tryz.underlying29 rfl (by kernel_rfl)) rfl ?_;exact zdI _ _ _ _ 20 20 ((zaf HBEL.out _ _ _ _ (Nat.le_refl _)).alloc (by simp;omega) _) (by decide) HP.out rfl rfl
  ·by_cases hkk:k=n
   ·have dn:((k:Int) !=(n:Int))=false:=neqF _ _ (by rw[hkk])
    have HP:=hidE (zhM _ _ _ t HSC.out (by rw[ho,List.drop_eq_nil_of_le (by rw[HN.out];omega)]));have HT:=hidE hr;have hts:t.size<=4000:=by
     have:=((ze1 _).1 ts t _ hG ho).2.2;have:=HN.out;omega
    clear ho hr hkk hG;have HD:=hidE (λw v hv hS=>zmE 1000000 t (λg=>w1.heap.size<=g/\g<w2.heap.size) v w (by omega) (by omega) hv hS);obtain⟨D,hD⟩:∃D,t.depth=D:=⟨_,rfl⟩;rw[hD]at HP HD
    clear hD;go_wp2_with fail
    refine(HD.out _ _ (HT.out.keep (λ_ h=>h) (λg hg=>Below.heap_alloc _ _ _ hg.2)) (λg hg=>by simp;omega)).mono ?_;rintro e w3 ⟨rfl,b3⟩;have hb0:=(HC0.out.alloc (.cells #[.int .i64 K1,.string X1,.int .i64 Z1,.slice A1 m1 c1] 29)).below b3 (by simp;omega);have hb7:Blk w3 w2.heap.size 29 #[.int .i64 K1,.string X1,.int .i64 Z1,.slice A1 m1 c1]:=Blk.below (heap_alloc_new _ _) b3 (by simp);obtain⟨a0,a1,a2,a3,r0,r1,r2,r3,hlw3⟩:=zaa hb0;obtain⟨p0,p1,p2,p3,s0,s1,s2,s3,hlx3⟩:=zaa hb7;have HE0:=hidE hb0;have hbel3:=hidE (bnext HBEL.out (zaD b3 (Nat.le_refl _)) (by have:=HBEL.out.size;omega));have HT3:=hidE (HT.out.keep (S':=λg=>w1.heap.size<=g/\g<w2.heap.size) (λ_ h=>h) (λg hg=>(zaD b3 (Nat.le_refl _)).block g hg.2));have hsz3:=(zaD b3 (Nat.le_refl _)).size;have hsz1:=HBEL.out.size;have hsz0:=(zaD B1.out (Nat.le_refl _)).size;clear hb0 hb7 b3;by_cases hd:50<D
    ·have dd:decide ((50:Int)<(D:Int))=true:=decide_eq_true (by omega)
     have HP:=hidE (HP.out.trans (if_pos hd));clear hd;go_wp2_with fail
     try simp only[Exit.inBlock,Exit.then]
     refine bodyPost_ret (zah rfl _ _ w.heap.size 29 _ (0,0) _ rfl (zad _ _ _ _ HE0.out) Tryz.underlying29 rfl (by kernel_rfl)) rfl ?_;exact zdI _ _ _ _ 3 3 (zaf hbel3.out _ _ _ _ (Nat.le_refl _)) (by decide) HP.out rfl rfl
    ·have dd:decide ((50:Int)<(D:Int))=false:=decide_eq_false (by omega)
     have HP:=hidE (HP.out.trans (if_neg hd));clear hd;go_wp2_with fail
     try simp only[Exit.inBlock,Exit.then]
     refine bodyPost_ret (zah rfl _ _ w.heap.size 29 _ (0,0) _ rfl (zad _ _ _ _ HE0.out) Tryz.underlying29 rfl (by kernel_rfl)) rfl ?_;refine⟨zaf hbel3.out _ _ _ _ (Nat.le_refl _),K1,X1,Z1,A1,m1,c1,.inr ⟨t,HP.out,rfl,?_⟩⟩;exact HT3.out.keep (λg hg=>by simp;omega) (λg hg=>zaj _ _ _ _ _ _ _ (by omega))
   ·have dn:((k:Int) !=(n:Int))=true:=neqT _ _ (by omega)
    have HP:=hidE (zes _ _ _ HSC.out (by
     rw[ho]
     intro t' e;injection e with e;injection e with _ e;have:=congrArg List.length e;rw[List.length_drop,HN.out]at this
     simp at this;rw[HN.out]at hkn
     omega))
    clear ho hr hkk;go_wp2_with fail
    try simp only[Exit.inBlock,Exit.then]
    refine bodyPost_ret (zah rfl _ _ w.heap.size 29 _ (0,0) _ rfl ((zad _ _ _ _ HC0.out).alloc _) Tryz.underlying29 rfl (by kernel_rfl)) rfl ?_;exact zdI _ _ _ _ 20 20 ((zaf HBEL.out _ _ _ _ (Nat.le_refl _)).alloc (by simp;omega) _) (by decide) HP.out rfl rfl
 ·have de:=neqT (er:Int) 0 (by omega)
  have HP:=hidE (zi6 _ _ _ _ HSC.out he);have HE:=hidE he;clear he;go_wp2_with fail
  try simp only[Exit.inBlock,Exit.then]
  refine bodyPost_ret (zah rfl _ _ w.heap.size 29 _ (0,0) _ rfl (zad _ _ _ _ HB0.out) Tryz.underlying29 rfl (by kernel_rfl)) rfl ?_;exact zdI _ _ _ _ er er (zaf (zaD B1.out (Nat.le_refl _)) _ _ _ _ (Nat.le_refl _)) HE.out HP.out rfl rfl
theorem zkc(w:World):Calls Tryz.prog 60 #[.agg #[.int .i64 0,.string ⟨#[]⟩,.int .i64 0,.slice none 0 0],.slice none 0 0] w λe w'=>e=.returned (.slice none 0 0)/\Below w.heap.size w w':=by
 go_enter Tryz.func60,Tryz.ntmps60
 go_wp2_with fail
 go_loopg [1,6] 0 (λgg (vo vi:Value) wr=>gg=0/\vo=.slice none 0 0/\vi=.int .i64 0/\wr=w.alloc (.cells #[.int .i64 0,.string ⟨#[]⟩,.int .i64 0,.slice none 0 0] 29))
 case atStart=>exact⟨rfl,rfl,rfl,rfl⟩
 case round =>
  obtain⟨hgg,rfl,rfl,rfl⟩:=hrel;go_wp2_with fail
  go_ret
  exact⟨rfl,(Below.refl _ w).alloc (Nat.le_refl _) _⟩
theorem zlg(w:World):Calls Tryz.prog 29 #[.agg #[.int .i64 0,.string ⟨#[]⟩,.int .i64 0,.slice none 0 0]] w λe w'=>e=.returned (.slice none 0 0)/\Below w.heap.size w w':=by
 go_enter Tryz.func29,Tryz.ntmps29
 go_wp2_with fail
 refine(zkc _).mono ?_;rintro e w1 ⟨rfl,b1⟩;go_wp2_with fail
 go_ret
 exact⟨rfl,zaD b1 (Nat.le_refl _)⟩
end Go.Proofs.YtaomnlcplmkokaaGreatDoor
namespace Go.Proofs.YtaomnlcplmkokaaGreatDoor
open Go.RowKit Lx Tx
set_option maxRecDepth 100000
theorem zog(n:Nat):∀(t:Ty)(S:Nat->Prop)(v:Value)(w:World),t.size<=n->n<=1000000->RdV S w t v->(∀g,S g->g<w.heap.size) ->
  Calls Tryz.prog 34 #[v] w λe w'=>e=.returned (.bool t.poly)/\Below w.heap.size w w':=by
 induction n with
 |zero=>intro t S v w h;rw[zak]at h;omega
 |succ n ih =>
  intro t S v w hn h5 hv hS;obtain⟨K,X,Z,A,m,c,rfl,hK,-,-,hm,ha⟩:=hv.parts;obtain⟨R,hR⟩:∃R,t.poly=R:=⟨_,rfl⟩;rw[hR]
  have hm6:m<=n:=by have:=zaW t;omega
  by_cases hk:kd t=5
  ·have hr:=hidE (show R=true by rw[<-hR,zi8,hk];simp)
   have dk:((K:Int)==5)=true:=by rw[hK,hk];rfl
   clear hK hk hR ih ha hm hv;go_enter Tryz.func34,Tryz.ntmps34
   go_wp2
   go_ret
   exact⟨zav hr.out.symm,(Below.refl _ w).alloc (Nat.le_refl _) _⟩
  ·have dk:((K:Int)==5)=false:=by rw[hK];exact kF _ 5 hk
   have hR1:za6 (kids t)=R:=by rw[<-hR,zi8];simp[hk]
   have HM:=hidE hm;have HA:=hidE ha;have IH:=hidE ih;have HS:=hidE hS;have HN:=hidE hn;have HR1:=hidE hR1;clear hm hR ha ih hS hn hR1 hv hK hk;go_enter Tryz.func34,Tryz.ntmps34
   go_wp2
   go_loopg [3] m (λgg vi wr=>∃i:Nat,gg=m-i/\vi=.int .i64 i/\i<=m/\Hid (za6 ((kids t).take i)=false)/\Below (w.heap.size+1) (w.alloc (.cells #[.int .i64 K,.string X,.int .i64 Z,.slice A m c] 29)) wr)
   case atStart=>exact⟨0,rfl,rfl,by omega,hidE rfl,Below.refl _ _⟩
   case round =>
    obtain⟨i,rfl,rfl,hi,hd,hb⟩:=hrel;have c3:wr.cell? ⟨w.heap.size,3,none⟩=some (.slice A m c):=(hb.cell (p:=⟨w.heap.size,3,none⟩) (by simp)).trans (cell_of_row _ _ _ _ _ _ (heap_alloc_new _ _));have HB:=hidE hb;clear hb;by_cases hlt:i<m
    ·obtain⟨g,u,K1,X1,Z1,A1,n1,c1,rfl,hg,e0,e1,e2,e3,hu,hrd,hsz⟩:=zaP (w':=wr) HA.out HM.out hlt (λg hg=>by rw[HB.out.block g (by have:=HS.out g hg;omega),Below.heap_alloc _ _ _ (HS.out g hg)])
     have hcall:=IH.out u S _ wr (by have:=HN.out;omega) (by omega) hrd (λg hg=>by have:=HB.out.size;have:=HS.out g hg;simp at *;omega);have hnx:=hidE (znd _ _ _ hd hu);have hat:=hidE (zqE _ _ _ hu);obtain⟨p,hp⟩:∃p,u.poly=p:=⟨_,rfl⟩;rw[hp]at hcall hnx hat
     clear hrd hu hp;cases p
     ·go_wp2_with (go_at_call 34;refine hcall.mono ?_;rintro e w1 ⟨rfl,b1⟩)
      have HB2:=hidE (HB.out.trans (b1.mono (by have:=HB.out.size;simp at this;omega)));go_roundg (m-(i+1))
      case measure=>omega
      case rel=>exact⟨i+1,rfl,by go_num,by omega,hidE hnx.out,HB2.out⟩
     ·have hr:=hidE (show R=true from HR1.out.symm.trans (hat.out rfl))
      go_wp2_with (go_at_call 34;refine hcall.mono ?_;rintro e w1 ⟨rfl,b1⟩)
      go_ret
      exact⟨zav hr.out.symm,((Below.refl _ w).alloc (Nat.le_refl _) _).trans ((HB.out.trans (b1.mono (by have:=HB.out.size;simp at this;omega))).mono (by omega))⟩
    ·have hr:=hidE (show R=false by rw[List.take_of_length_le (by rw[HM.out];omega)]at hd;rw[<-HR1.out];exact hd.out)
     go_wp2_with fail
     go_ret
     exact⟨zav hr.out.symm,((Below.refl _ w).alloc (Nat.le_refl _) _).trans (HB.out.mono (by omega))⟩
end Go.Proofs.YtaomnlcplmkokaaGreatDoor
