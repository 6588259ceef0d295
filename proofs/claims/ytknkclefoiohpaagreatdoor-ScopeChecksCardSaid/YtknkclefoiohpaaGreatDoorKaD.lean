import Derived.Test.YtknkclefoiohpaaGreatDoorKaC
import Derived.IntWalk
set_option maxHeartbeats 12800000
namespace Go.Proofs.YtknkclefoiohpaaGreatDoor
open Go.RowKit Lx
set_option maxRecDepth 100000
theorem zjf(s:ByteArray)(w:World):Calls Tryz.prog 124 #[.string s] w λe w'=>e=.returned (.func (.func 157) #[] #[.pointer (some ⟨w.heap.size+1,0,none⟩),.pointer (some ⟨w.heap.size,0,none⟩)]) /\
   w'=(w.alloc (.cells #[.string s] 9)).alloc (.cells #[.int .i64 0] 3):=by
 have hmf:∀(fn:Fn) (first cap:Array Value) (w:World),(Instr.makeFunc fn first cap).run Tryz.prog w=.ok (.func fn first cap) w:=λ_ _ _ _=>rfl;go_enter Tryz.func124,Tryz.ntmps124
 go_wp2
 go_ret
 exact⟨rfl,rfl⟩
theorem zjg(w:World)(ba nq:Nat)(t3 t30:TypeId)(x u v0 v1 v2 z0 z1 z2:Value)(ha:w.heap[ba]?=some (.cells #[x] t3 (0,0))):(((((((w.alloc (.cells #[z0,z1,z2] t30)).drewN nq).setCell ⟨ba,0,none⟩ u).setCell ⟨w.heap.size,0,none⟩ v0).setCell ⟨w.heap.size,1,none⟩ v1).setCell ⟨w.heap.size,2,none⟩ v2).heap[w.heap.size]?=some (.cells #[v0,v1,v2] t30 (0,0))) /\
  (((((((w.alloc (.cells #[z0,z1,z2] t30)).drewN nq).setCell ⟨ba,0,none⟩ u).setCell ⟨w.heap.size,0,none⟩ v0).setCell ⟨w.heap.size,1,none⟩ v1).setCell ⟨w.heap.size,2,none⟩ v2).heap[ba]?=some (.cells #[u] t3 (0,0))) /\
  w.grownBy ((((((w.alloc (.cells #[z0,z1,z2] t30)).drewN nq).setCell ⟨ba,0,none⟩ u).setCell ⟨w.heap.size,0,none⟩ v0).setCell ⟨w.heap.size,1,none⟩ v1).setCell ⟨w.heap.size,2,none⟩ v2) (some ba):=by
 have ah:=lt_of_block ha;have n0:((w.alloc (.cells #[z0,z1,z2] t30)).drewN nq).heap[w.heap.size]?=some (.cells #[z0,z1,z2] t30 (0,0)):=tW w _;have a0:((w.alloc (.cells #[z0,z1,z2] t30)).drewN nq).heap[ba]?=some (.cells #[x] t3 (0,0)):=(uc w _ ba ah).trans ha;have n1:=(heap_setCell_other _ ⟨ba,0,none⟩ w.heap.size u (by simp;omega)).trans n0;have a1:=one_setCell (u:=u) a0;have n2:=uk _ w.heap.size 0 _ t30 v0 n1;have a2:=(heap_setCell_other _ ⟨w.heap.size,0,none⟩ ba v0 (by simp;omega)).trans a1;have n3:=uk _ w.heap.size 1 _ t30 v1 n2;have a3:=(heap_setCell_other _ ⟨w.heap.size,1,none⟩ ba v1 (by simp;omega)).trans a2;have n4:=uk _ w.heap.size 2 _ t30 v2 n3;have a4:=(heap_setCell_other _ ⟨w.heap.size,2,none⟩ ba v2 (by simp;omega)).trans a3;refine⟨n4,a4,⟨rfl,rfl,rfl,?_,?_⟩⟩
 ·simp[World.setCell]
 ·intro k hk bf
  have bf:k≠ba:=λe=>bf (by rw[e]);rw[heap_setCell_other _ _ _ _ (by simp;omega),heap_setCell_other _ _ _ _ (by simp;omega),heap_setCell_other _ _ _ _ (by simp;omega),heap_setCell_other _ _ _ _ (by simpa using bf)]
  exact uc w _ k hk
theorem zl4(s:ByteArray)(i b n k ba bs:Nat)(w:World)(hs:s.size<=maxLen)(hi:i<=s.size)(hab:bs<ba)
  (ha:w.heap[ba]?=some (.cells #[.int .i64 i] 3 (0,0)))(hb:w.heap[bs]?=some (.cells #[.string s] 9 (0,0)))
  (hB:btw false (s.data.toList.drop i)=b)(hN:first (s.data.toList.drop (i+b))=(k,n))(pJ:i+b<=s.size)(hns:i+b+n<=s.size):Calls Tryz.prog 157 #[.pointer (some ⟨ba,0,none⟩),.pointer (some ⟨bs,0,none⟩)] w λe w'=>e=.returned (.agg #[.int .i64 k,.string (s.extract (i+b) (i+b+n)),.int .i64 ((i:Int)+b)])/\w.grownBy w' (some ba)/\w'.heap[ba]?=some (.cells #[.int .i64 ((i:Int)+b+n)] 3 (0,0)):=by
 have ca:=cell_of_one ha;have cb:=cell_of_one hb;have ou:=lt_of_block ha;have nt:=lt_of_block hb;have fa:=free_of_one ha;have hA:=wJ ha;have eh:=wJ hb;clear ha hb;have hz:=zd9 s i;have PB:∀w:World,Calls Tryz.prog 158 #[.string (s.extract i s.size)] w λe w'=>e=.returned (.int .i64 b)/\w'=w:=by
  intro w;have:=zh1 (s.extract i s.size) w (by omega);rw[zcz,hB]at this
  exact this.mono λe w' h=>⟨h.1,h.2.symm⟩
 clear hz;have hz:=zd9 s (i+b);have PF:∀w:World,Calls Tryz.prog 159 #[.string (s.extract (i+b) s.size)] w λe w'=>e=.returned (.tuple #[.int .i64 k,.int .i64 n])/\w=w':=by
  intro w;have:=zkf (s.extract (i+b) s.size) w (by omega);rw[zcz,hN]at this
  exact this
 clear hz hB hN;unfold maxLen at hs;go_enter Tryz.func157,Tryz.ntmps157
 go_wp2_with fail
 have sum1:IntKind.i64.wrap ((i:Int)+(b:Int))=(i:Int)+b:=by exact IntWalk.i64_in _ (by omega)
 go_quiet ((go_at_call 158;exact Calls.quiet_of_same (PB _)))
 clear sum1;go_wp2_with (go_at_call 159;refine(PF _).mono ?_;rintro e w' ⟨rfl,rfl⟩)
 have HW:=zjg w ba nq 3 152 _ (.int .i64 ((i:Int)+b+n)) (.int .i64 k) (.string (s.extract (i+b) (i+b+n))) (.int .i64 ((i:Int)+b)) (.int .i64 0) (.string ⟨#[]⟩) (.int .i64 0) hA.out;exact ub (results_cell_row rfl _ _ w.heap.size 152 _ (0,0) _ rfl HW.1 Tryz.underlying152 rfl (by kernel_rfl)) rfl ⟨rfl,HW.2.2,HW.2.1⟩
def tokV(t:Tok):List Value:=[.int .i64 t.kind,.string ⟨t.text.toArray⟩,.int .i64 t.at_]
def zbc(ts:List Tok):List Value:=ts.flatMap tokV
theorem zff(ts:List Tok)(t:Tok):zbc (ts++[t])=zbc ts++tokV t:=by
 simp[zbc]
def zaX(l:List UInt8):List Tok × Nat × Nat :=
 if 4000<l.length then([],0,2) else match lex l with
 |.ok ts=>(ts,0,0)
 |.error a=>([],a,10)
def Step(s:ByteArray)(i p q k:Nat):Prop:=i<=p/\p<=q/\q<=s.size/\p=i+btw false (s.data.toList.drop i)/\first (s.data.toList.drop p)=(k,q-p)
theorem zfI(s:ByteArray)(i:Nat)(hi:i<=s.size):∃p q k,Step s i p q k:=by
 have h1:=zkg false (s.data.toList.drop i);have h2:=zgP (s.data.toList.drop (i+btw false (s.data.toList.drop i)));have hz:=vf s;rw[uR]at h1 h2
 refine⟨_,i+btw false (s.data.toList.drop i)+(first (s.data.toList.drop (i+btw false (s.data.toList.drop i)))).2,(first (s.data.toList.drop (i+btw false (s.data.toList.drop i)))).1,by omega,by omega,by omega,rfl,?_⟩;rw[vt]
def Known(s:ByteArray)(i:Nat)(ts:List Tok):Prop:=lex s.data.toList=(sc i (s.data.toList.drop i)).map (ts++·)/\ts.length<=i
theorem zeE(s:ByteArray):Known s 0 []:=by
 refine⟨?_,tV _⟩;rw[zgQ,vS]
 cases sc 0 s.data.toList <;> rfl
theorem zfg(s:ByteArray)(i p q k:Nat)(ts:List Tok)(hk:Known s i ts)(be:Step s i p q k)(h:¬p<s.size):lex s.data.toList=.ok ts:=by
 obtain⟨_,_,_,h4,_⟩:=be;have hz:=vf s;rw[hk.1,zb7,ud]
 ·show Except.ok (ts++[])=_
  rw[uW]
 ·rw[vX,<-h4,uD (by omega)]
theorem ziA(s:ByteArray)(p:Nat)(h:p<s.size):s.data.toList.drop p≠[]:=by
 rw[drop_at s p h];simp
theorem zf0(s:ByteArray)(i p q:Nat)(ts:List Tok)(hk:Known s i ts)(be:Step s i p q 0)(h:p<s.size):lex s.data.toList=.error p:=by
 obtain⟨_,_,_,h4,h5⟩:=be;rw[hk.1,zb7,vX,<-h4,ue (ziA s p h),h5,ud rfl]
 rfl
theorem zfh(s:ByteArray)(i p q k:Nat)(ts:List Tok)(hk:Known s i ts)(be:Step s i p q k)(h:p<s.size)(h0:k≠0):i<q/\Known s q (ts++[⟨k,(s.data.toList.drop p).take (q-p),p⟩]):=by
 obtain⟨h1,h2,h3,h4,h5⟩:=be;have hp:=zbP (s.data.toList.drop p) (by rw[h5];exact h0);rw[h5]at hp
 have hq:i<q:=by omega
 refine⟨hq,?_,by have:=hk.2;simp;omega⟩;rw[hk.1,zb7 i,vX,<-h4,ue (ziA s p h),h5,ue h0,vX,show p+(q-p)=q by omega]
 cases sc q (s.data.toList.drop q) with
 |error a=>rfl
 |ok us=>show Except.ok _=Except.ok _;simp
theorem zed(s:ByteArray)(p q k:Nat):tokV ⟨k,(s.data.toList.drop p).take (q-p),p⟩=[.int .i64 k,.string (s.extract p q),.int .i64 p]:=by
 unfold tokV;rw[Lib.extract_eq]
theorem zf1(s:ByteArray)(i p q k ba bs:Nat)(w:World)(hs:s.size<=maxLen)(be:Step s i p q k)(hab:bs<ba)
  (ha:w.heap[ba]?=some (.cells #[.int .i64 i] 3 (0,0)))(hb:w.heap[bs]?=some (.cells #[.string s] 9 (0,0))):Calls Tryz.prog 157 #[.pointer (some ⟨ba,0,none⟩),.pointer (some ⟨bs,0,none⟩)] w λe w'=>e=.returned (.agg #[.int .i64 k,.string (s.extract p q),.int .i64 p])/\w.grownBy w' (some ba)/\w'.heap[ba]?=some (.cells #[.int .i64 q] 3 (0,0)):=by
 obtain⟨h1,h2,h3,h4,h5⟩:=be;obtain⟨b,rfl⟩:∃b,p=i+b:=⟨p-i,by omega⟩;obtain⟨n,rfl⟩:∃n,q=i+b+n:=⟨q-(i+b),by omega⟩;rw[vt]at h5
 refine(zl4 s i b n k ba bs w hs (by omega) hab ha hb (by omega) h5 (by omega) h3).mono ?_;rintro e w' ⟨rfl,hg,hh⟩;refine⟨by simp,hg,?_⟩;rw[hh]
 simp
def Blk(w:World)(g:Nat)(t:TypeId)(cs:Array Value):Prop:=w.heap[g]?=some (.cells cs t (0,0))
section
variable {w w':World} {g:Nat} {t:TypeId} {cs:Array Value}
theorem Blk.lt(h:Blk w g t cs):g<w.heap.size:=lt_of_block h
theorem Blk.cell(h:Blk w g t cs)(i:Nat):w.cell? ⟨g,i,none⟩=cs[i]?:=cell_of_row w g i cs t (0,0) h
theorem Blk.frozen(h:Blk w g t cs)(i:Nat):w.frozen? ⟨g,i,none⟩=false:=frozen_of_row w g i cs t h
theorem Blk.alloc(h:Blk w g t cs)(o:Obj):Blk (w.alloc o) g t cs:=(uc w o g h.lt).trans h
theorem Blk.drew(h:Blk w g t cs):Blk w.drew g t cs:=h
theorem Blk.far(h:Blk w g t cs) {p:Addr}(hp:g≠p.block)(u:Value):Blk (w.setCell p u) g t cs:=(tY w p u g hp).trans h
theorem Blk.grown {row:Option Nat}(h:Blk w g t cs)(hb:w.grownBy w' row)(hg:some g≠row):Blk w' g t cs:=(hb.block g h.lt hg).trans h
theorem Blk.below {B:Nat}(h:Blk w g t cs)(hb:Below B w w')(hg:g<B):Blk w' g t cs:=(hb.block g hg).trans h
theorem Blk.ne_ {g':Nat} {t':TypeId} {cs':Array Value}(h:Blk w g t cs)(h':Blk w g' t' cs')(bf:t≠t'):g≠g':=by
 rintro rfl;unfold Blk at h h';rw[h]at h'
 injection h' with h';injection h' with _ ht;exact bf ht
theorem zdH {base:Nat} {e:TypeId} {size n:Nat} {v:Value} {xs:List Value}(h:w.ownsRow base e size v n xs)(hg:Blk w g t cs)(bf:e≠t):some g≠v.ownBlock:=by
 rcases h.2 with⟨rfl,_⟩|⟨g',cap,cur,rfl,_,hh,_⟩
 ·simp[Value.ownBlock]
 ·intro he
  have:g=g':=by simpa[Value.ownBlock] using he
  subst this;exact Blk.ne_ (t:=e) hh hg bf rfl
end
end Go.Proofs.YtknkclefoiohpaaGreatDoor
namespace Go.Proofs.YtknkclefoiohpaaGreatDoor
namespace Lx
theorem zkj(c:UInt8)(h:isLet c=true):(65<=c.toNat/\c.toNat<=90)\/(97<=c.toNat/\c.toNat<=122):=by
 simp[isLet,isUp]at h
 omega
theorem zkk(c:UInt8)(h:isDig c=true):48<=c.toNat/\c.toNat<=57:=by
 simp[isDig]at h
 omega
end Lx
namespace Tx
open Lx
inductive Ty where
 |var (x:List UInt8)
 |mt (n:Nat)
 |con (c:List UInt8) (args:List Ty)
 |fn (a b:Ty)
 |all (x:List UInt8) (t:Ty)
def isKey(t:Tok)(s:List UInt8):Bool:=t.kind==3&&t.text==s
def isSign(t:Tok)(s:List UInt8):Bool:=t.kind==6&&t.text==s
def wForall:List UInt8:=[102,111,114,97,108,108]
def atomic(t:Tok):Bool:=t.kind==1||t.kind==5||t.kind==2||t.text==[40]
def vars:List Tok->List (List UInt8) × List Tok
 |[]=>([],[])
 |t::r=>if t.kind=1 then(t.text::(vars r).1,(vars r).2) else([],t::r)
def numOf(l:List UInt8):Nat:=l.foldl (λn c=>10*n+(c.toNat-48)) 0
def alls(xs:List (List UInt8))(t:Ty):Ty:=xs.foldr Ty.all t
def eat(p:Tok->Bool):List Tok->Option (List Tok)
 |[]=>none
 |t::r=>if p t then some r else none
mutual
def read:Nat->List Tok->Option (Ty × List Tok)
 |0,_=>none
 |f+1,l =>
  match eat (isKey · wForall) l with
  |some r =>
   if(vars r).1=[] then none
   else match eat (isSign · [46]) (vars r).2 with
    |none=>none
    |some r2=>(read f r2).map λx=>(alls (vars r).1 x.1,x.2)
  |none =>
   match app f l with
   |none=>none
   |some (a,r) =>
    match eat (isSign · [45,62]) r with
    |none=>some (a,r)
    |some r2=>(read f r2).map λx=>(.fn a x.1,x.2)
def app:Nat->List Tok->Option (Ty × List Tok)
 |0,_=>none
 |f+1,l =>
  match l with
  |[]=>none
  |t::r=>if t.kind=2 then(args f r).map λx=>(.con t.text x.1,x.2) else atom f (t::r)
def args:Nat->List Tok->Option (List Ty × List Tok)
 |0,_=>none
 |f+1,l =>
  match l with
  |[]=>some ([],[])
  |t::r =>
   if atomic t then
    match atom f (t::r) with
    |none=>none
    |some (x,r2)=>(args f r2).map λy=>(x::y.1,y.2)
   else some ([],t::r)
def atom:Nat->List Tok->Option (Ty × List Tok)
 |0,_=>none
 |f+1,l =>
  match l with
  |[]=>none
  |t::r =>
   if t.kind=1 then some (.var t.text,r)
   else if t.kind=2 then some (.con t.text [],r)
   else if t.kind=5 then some (.mt (numOf (t.text.drop 1)),r)
   else if t.text=[40] then
    match read f r with
    |none=>none
    |some (x,r2)=>(eat (isSign · [41]) r2).map λr3=>(x,r3)
   else none
end
def enough(l:List Tok):Nat:=4*l.length+4
mutual
def Ty.depth:Ty->Nat
 |.var _=>1
 |.mt _=>1
 |.con _ l=>za3 l+1
 |.fn a b=>max a.depth b.depth+1
 |.all _ t=>t.depth+1
def za3:List Ty->Nat
 |[]=>0
 |t::r=>max t.depth (za3 r)
end
def digit(n:Nat):UInt8:=(48+n % 10).toUInt8
def decF:Nat->Nat->List UInt8
 |0,_=>[]
 |f+1,n=>if n<10 then[digit n] else decF f (n / 10)++[digit n]
def dec(n:Nat):List UInt8:=decF 20 n
def Ty.isFA:Ty->Bool
 |.fn _ _=>true
 |.all _ _=>true
 |_=>false
def Ty.big:Ty->Bool
 |.fn _ _=>true
 |.all _ _=>true
 |.con _ (_::_)=>true
 |_=>false
def addN {α:Type} [DecidableEq α](x:α)(l:List α):List α:=if x∈l then l else l++[x]
end Tx
namespace Tx
open Lx
def K(k:Nat)(s:List UInt8):Tok:=⟨k,s,0⟩
def tL:Tok:=K 6 [40]
def tR:Tok:=K 6 [41]
def tArrow:Tok:=K 6 [45,62]
def tDot:Tok:=K 6 [46]
def tAll:Tok:=K 3 wForall
mutual
def Ty.toks:Ty->List Tok
 |.var x=>[K 1 x]
 |.mt n=>[K 5 (63::dec n)]
 |.con c l=>K 2 c::zbz l
 |.fn a b=>(if a.isFA then tL::(a.toks++[tR]) else a.toks)++tArrow::b.toks
 |.all x t=>tAll::K 1 x::zcL t
def zbz:List Ty->List Tok
 |[]=>[]
 |t::r=>(if t.big then tL::(t.toks++[tR]) else t.toks)++zbz r
def zcL:Ty->List Tok
 |.all y t=>K 1 y::zcL t
 |.var x=>[tDot,K 1 x]
 |.mt n=>[tDot,K 5 (63::dec n)]
 |.con c l=>tDot::K 2 c::zbz l
 |.fn a b=>tDot::((if a.isFA then tL::(a.toks++[tR]) else a.toks)++tArrow::b.toks)
end
theorem ziy(t:Ty)(h:∀y u,t≠.all y u):zcL t=tDot::t.toks:=by
 cases t with
 |all y u=>exact absurd rfl (h y u)
 |var x=>rw[zcL,Ty.toks]
 |mt n=>rw[zcL,Ty.toks]
 |con c l=>rw[zcL,Ty.toks]
 |fn a b=>rw[zcL,Ty.toks]
inductive Wf:Ty->Prop
 |var (x):Wf (.var x)
 |mt (n):n<=999999->Wf (.mt n)
 |con (c l):(∀t∈l,Wf t)->Wf (.con c l)
 |fn (a b):Wf a->Wf b->Wf (.fn a b)
 |all (x t):Wf t->Wf (.all x t)
def Ty.peel:Ty->List (List UInt8) × Ty
 |.all x t=>(x::t.peel.1,t.peel.2)
 |t=>([],t)
theorem zlP(t:Ty):alls t.peel.1 t.peel.2=t:=by
 induction t using Ty.peel.induct with
 |case1 x t ih=>rw[Ty.peel];show Ty.all x (alls _ _)=_;rw[ih]
 |case2 t h=>rw[Ty.peel];rfl;exact h
theorem zj7(t:Ty):zcL t=t.peel.1.map (K 1 ·)++tDot::t.peel.2.toks:=by
 induction t using Ty.peel.induct with
 |case1 x t ih=>rw[Ty.peel,zcL,ih];rfl
 |case2 t h=>rw[Ty.peel,ziy t h];rfl;exact h
theorem zo4(t:Ty)(h:Wf t):Wf t.peel.2:=by
 induction t using Ty.peel.induct with
 |case1 x t ih=>rw[Ty.peel];cases h with|all _ _ h=>exact ih h
 |case2 t h2=>rw[Ty.peel];exact h;exact h2
theorem znH(xs:List (List UInt8))(t:Tok)(r:List Tok)(h:t.kind≠1):vars (xs.map (K 1 ·)++t::r)=(xs,t::r):=by
 induction xs with
 |nil=>rw[wh,vC,vars,ue h]
 |cons x xs ih=>rw[vI,uS,vars,ud (show(K 1 x).kind=1 from rfl),ih];rfl
theorem zdr(n:Nat):(digit n).toNat=48+n % 10:=by
 unfold digit;rw[Nat.toUInt8_eq,UInt8.toNat_ofNat']
 omega
theorem zfF(l:List UInt8)(c:UInt8):numOf (l++[c])=10*numOf l+(c.toNat-48):=by
 simp[numOf]
theorem zj8(f n:Nat)(h:n<10 ^ f):numOf (decF f n)=n:=by
 induction f generalizing n with
 |zero=>simp at h;subst h;rfl
 |succ f ih =>
  rw[decF]
  split
  ·show 10*0+((digit n).toNat-48)=n
   rw[zdr];omega
  ·rw[zfF,ih (n / 10) (by rw[Nat.pow_succ]at h;omega),zdr]
   omega
theorem zlQ(n:Nat)(h:n<=999999):numOf (dec n)=n:=zj8 20 n (by omega)
def stops(r:List Tok):Prop:=∀t,r.head? = some t->atomic t=false
def zpJ(r:List Tok):Prop:=stops r/\eat (isSign · [45,62]) r=none
theorem zcu(t:Tok)(r:List Tok)(h:t.kind≠3):eat (isKey · wForall) (t::r)=none:=by
 rw[eat,ue]
 simp[isKey,h]
theorem back(n:Nat):(∀t,Wf t->t.toks.length<=n->∀r,zpJ r->∀f,4*(t.toks.length+r.length)+4<=f->read f (t.toks++r)=some (t,r)) /\
  (∀l,(∀t∈l,Wf t)->(zbz l).length<=n->∀r,stops r->∀f,4*((zbz l).length+r.length)+2<=f->args f (zbz l++r)=some (l,r)):=by
 induction n using Nat.strongRecOn with
 |ind n ih =>
  have oF:∀t,Wf t->(if t.big then tL::(t.toks++[tR]) else t.toks).length<=n->∀r,∀f,4*((if t.big then tL::(t.toks++[tR]) else t.toks).length+r.length)+1<=f ->
    atom f ((if t.big then tL::(t.toks++[tR]) else t.toks)++r)=some (t,r):=by
   intro t hw hl r f hf;obtain⟨f,rfl⟩:∃g,f=g+1:=⟨f-1,by omega⟩;by_cases hb:t.big=true
   ·rw[ud hb]at hl hf ⊢
    have hlen:t.toks.length<n:=by simp at hl;omega
    have hr:=(ih _ hlen).1 t hw (tV _) (tR::r) ⟨λx hx=>by simp at hx;subst hx;decide,by rw[eat,ue (by decide)]⟩ f (by simp at hf ⊢;omega);rw[show(tL::(t.toks++[tR]))++r=tL::(t.toks++tR::r) by simp]
    rw[atom,ue (by decide),ue (by decide),ue (by decide),ud (by decide),hr]
    simp only[eat];rw[ud (by decide)]
    rfl
   ·rw[ue hb]at hl hf ⊢
    cases hw with
    |var x=>rw[Ty.toks];show atom (f+1) (K 1 x::r)=_;rw[atom,ud (show(K 1 x).kind=1 from rfl)];rfl
    |mt m hm =>
     rw[Ty.toks]
     show atom (f+1) (K 5 (63::dec m)::r)=_;rw[atom,ue (by show ¬(5=1);omega),ue (by show ¬(5=2);omega),ud (show(K 5 (63::dec m)).kind=5 from rfl)]
     show some (Ty.mt (numOf (dec m)),r)=_;rw[zlQ m hm]
    |con c l h =>
     cases l with
     |nil=>rw[Ty.toks,zbz];show atom (f+1) (K 2 c::r)=_;rw[atom,ue (by show ¬(2=1);omega),ud (show(K 2 c).kind=2 from rfl)];rfl
     |cons a l=>exact absurd rfl hb
    |fn a b _ _=>exact absurd rfl hb
    |all x t _=>exact absurd rfl hb
  have hargs:∀l,(∀t∈l,Wf t)->(zbz l).length<=n->∀r,stops r->∀f,4*((zbz l).length+r.length)+2<=f->args f (zbz l++r)=some (l,r):=by
   intro l;induction l with
   |nil =>
    intro _ _ r hr f hf;obtain⟨f,rfl⟩:∃g,f=g+1:=⟨f-1,by omega⟩;rw[zbz,vC]
    cases r with
    |nil=>rw[args]
    |cons t r=>rw[args,ue (by rw[hr t rfl];decide)]
   |cons t l ihl =>
    intro hw hl r hr f hf;obtain⟨f,rfl⟩:∃g,f=g+1:=⟨f-1,by omega⟩;rw[zbz]at hl hf ⊢
    rw[uf]at hl hf
    have ha:=oF t (hw t ve) (by omega) (zbz l++r) f (by rw[uf];omega);obtain⟨x,xs,hx,hxa⟩:∃x xs,(if t.big then tL::(t.toks++[tR]) else t.toks)=x::xs/\atomic x=true:=by
     by_cases hb:t.big=true
     ·rw[ud hb];exact⟨_,_,rfl,by decide⟩
     ·rw[ue hb]
      cases t with
      |var x=>exact⟨_,_,by rw[Ty.toks],rfl⟩
      |mt m=>exact⟨_,_,by rw[Ty.toks],rfl⟩
      |con c l=>exact⟨_,_,by rw[Ty.toks],rfl⟩
      |fn a b=>exact absurd rfl hb
      |all y u=>exact absurd rfl hb
    rw[uy]
    have gY:(if t.big then tL::(t.toks++[tR]) else t.toks)++(zbz l++r)=x::(xs++(zbz l++r)):=by rw[hx];rfl
    have pq:1<=(if t.big then tL::(t.toks++[tR]) else t.toks).length:=by rw[hx];simp
    rw[gY,args,ud hxa,<-gY,ha]
    simp only;rw[ihl (λu hu=>hw u (vp _ hu)) (by omega) r hr f (by omega)]
    rfl
  refine⟨?_,hargs⟩;have su:∀t,Wf t->t.isFA=false->t.toks.length<=n->∀r,stops r->∀f,4*(t.toks.length+r.length)+3<=f->app f (t.toks++r)=some (t,r):=by
   intro t hw k8 hl r hr f hf;obtain⟨f,rfl⟩:∃g,f=g+1:=⟨f-1,by omega⟩;cases t with
   |var x =>
    rw[Ty.toks]at hf ⊢
    show app (f+1) (K 1 x::r)=_;rw[app,ue (by show ¬(1=2);omega)]
    obtain⟨f,rfl⟩:∃g,f=g+1:=⟨f-1,by omega⟩;rw[atom,ud (show(K 1 x).kind=1 from rfl)];rfl
   |mt m =>
    have aH:=oF (.mt m) hw (by rw[ue (by simp[Ty.big])];exact hl) r f (by rw[ue (by simp[Ty.big])];omega);rw[ue (by simp[Ty.big])]at aH
    rw[Ty.toks]at aH ⊢
    show app (f+1) (K 5 (63::dec m)::r)=_;rw[app,ue (by show ¬(5=2);omega)]
    exact aH
   |con c l =>
    rw[Ty.toks]at hl hf ⊢
    rw[ui]at hl hf
    show app (f+1) (K 2 c::(zbz l++r))=_;cases hw with
    |con _ _ h =>
     rw[app,ud (show(K 2 c).kind=2 from rfl),hargs l h (by omega) r hr f (by omega)]
     rfl
   |fn a b=>simp[Ty.isFA]at k8
   |all x u=>simp[Ty.isFA]at k8
  intro t hw hl r hr f hf;obtain⟨f,rfl⟩:∃g,f=g+1:=⟨f-1,by omega⟩;by_cases k8:t.isFA=true
  ·cases t with
   |var x=>simp[Ty.isFA]at k8
   |mt m=>simp[Ty.isFA]at k8
   |con c l=>simp[Ty.isFA]at k8
   |fn a b =>
    cases hw with
    |fn _ _ ha hb =>
     rw[Ty.toks]at hl hf ⊢
     rw[uf,ui]at hl hf
     have aN:read f (b.toks++r)=some (b,r):=(ih b.toks.length (by omega)).1 b hb (tV _) r hr f (by omega);have lN:eat (isSign · [45,62]) (tArrow::(b.toks++r))=some (b.toks++r):=by rw[eat,ud (by decide)]
     have be:stops (tArrow::(b.toks++r)):=λx hx=>by simp at hx;subst hx;decide
     by_cases jG:a.isFA=true
     ·rw[ud jG]at hl hf ⊢
      have fX:a.toks.length<n:=by simp at hl;omega
      obtain⟨f,rfl⟩:∃g,f=g+1:=⟨f-1,by omega⟩;obtain⟨f,rfl⟩:∃g,f=g+1:=⟨f-1,by omega⟩;have hra:=(ih _ fX).1 a ha (tV _) (tR::tArrow::(b.toks++r)) ⟨λx hx=>by simp at hx;subst hx;decide,by rw[eat,ue (by decide)]⟩ f (by simp at hf ⊢;omega);rw[show((tL::(a.toks++[tR]))++tArrow::b.toks)++r=tL::(a.toks++tR::tArrow::(b.toks++r)) by simp]
      have sr:app (f+1+1) (tL::(a.toks++tR::tArrow::(b.toks++r)))=some (a,tArrow::(b.toks++r)):=by
       rw[app,ue (by decide),atom,ue (by decide),ue (by decide),ue (by decide),ud (by decide),hra]
       simp only[eat];rw[ud (by decide)]
       rfl
      rw[read,zcu _ _ (by decide)]
      simp only[sr,lN,aN];rfl
     ·have jG:a.isFA=false:=by simpa using jG
      rw[jG]at hl hf ⊢
      simp only[vy,vZ]at hl hf ⊢;have ss:=su a ha jG (by omega) (tArrow::(b.toks++r)) be f (by simp;omega);rw[show(a.toks++tArrow::b.toks)++r=a.toks++tArrow::(b.toks++r) by simp]
      have lG:eat (isKey · wForall) (a.toks++tArrow::(b.toks++r))=none:=by
       cases a with
       |var x=>rw[Ty.toks];exact zcu _ _ (by show ¬(1=3);omega)
       |mt m=>rw[Ty.toks];exact zcu _ _ (by show ¬(5=3);omega)
       |con c l=>rw[Ty.toks];exact zcu _ _ (by show ¬(2=3);omega)
       |fn a b=>simp[Ty.isFA]at jG
       |all x u=>simp[Ty.isFA]at jG
      rw[read,lG]
      simp only[ss,lN,aN];rfl
   |all x u =>
    cases hw with
    |all _ _ hu =>
     rw[Ty.toks,zj7]at hl hf ⊢
     have aC:u.peel.2.toks.length<n:=by simp at hl;omega
     have j3:=(ih _ aC).1 u.peel.2 (zo4 u hu) (tV _) r hr f (by simp at hf;omega);rw[show(tAll::K 1 x::(u.peel.1.map (K 1 ·)++tDot::u.peel.2.toks))++r=tAll::((x::u.peel.1).map (K 1 ·)++tDot::(u.peel.2.toks++r)) by simp]
     have lG:eat (isKey · wForall) (tAll::((x::u.peel.1).map (K 1 ·)++tDot::(u.peel.2.toks++r)))=some ((x::u.peel.1).map (K 1 ·)++tDot::(u.peel.2.toks++r)):=by
      rw[eat,ud (by decide)]
     have hdot:eat (isSign · [46]) (tDot::(u.peel.2.toks++r))=some (u.peel.2.toks++r):=by rw[eat,ud (by decide)]
     rw[read,lG]
     simp only[znH _ _ _ (show tDot.kind≠1 by decide),hdot,j3];rw[ue (by simp)]
     show some (Ty.all x (alls u.peel.1 u.peel.2),r)=_;rw[zlP]
  ·have k8:t.isFA=false:=by simpa using k8
   have lG:eat (isKey · wForall) (t.toks++r)=none:=by
    cases t with
    |var x=>rw[Ty.toks];exact zcu _ _ (by show ¬(1=3);omega)
    |mt m=>rw[Ty.toks];exact zcu _ _ (by show ¬(5=3);omega)
    |con c l=>rw[Ty.toks];exact zcu _ _ (by show ¬(2=3);omega)
    |fn a b=>simp[Ty.isFA]at k8
    |all x u=>simp[Ty.isFA]at k8
   rw[read,lG]
   simp only[su t hw k8 hl r hr.1 f (by omega),hr.2]
end Tx
namespace Lx
def stp(m:Bool)(c:UInt8):Bool:=if c=10 then false else if c=35 then true else m
def rm:Bool->List UInt8->Bool
 |m,[]=>m
 |m,c::r=>rm (stp m c) r
def okg:Bool->List UInt8->Prop
 |_,[]=>True
 |m,c::r=>(stp m c=true\/c=32\/c=9\/c=10)/\okg (stp m c) r
theorem zo6(m:Bool)(l:List UInt8):okg m (l.take (btw m l))/\(btw m l<l.length->rm m (l.take (btw m l))=false):=by
 induction l generalizing m with
 |nil=>simp[btw,okg]
 |cons c r ih =>
  cases m with
  |true =>
   have e:btw true (c::r)=btw (c != 10) r+1:=rfl;have hs:stp true c=(c != 10):=by
    unfold stp;by_cases h:c=10
    ·simp[h]
    ·have h2:(c != 10)=true:=by simpa using h
     rw[ue h,h2];split <;> rfl
   rw[e,vO]
   obtain⟨h1,h2⟩:=ih (c != 10);refine⟨⟨?_,by rw[hs];exact h1⟩,λhl=>?_⟩
   ·by_cases h:c=10
    ·exact .inr (.inr (.inr h))
    ·left;rw[hs];simpa using h
   ·show rm (stp true c) _=false
    rw[hs]
    exact h2 (by simpa using hl)
  |false =>
   by_cases hb:c=32\/c=9\/c=10
   ·have e:btw false (c::r)=btw false r+1:=by rw[btw,ud hb]
    have hs:stp false c=false:=by
     unfold stp;rcases hb with h|h|h <;> rw[h] <;> decide
    rw[e,vO]
    obtain⟨h1,h2⟩:=ih false;refine⟨⟨.inr hb,by rw[hs];exact h1⟩,λhl=>?_⟩;show rm (stp false c) _=false;rw[hs]
    exact h2 (by simpa using hl)
   ·by_cases ei:c=35
    ·have e:btw false (c::r)=btw true r+1:=by rw[btw,ue hb,ud ei]
     have hs:stp false c=true:=by rw[ei];decide
     rw[e,vO]
     obtain⟨h1,h2⟩:=ih true;refine⟨⟨.inl hs,by rw[hs];exact h1⟩,λhl=>?_⟩;show rm (stp false c) _=false;rw[hs]
     exact h2 (by simpa using hl)
    ·have e:btw false (c::r)=0:=by rw[btw,ue hb,ue ei]
     rw[e]
     exact⟨trivial,λ_=>rfl⟩
def Cov(l:List UInt8):Nat->List Tok->Prop
 |f,[]=>f<=l.length/\okg false (l.drop f)
 |f,t::r=>f<=t.at_/\t.text≠[]/\t.at_+t.text.length<=l.length/\(l.drop t.at_).take t.text.length=t.text /\
   okg false ((l.drop f).take (t.at_-f))/\rm false ((l.drop f).take (t.at_-f))=false/\Cov l (t.at_+t.text.length) r
theorem zo7(L:List UInt8)(n:Nat):∀(i:Nat)(ts:List Tok),L.length-i<=n->i<=L.length->sc i (L.drop i)=.ok ts->Cov L i ts:=by
 induction n with
 |zero =>
  intro i ts hn hi h;have hl:L.drop i=[]:=uD (by omega);rw[hl,sc]at h
  injection h with h;subst h;exact⟨hi,by rw[hl];trivial⟩
 |succ n ih =>
  intro i ts hn hi h;obtain⟨ny,ie⟩:=zo6 false (L.drop i);have aC:=zkg false (L.drop i);rw[zb7,vX]at h
  split at h
  ·rename_i h0
   injection h with h;subst h;refine⟨hi,?_⟩;have h1:=List.drop_eq_nil_iff.1 h0;rw[ur (by rw[uR];omega)]at ny
   exact ny
  ·rename_i h0
   split at h
   ·cases h
   ·rename_i h1
    have hp:=zbP _ h1;rw[uR]at hp aC ie
    have ah:i+btw false (L.drop i)<L.length:=by
     rcases Nat.lt_or_ge (i+btw false (L.drop i)) L.length with h|h
     ·exact h
     ·exact absurd (uD h) h0
    rw[vX]at h
    cases hx:sc (i+btw false (L.drop i)+(first (L.drop (i+btw false (L.drop i)))).2) (L.drop (i+btw false (L.drop i)+(first (L.drop (i+btw false (L.drop i)))).2)) with
    |error e=>rw[hx]at h;cases h
    |ok us =>
     rw[hx]at h
     have h:Except.ok (_::us)=Except.ok ts:=h;injection h with h;subst h;have hlen:((L.drop (i+btw false (L.drop i))).take (first (L.drop (i+btw false (L.drop i)))).2).length=(first (L.drop (i+btw false (L.drop i)))).2:=by
      rw[vN,uR];omega
     refine⟨by simp,?_,?_,?_,?_,?_,?_⟩
     ·intro e
      have e2:=uC List.length e;rw[hlen]at e2
      simp at e2;omega
     ·simp only[hlen];omega
     ·simp only[hlen]
     ·simp only[vt];exact ny
     ·simp only[vt];exact ie (by omega)
     ·simp only[hlen]
      exact ih _ us (by omega) (by omega) hx
theorem znQ(l:List UInt8)(ts:List Tok)(h:lex l=.ok ts):Cov l 0 ts :=
 zo7 l l.length 0 ts (by omega) (by omega) (by rw[vS,<-zgQ];exact h)
end Lx
namespace Lx
def ends(d:UInt8):Prop:=inW d=false/\isDig d=false/\d≠62
theorem zeb(p:UInt8->Bool)(l:List UInt8)(n:Nat)(h:span p l=n):span p (l.take n)=n:=by
 induction l generalizing n with
 |nil=>simp[span]at h ⊢;omega
 |cons c r ih =>
  rw[span]at h
  by_cases hp:p c=true
  ·rw[ud hp]at h
   obtain⟨m,rfl⟩:∃m,n=m+1:=⟨n-1,by omega⟩;rw[vO,span,ud hp,ih m (by omega)]
  ·rw[ue hp]at h
   subst h;rfl
theorem zeC(l:List UInt8)(n:Nat)(h:number l=(4,n)):number (l.take n)=(4,n):=by
 have hb:badNum l=false:=by
  cases hx:badNum l with
  |false=>rfl
  |true=>unfold number at h;rw[ud hx]at h;simp at h
 unfold number at h;rw[hb,ue (by simp)]at h
 have hs:span isDig l=n:=by injection h
 have hn:n≠0:=by intro e;subst e;simp[badNum,hs]at hb
 have hh:(l.take n).headD 0=l.headD 0:=by
  cases l with
  |nil=>simp
  |cons c r=>obtain⟨m,rfl⟩:∃m,n=m+1:=⟨n-1,by omega⟩;rfl
 have aA:badNum (l.take n)=badNum l:=by unfold badNum;rw[zeb _ _ _ hs,hs,hh]
 unfold number;rw[aA,hb,ue (by simp),zeb _ _ _ hs]
theorem zje(r:List UInt8)(k n:Nat)(h:first r=(k,n))(hk:k≠0):first (r.take n)=(k,n):=by
 have hp:=zbP r (by rw[h];exact hk);rw[h]at hp
 simp only at hp;cases r with
 |nil=>simp[first]at h;omega
 |cons c r =>
  obtain⟨m,rfl⟩:∃m,n=m+1:=⟨n-1,by omega⟩;rw[vO,first]
  rw[first]at h
  have e:c::r.take m=(c::r).take (m+1):=rfl;by_cases h1:isLet c=true
  ·rw[ud h1]at h ⊢
   unfold word at h ⊢;by_cases hs:16<span inW (c::r)
   ·rw[ud hs]at h;injection h with h _;omega
   ·rw[ue hs]at h
    injection h with ha hb;have ht:=zeb inW (c::r) (m+1) hb;rw[e,ht,ue (by omega),List.take_take,Nat.min_self,<-ha,hb]
  ·rw[ue h1]at h ⊢
   by_cases h2:isDig c=true
   ·rw[ud h2]at h ⊢
    have hk4:number (c::r)=(4,m+1):=by
     rcases zaD (c::r) with e|⟨e,_,_⟩
     ·rw[e]at h;injection h with h _;omega
     ·rw[e]at h ⊢;injection h with _ hb;rw[hb]
    rw[hk4]at h
    rw[e,zeC _ _ hk4]
    exact h
   ·rw[ue h2]at h ⊢
    by_cases h3:c=63
    ·rw[ud h3]at h ⊢
     unfold zbf at h ⊢;rw[show(c::r).drop 1=r from rfl]at h
     rw[show(c::r.take m).drop 1=r.take m from rfl]
     by_cases h0:(number r).2=0
     ·rw[ud h0]at h;injection h with h _;omega
     ·rw[ue h0]at h
      injection h with ha hb;have hm:(number r).2=m:=by omega
      have hk4:number r=(4,m):=by
       rcases zaD r with e|⟨e,_,_⟩
       ·rw[e]at h0;exact absurd rfl h0
       ·rw[e]at hm ⊢;rw[<-hm]
      rw[zeC _ _ hk4,ue (by rw[<-hm];exact h0),<-ha]
      simp;omega
    ·rw[ue h3]at h ⊢
     unfold sign at h ⊢;by_cases gp:(pre [45,62] (c::r)||pre [124,62] (c::r))=true
     ·rw[ud gp]at h
      injection h with ha hb;obtain rfl:m=1:=by omega
      have hq:(pre [45,62] (c::r.take 1)||pre [124,62] (c::r.take 1))=true:=by
       cases r with
       |nil=>simp[pre,List.isPrefixOf]at gp
       |cons x r=>simpa[pre,List.isPrefixOf] using gp
      rw[ud hq,<-ha]
     ·rw[ue gp]at h
      by_cases hs:(c::r).headD 0∈signs
      ·rw[ud hs]at h
       injection h with ha hb;obtain rfl:m=0:=by omega
       rw[vW,ue (by simp[pre,List.isPrefixOf]),ud (by simpa using hs),<-ha]
      ·rw[ue hs]at h;injection h with h _;omega
def Good(t:Tok):Prop:=t.text≠[]/\first t.text=(t.kind,t.text.length)/\t.kind≠0
theorem znU(n:Nat):∀(i:Nat)(l:List UInt8)(ts:List Tok),l.length<=n->sc i l=.ok ts->∀t∈ts,Good t:=by
 induction n with
 |zero =>
  intro i l ts hn h t ht;have:l=[]:=List.eq_nil_of_length_eq_zero (by omega);subst this;injection h with h;subst h;cases ht
 |succ n ih =>
  intro i l ts hn h t ht;rw[zb7]at h
  split at h
  ·injection h with h;subst h;cases ht
  ·rename_i h0
   split at h
   ·cases h
   ·rename_i h1
    have hp:=zbP _ h1;cases hx:sc (i+btw false l+(first (l.drop (btw false l))).2) ((l.drop (btw false l)).drop (first (l.drop (btw false l))).2) with
    |error e=>rw[hx]at h;cases h
    |ok us =>
     rw[hx]at h
     have h:Except.ok (_::us)=Except.ok ts:=h;injection h with h;subst h;rcases uT.1 ht with rfl|ht
     ·have hlen:((l.drop (btw false l)).take (first (l.drop (btw false l))).2).length=(first (l.drop (btw false l))).2:=by
       rw[vN];omega
      refine⟨?_,?_,h1⟩
      ·intro e
       have e2:=uC List.length e;rw[hlen]at e2
       simp at e2;omega
      ·simp only[hlen]
       exact zje _ _ _ rfl h1
     ·exact ih _ _ us (by simp only[uR]at hp ⊢;omega) hx t ht
theorem zl3(l:List UInt8)(ts:List Tok)(h:lex l=.ok ts):∀t∈ts,Good t:=znU l.length 0 l ts (tV _) (by rw[<-zgQ];exact h)
def sep(b:Bool):List UInt8:=if b then[35,32,120,32,41,32,63,10] else[32]
end Lx
namespace Tx
open Lx
def Gd(k:Nat)(s:List UInt8):Prop:=s≠[]/\first s=(k,s.length)/\k≠0
inductive Nm:Ty->Prop
 |var (x):Gd 1 x->Nm (.var x)
 |mt (n):n<=999999->Nm (.mt n)
 |con (c l):Gd 2 c->(∀t∈l,Nm t)->Nm (.con c l)
 |fn (a b):Nm a->Nm b->Nm (.fn a b)
 |all (x t):Gd 1 x->Nm t->Nm (.all x t)
theorem znJ(f g n:Nat)(hg:n<10 ^ g)(h1:1<=g):(decF f n).length<=g:=by
 induction f generalizing n g with
 |zero=>simp[decF]
 |succ f ih =>
  rw[decF]
  split
  ·simpa using h1
  ·rename_i hn
   obtain⟨g,rfl⟩:∃k,g=k+1:=⟨g-1,by omega⟩;have sb:1<=g:=by
    rcases Nat.eq_zero_or_pos g with e|e
    ·subst e;simp at hg;omega
    ·exact e
   have:=ih g (n / 10) (by rw[Nat.pow_succ]at hg;omega) sb;simp;omega
end Tx
namespace Tx
open Lx
mutual
def Ty.size:Ty->Nat
 |.var _=>1
 |.mt _=>1
 |.con _ l=>zbI l+1
 |.fn a b=>a.size+b.size+1
 |.all _ t=>t.size+1
def zbI:List Ty->Nat
 |[]=>0
 |t::r=>t.size+zbI r
end
def AllG(l:List Tok):Prop:=∀t∈l,Lx.Good t
theorem AllG.tail {t:Tok} {l:List Tok}(h:AllG (t::l)):AllG l:=λx hx=>h x (vp _ hx)
theorem AllG.head {t:Tok} {l:List Tok}(h:AllG (t::l)):Lx.Good t:=h t ve
theorem zc9(p:Tok->Bool)(l r:List Tok)(h:eat p l=some r):∃t,l=t::r/\p t=true:=by
 cases l with
 |nil=>simp[eat]at h
 |cons t l =>
  rw[eat]at h
  split at h
  ·rename_i hp
   injection h with h;exact⟨t,by rw[h],hp⟩
  ·cases h
theorem zbD(l:List Tok)(h:AllG l):(∀x∈(vars l).1,Gd 1 x)/\AllG (vars l).2/\(vars l).1.length+(vars l).2.length=l.length:=by
 induction l with
 |nil=>exact⟨λx hx=>by simp[vars]at hx,λx hx=>by simp[vars]at hx,rfl⟩
 |cons t r ih =>
  obtain⟨i1,i2,i3⟩:=ih h.tail;rw[vars]
  by_cases hk:t.kind=1
  ·rw[ud hk]
   refine⟨λx hx=>?_,i2,by simp;omega⟩;rcases uT.1 hx with rfl|hx
   ·have:=h.head
    rw[Lx.Good,hk]at this
    exact⟨this.1,this.2.1,by omega⟩
   ·exact i1 x hx
  ·rw[ue hk]
   exact⟨λx hx=>by simp at hx,h,by simp⟩
theorem zhZ(l:List UInt8)(h:∀d∈l,isDig d=true):numOf l<10 ^ l.length:=by
 have key:∀(l:List UInt8) (a:Nat),(∀d∈l,isDig d=true)->l.foldl (λn c=>10*n+(c.toNat-48)) a<(a+1)*10 ^ l.length:=by
  intro l;induction l with
  |nil=>intro a _;simp
  |cons c r ih =>
   intro a h;have hc:=zkk c (h c ve);have:=ih (10*a+(c.toNat-48)) (λd hd=>h d (vp _ hd));rw[vF,ui,Nat.pow_succ]
   refine uO this ?_;rw[Nat.mul_comm (10 ^ r.length) 10,<-Nat.mul_assoc]
   exact Nat.mul_le_mul_right _ (by omega)
 have:=key l 0 h;simpa[numOf] using this
theorem zgB(p:UInt8->Bool)(l:List UInt8)(h:span p l=l.length):∀d∈l,p d=true:=by
 induction l with
 |nil=>intro d hd;cases hd
 |cons c r ih =>
  rw[span]at h
  by_cases hp:p c=true
  ·rw[ud hp]at h
   intro d hd;rcases uT.1 hd with rfl|hd
   ·exact hp
   ·exact ih (by simpa using h) d hd
  ·rw[ue hp]at h;simp at h
theorem znI(t:Tok)(h:Lx.Good t)(hk:t.kind=5):numOf (t.text.drop 1)<=999999:=by
 obtain⟨h1,h2,_⟩:=h;rw[hk]at h2
 cases hx:t.text with
 |nil=>exact absurd hx h1
 |cons c r =>
  rw[hx]at h2
  show numOf r<=999999;rw[first]at h2
  split at h2
  ·exfalso
   unfold word at h2;split at h2
   ·injection h2 with a _;omega
   ·injection h2 with a _
    unfold wordKind at a;split at a
    ·omega
    ·split at a <;> omega
  ·split at h2
   ·exfalso
    rcases zaD (c::r) with e|⟨e,_,_⟩ <;> rw[e]at h2 <;> injection h2 with a _ <;> omega
   ·split at h2
    ·unfold zbf at h2
     split at h2
     ·injection h2 with a _;omega
     ·rename_i hn
      injection h2 with _ b;rw[show(c::r).drop 1=r from rfl]at b hn
      rcases zaD r with e|⟨e,_,h6⟩
      ·rw[e]at hn;exact absurd rfl hn
      ·rw[e]at b
       simp at b;have hs:span isDig r=r.length:=by omega
       have:=zhZ r (zgB isDig r hs);have:(10:Nat) ^ r.length<=10 ^ 6:=Nat.pow_le_pow_right (by omega) (by omega);omega
    ·exfalso
     unfold sign at h2;split at h2
     ·injection h2 with a _;omega
     ·split at h2
      ·injection h2 with a _;omega
      ·injection h2 with a _;omega
theorem zo5(xs:List (List UInt8))(t:Ty)(hx:∀x∈xs,Gd 1 x)(ht:Nm t):Nm (alls xs t):=by
 induction xs with
 |nil=>exact ht
 |cons x xs ih=>exact .all x _ (hx x ve) (ih λy hy=>hx y (vp _ hy))
theorem zlT(xs:List (List UInt8))(t:Ty):(alls xs t).size=xs.length+t.size:=by
 induction xs with
 |nil=>simp[alls]
 |cons x xs ih =>
  show(Ty.all x (alls xs t)).size=_;rw[Ty.size,ih,ui];omega
theorem zfX(f:Nat):(∀l t r,AllG l->read f l=some (t,r)->Nm t/\AllG r/\t.size+r.length<=l.length) /\
  (∀l t r,AllG l->app f l=some (t,r)->Nm t/\AllG r/\t.size+r.length<=l.length) /\
  (∀l ts r,AllG l->args f l=some (ts,r)->(∀t∈ts,Nm t)/\AllG r/\zbI ts+r.length<=l.length) /\
  (∀l t r,AllG l->atom f l=some (t,r)->Nm t/\AllG r/\t.size+r.length<=l.length):=by
 induction f with
 |zero=>exact⟨(λ_ _ _ _ h=>by simp[read]at h),(λ_ _ _ _ h=>by simp[app]at h),(λ_ _ _ _ h=>by simp[args]at h),(λ_ _ _ _ h=>by simp[atom]at h)⟩
 |succ f ih =>
  obtain⟨i1,i2,i3,i4⟩:=ih;refine⟨λl t r hg h=>?_,λl t r hg h=>?_,λl ts r hg h=>?_,λl t r hg h=>?_⟩
  ·rw[read]at h
   cases he:eat (isKey · wForall) l with
   |some r1 =>
    rw[he]at h
    simp only at h;obtain⟨t0,rfl,_⟩:=zc9 _ _ _ he;obtain⟨v1,v2,v3⟩:=zbD r1 hg.tail;split at h
    ·cases h
    ·cases ij:eat (isSign · [46]) (vars r1).2 with
     |none=>rw[ij]at h;cases h
     |some r2 =>
      rw[ij]at h
      simp only at h;obtain⟨t1,e1,_⟩:=zc9 _ _ _ ij;rw[e1]at v2 v3
      cases hr:read f r2 with
      |none=>rw[hr]at h;cases h
      |some x =>
       obtain⟨u,r3⟩:=x;rw[hr]at h
       simp only[uq,um,uw]at h;obtain⟨rfl,rfl⟩:=h;obtain⟨a,b,c⟩:=i1 r2 u r3 v2.tail hr;refine⟨zo5 _ _ v1 a,b,?_⟩;rw[zlT]
       simp only[ui]at v3 ⊢;omega
   |none =>
    rw[he]at h
    simp only at h;cases ha:app f l with
    |none=>rw[ha]at h;cases h
    |some x =>
     obtain⟨u,r1⟩:=x;rw[ha]at h
     simp only at h;obtain⟨a,b,c⟩:=i2 l u r1 hg ha;cases ij:eat (isSign · [45,62]) r1 with
     |none =>
      rw[ij]at h
      simp only[um,uw]at h;obtain⟨rfl,rfl⟩:=h;exact⟨a,b,c⟩
     |some r2 =>
      rw[ij]at h
      simp only at h;obtain⟨t1,rfl,_⟩:=zc9 _ _ _ ij;cases hr:read f r2 with
      |none=>rw[hr]at h;cases h
      |some x =>
       obtain⟨v,r3⟩:=x;rw[hr]at h
       simp only[uq,um,uw]at h;obtain⟨rfl,rfl⟩:=h;obtain⟨a2,b2,c2⟩:=i1 r2 v r3 b.tail hr;refine⟨.fn _ _ a a2,b2,?_⟩;rw[Ty.size]
       simp only[ui]at c;omega
  ·cases l with
   |nil=>rw[app]at h;cases h
   |cons t0 l =>
    rw[app]at h
    split at h
    ·rename_i hk
     cases ha:args f l with
     |none=>rw[ha]at h;cases h
     |some x =>
      obtain⟨us,r1⟩:=x;rw[ha]at h
      simp only[uq,um,uw]at h;obtain⟨rfl,rfl⟩:=h;obtain⟨a,b,c⟩:=i3 l us r1 hg.tail ha;have fu:=hg.head;rw[Lx.Good,hk]at fu
      refine⟨.con _ _ ⟨fu.1,fu.2.1,by omega⟩ a,b,?_⟩;rw[Ty.size]
      simp only[ui];omega
    ·exact i4 _ _ _ hg h
  ·cases l with
   |nil =>
    rw[args]at h
    simp only[um,uw]at h;obtain⟨rfl,rfl⟩:=h;exact⟨(λt ht=>by cases ht),hg,by simp[zbI]⟩
   |cons t0 l =>
    rw[args]at h
    split at h
    ·cases ha:atom f (t0::l) with
     |none=>rw[ha]at h;cases h
     |some x =>
      obtain⟨u,r1⟩:=x;rw[ha]at h
      simp only at h;obtain⟨a,b,c⟩:=i4 _ u r1 hg ha;cases hb:args f r1 with
      |none=>rw[hb]at h;cases h
      |some y =>
       obtain⟨us,r2⟩:=y;rw[hb]at h
       simp only[uq,um,uw]at h;obtain⟨rfl,rfl⟩:=h;obtain⟨a2,b2,c2⟩:=i3 _ us r2 b hb;refine⟨λt ht=>?_,b2,?_⟩
       ·rcases uT.1 ht with rfl|ht
        ·exact a
        ·exact a2 t ht
       ·rw[zbI];omega
    ·simp only[um,uw]at h
     obtain⟨rfl,rfl⟩:=h;exact⟨(λt ht=>by cases ht),hg,by simp[zbI]⟩
  ·cases l with
   |nil=>rw[atom]at h;cases h
   |cons t0 l =>
    rw[atom]at h
    have fu:=hg.head;split at h
    ·rename_i hk
     simp only[um,uw]at h;obtain⟨rfl,rfl⟩:=h;rw[Lx.Good,hk]at fu
     exact⟨.var _ ⟨fu.1,fu.2.1,by omega⟩,hg.tail,by rw[Ty.size];simp;omega⟩
    ·split at h
     ·rename_i hk
      simp only[um,uw]at h;obtain⟨rfl,rfl⟩:=h;rw[Lx.Good,hk]at fu
      exact⟨.con _ _ ⟨fu.1,fu.2.1,by omega⟩ (λt ht=>by cases ht),hg.tail,by rw[Ty.size,zbI];simp;omega⟩
     ·split at h
      ·rename_i hk
       simp only[um,uw]at h;obtain⟨rfl,rfl⟩:=h;exact⟨.mt _ (znI t0 fu hk),hg.tail,by rw[Ty.size];simp;omega⟩
      ·split at h
       ·cases hr:read f l with
        |none=>rw[hr]at h;cases h
        |some x =>
         obtain⟨u,r1⟩:=x;rw[hr]at h
         simp only at h;obtain⟨a,b,c⟩:=i1 l u r1 hg.tail hr;cases he:eat (isSign · [41]) r1 with
         |none=>rw[he]at h;cases h
         |some r2 =>
          rw[he]at h
          simp only[uq,um,uw]at h;obtain⟨rfl,rfl⟩:=h;obtain⟨t1,rfl,_⟩:=zc9 _ _ _ he;refine⟨a,b.tail,?_⟩;simp only[ui]at c ⊢;omega
       ·cases h
end Tx
namespace Tx
open Lx
abbrev Name:=List UInt8
inductive Dt where
 |fv (x:Name)
 |bv (i:Nat)
 |mt (n:Nat)
 |con (c:Name) (l:List Dt)
 |fn (a b:Dt)
 |all (t:Dt)
def nm(letter:UInt8)(k:Nat):Name:=letter::dec k
mutual
def zfH:Dt->List Name->List Name
 |.fv x,out=>addN x out
 |.bv _,out=>out
 |.mt _,out=>out
 |.con _ l,out=>zlS l out
 |.fn a b,out=>zfH b (zfH a out)
 |.all t,out=>zfH t out
def zlS:List Dt->List Name->List Name
 |[],out=>out
 |t::r,out=>zlS r (zfH t out)
end
end Tx
namespace Tx
open Lx
mutual
def zfG:Dt->Nat
 |.fv _=>0
 |.bv _=>0
 |.mt _=>0
 |.con _ l=>zlR l
 |.fn a b=>zfG a+zfG b
 |.all t=>zfG t+1
def zlR:List Dt->Nat
 |[]=>0
 |t::r=>zfG t+zlR r
end
def Small(d:Dt):Prop:=(zfG d+1)*((zfH d []).length+1)<10 ^ 15
end Tx
namespace Tx
open Lx
end Tx
end Go.Proofs.YtknkclefoiohpaaGreatDoor
namespace Go.Proofs.YtknkclefoiohpaaGreatDoor
open Go.RowKit Lx Tx
def kd:Ty->Nat
 |.var _=>1
 |.mt _=>2
 |.con _ _=>3
 |.fn _ _=>4
 |.all _ _=>5
def nmB:Ty->ByteArray
 |.var x=>⟨x.toArray⟩
 |.mt _=>⟨#[]⟩
 |.con c _=>⟨c.toArray⟩
 |.fn _ _=>⟨#[]⟩
 |.all x _=>⟨x.toArray⟩
def nn:Ty->Nat
 |.mt n=>n
 |_=>0
def kids:Ty->List Ty
 |.var _=>[]
 |.mt _=>[]
 |.con _ l=>l
 |.fn a b=>[a,b]
 |.all _ t=>[t]
def Cell4(w:World)(t:Ty)(A:Option Addr)(cap:Nat)(g o:Nat):Prop :=
 w.cell? ⟨g,o,none⟩=some (.int .i64 (kd t:Nat))/\w.cell? ⟨g,o+1,none⟩=some (.string (nmB t))/\w.cell? ⟨g,o+2,none⟩=some (.int .i64 (nn t:Nat)) /\
  w.cell? ⟨g,o+3,none⟩=some (.slice A (kids t).length cap)
mutual
def Args(S:Nat->Prop)(w:World):Ty->Option Addr->Prop
 |.var _,_=>True
 |.mt _,_=>True
 |.con _ l,A=>l≠[]->∃g,A=some ⟨g,0,none⟩/\S g/\RowT S w l g 0
 |.fn a b,A=>∃g,A=some ⟨g,0,none⟩/\S g/\(∃A1 c1,Cell4 w a A1 c1 g 0/\Args S w a A1)/\(∃A2 c2,Cell4 w b A2 c2 g 4/\Args S w b A2)
 |.all _ t,A=>∃g,A=some ⟨g,0,none⟩/\S g/\∃A1 c1,Cell4 w t A1 c1 g 0/\Args S w t A1
def RowT(S:Nat->Prop)(w:World):List Ty->Nat->Nat->Prop
 |[],_,_=>True
 |t::r,g,o=>(∃A c,Cell4 w t A c g o/\Args S w t A)/\RowT S w r g (o+4)
end
def RdV(S:Nat->Prop)(w:World)(t:Ty)(v:Value):Prop :=
 ∃A c,v=.agg #[.int .i64 (kd t:Nat),.string (nmB t),.int .i64 (nn t:Nat),.slice A (kids t).length c]/\Args S w t A
theorem zfc(S:Nat->Prop)(w:World)(t:Ty)(A:Option Addr):Args S w t A↔(kids t≠[]->∃g,A=some ⟨g,0,none⟩/\S g/\RowT S w (kids t) g 0):=by
 cases t with
 |var x=>rw[Args,kids];simp
 |mt n=>rw[Args,kids];simp
 |con c l=>rw[Args,kids]
 |fn a b =>
  rw[Args,kids]
  constructor
  ·rintro⟨g,h1,h2,h3,h4⟩ _
   exact⟨g,h1,h2,by rw[RowT,RowT,RowT];exact⟨h3,h4,trivial⟩⟩
  ·intro h
   obtain⟨g,h1,h2,h3⟩:=h (by simp);rw[RowT,RowT,RowT]at h3
   exact⟨g,h1,h2,h3.1,h3.2.1⟩
 |all x t =>
  rw[Args,kids]
  constructor
  ·rintro⟨g,h1,h2,h3⟩ _
   exact⟨g,h1,h2,by rw[RowT,RowT];exact⟨h3,trivial⟩⟩
  ·intro h
   obtain⟨g,h1,h2,h3⟩:=h (by simp);rw[RowT,RowT]at h3
   exact⟨g,h1,h2,h3.1⟩
theorem Cell4.keep {w w':World} {t:Ty} {A:Option Addr} {c g o:Nat}(h:Cell4 w t A c g o)(hk:w'.heap[g]?=w.heap[g]?):Cell4 w' t A c g o:=by
 have e:∀i,w'.cell? ⟨g,i,none⟩=w.cell? ⟨g,i,none⟩:=λi=>uV (w:=w) (a:=⟨g,i,none⟩) hk;exact⟨(e _).trans h.1,(e _).trans h.2.1,(e _).trans h.2.2.1,(e _).trans h.2.2.2⟩
mutual
theorem Args.keep {S S':Nat->Prop} {w w':World}(hS:∀g,S g->S' g)(hk:∀g,S g->w'.heap[g]?=w.heap[g]?):(t:Ty)->∀A,Args S w t A->Args S' w' t A
 |.var x,A,_=>by rw[Args];trivial
 |.mt n,A,_=>by rw[Args];trivial
 |.con c l,A,h=>by
  rw[Args]at h ⊢
  intro hl;obtain⟨g,h1,h2,h3⟩:=h hl;exact⟨g,h1,hS g h2,RowT.keep hS hk l g 0 (hk g h2) h3⟩
 |.fn a b,A,h=>by
  rw[Args]at h ⊢
  obtain⟨g,h1,h2,⟨A1,c1,h3,h4⟩,⟨A2,c2,h5,h6⟩⟩:=h;exact⟨g,h1,hS g h2,⟨A1,c1,h3.keep (hk g h2),Args.keep hS hk a A1 h4⟩,⟨A2,c2,h5.keep (hk g h2),Args.keep hS hk b A2 h6⟩⟩
 |.all x t,A,h=>by
  rw[Args]at h ⊢
  obtain⟨g,h1,h2,A1,c1,h3,h4⟩:=h;exact⟨g,h1,hS g h2,A1,c1,h3.keep (hk g h2),Args.keep hS hk t A1 h4⟩
theorem RowT.keep {S S':Nat->Prop} {w w':World}(hS:∀g,S g->S' g)(hk:∀g,S g->w'.heap[g]?=w.heap[g]?):(l:List Ty)->∀g o,w'.heap[g]?=w.heap[g]?->RowT S w l g o->RowT S' w' l g o
 |[],_,_,_,_=>by rw[RowT];trivial
 |t::r,g,o,hg,h=>by
  rw[RowT]at h ⊢
  obtain⟨⟨A,c,h1,h2⟩,h3⟩:=h;exact⟨⟨A,c,h1.keep hg,Args.keep hS hk t A h2⟩,RowT.keep hS hk r g (o+4) hg h3⟩
end
theorem RdV.keep {S S':Nat->Prop} {w w':World} {t:Ty} {v:Value}(h:RdV S w t v)(hS:∀g,S g->S' g)(hk:∀g,S g->w'.heap[g]?=w.heap[g]?):RdV S' w' t v:=by
 obtain⟨A,c,rfl,ha⟩:=h;exact⟨A,c,rfl,Args.keep hS hk t A ha⟩
theorem RowT.at_ {S:Nat->Prop} {w:World} :(l:List Ty)->∀g o i (hi:i<l.length),RowT S w l g o->∃A c,Cell4 w l[i] A c g (o+i*4)/\Args S w l[i] A
 |[],_,_,i,hi,_=>absurd hi (by simp)
 |t::r,g,o,0,_,h=>by rw[RowT]at h;simpa using h.1
 |t::r,g,o,i+1,hi,h=>by
  rw[RowT]at h
  have:=RowT.at_ r g (o+4) i (by simpa using hi) h.2;rw[show o+4+i*4=o+(i+1)*4 by omega]at this
  simpa using this
theorem Args.kid {S:Nat->Prop} {w:World} {t:Ty} {A:Option Addr}(h:Args S w t A)(i:Nat)(hi:i<(kids t).length):∃g,A=some ⟨g,0,none⟩/\S g/\∃A1 c1,Cell4 w (kids t)[i] A1 c1 g (i*4)/\Args S w (kids t)[i] A1:=by
 obtain⟨g,h1,h2,h3⟩:=(zfc S w t A).1 h (by intro e;rw[e]at hi;simp at hi);have:=RowT.at_ _ g 0 i hi h3;rw[uJ]at this
 exact⟨g,h1,h2,this⟩
def tyV(t:Ty)(A:Option Addr)(c:Nat):List Value:=[.int .i64 (kd t:Nat),.string (nmB t),.int .i64 (nn t:Nat),.slice A (kids t).length c]
def TyRow(S:Nat->Prop)(w:World):List Ty->List Value->Prop
 |[],vs=>vs=[]
 |t::r,vs=>∃A c rest,vs=tyV t A c++rest/\Args S w t A/\TyRow S w r rest
theorem TyRow.len {S:Nat->Prop} {w:World} :(l:List Ty)->∀vs,TyRow S w l vs->vs.length=l.length*4
 |[],vs,h=>by rw[TyRow]at h;simp[h]
 |t::r,vs,h=>by
  rw[TyRow]at h
  obtain⟨A,c,rest,rfl,_,h⟩:=h;have:=TyRow.len r rest h;simp[tyV,this];omega
theorem TyRow.snoc {S:Nat->Prop} {w:World} {t:Ty} {A:Option Addr}(c:Nat)(ha:Args S w t A):(l:List Ty)->∀vs,TyRow S w l vs->TyRow S w (l++[t]) (vs++tyV t A c)
 |[],vs,h=>by
  rw[TyRow]at h
  rw[vC,TyRow]
  exact⟨A,c,[],by simp[h],ha,by rw[TyRow]⟩
 |u::r,vs,h=>by
  rw[TyRow]at h
  obtain⟨A',c',rest,rfl,h1,h2⟩:=h;rw[uS,TyRow]
  exact⟨A',c',rest++tyV t A c,by simp,h1,TyRow.snoc c ha r rest h2⟩
theorem TyRow.keep {S S':Nat->Prop} {w w':World}(hS:∀g,S g->S' g)(hk:∀g,S g->w'.heap[g]?=w.heap[g]?):(l:List Ty)->∀vs,TyRow S w l vs->TyRow S' w' l vs
 |[],vs,h=>by rw[TyRow]at h ⊢;exact h
 |t::r,vs,h=>by
  rw[TyRow]at h ⊢
  obtain⟨A,c,rest,e,h1,h2⟩:=h;exact⟨A,c,rest,e,Args.keep hS hk t A h1,TyRow.keep hS hk r rest h2⟩
theorem TyRow.row {S:Nat->Prop} {w:World} {g:Nat} :(l:List Ty)->∀vs o,TyRow S w l vs->(∀j u,vs[j]?=some u->w.cell? ⟨g,o+j,none⟩=some u)->RowT S w l g o
 |[],_,_,_,_=>by rw[RowT];trivial
 |t::r,vs,o,h,hc=>by
  rw[TyRow]at h
  obtain⟨A,c,rest,rfl,h1,h2⟩:=h;rw[RowT]
  refine⟨⟨A,c,⟨hc 0 _ rfl,hc 1 _ rfl,hc 2 _ rfl,hc 3 _ rfl⟩,h1⟩,TyRow.row r rest (o+4) h2 λj u hu=>?_⟩;rw[show o+4+j=o+(4+j) by omega]
  exact hc (4+j) u (by rw[uI (by simp[tyV])];simpa[tyV] using hu)
theorem own_below {w w':World} {B e size n:Nat} {v:Value} {xs:List Value}(h:w.ownsRow B e size v n xs)(hb:Below w.heap.size w w'):w'.ownsRow B e size v n xs:=by
 refine⟨h.1,?_⟩;rcases h.2 with hn|⟨g,cap,cur,rfl,hg,oy,rest⟩
 ·exact .inl hn
 ·exact .inr ⟨g,cap,cur,rfl,hg,by rw[hb.block g (Array.getElem?_eq_some_iff.1 oy).1];exact oy,rest⟩
def Built(T:Nat->Prop)(B:Nat)(e:TypeId)(w:World)(l:List Ty)(v:Value):Prop :=
 ∃vs,w.ownsRow B e 4 v l.length vs/\TyRow (λg=>(T g\/B<=g/\g<w.heap.size)/\some g≠v.ownBlock) w l vs
theorem Built.nil(T:Nat->Prop)(B:Nat)(e:TypeId)(w:World):Built T B e w [] (.slice none 0 0):=⟨[],uZ _ _ _ _,by rw[TyRow]⟩
theorem Built.below {T:Nat->Prop} {B:Nat} {e:TypeId} {w w':World} {l:List Ty} {v:Value}(h:Built T B e w l v)(hT:∀g,T g->g<w.heap.size)(hb:Below w.heap.size w w'):Built T B e w' l v:=by
 obtain⟨vs,h1,h2⟩:=h;refine⟨vs,own_below h1 hb,TyRow.keep ?_ ?_ l vs h2⟩
 ·rintro g ⟨h|h,h3⟩
  ·exact⟨.inl h,h3⟩
  ·exact⟨.inr ⟨h.1,uO h.2 hb.size⟩,h3⟩
 ·rintro g ⟨h|h,h3⟩
  ·exact hb.block g (hT g h)
  ·exact hb.block g h.2
theorem Built.snoc {T:Nat->Prop} {B:Nat} {e:TypeId} {w w':World} {l:List Ty} {t:Ty} {v v':Value} {A:Option Addr} {c:Nat} {vs:List Value}
  (hT:∀g,T g->g<B)(hB:B<=w.heap.size)(ao:TyRow (λg=>(T g\/B<=g/\g<w.heap.size)/\some g≠v.ownBlock) w l vs)
  (ha:Args (λg=>(T g\/B<=g/\g<w.heap.size)/\some g≠v.ownBlock) w t A)
  (ae:w'.ownsRow B e 4 v' (l.length+1) (vs++tyV t A c))(hg:w.grownBy w' v.ownBlock)(aH:v'.ownBlock=v.ownBlock\/v'.ownBlock=some w.heap.size):Built T B e w' (l++[t]) v':=by
 have aG:w.heap.size<=w'.heap.size:=hg.size;have hk:∀g,((T g\/B<=g/\g<w.heap.size)/\some g≠v.ownBlock)->w'.heap[g]?=w.heap[g]?:=λg h=>hg.block g (by rcases h.1 with h1|h1;have:=hT g h1;omega;exact h1.2) h.2;have hS:∀g,((T g\/B<=g/\g<w.heap.size)/\some g≠v.ownBlock)->((T g\/B<=g/\g<w'.heap.size)/\some g≠v'.ownBlock):=by
  rintro g ⟨h1,h2⟩;have ah:g<w.heap.size:=by rcases h1 with h1|h1;have:=hT g h1;omega;exact h1.2
  refine⟨?_,?_⟩
  ·rcases h1 with h1|h1
   ·exact .inl h1
   ·exact .inr ⟨h1.1,by omega⟩
  ·rcases aH with h|h
   ·rw[h];exact h2
   ·rw[h];intro e;injection e with e;omega
 refine⟨vs++tyV t A c,by rw[uf];exact ae,TyRow.snoc c (Args.keep hS hk t A ha) l vs (TyRow.keep hS hk l vs ao)⟩
theorem Built.next {T:Nat->Prop} {B:Nat} {e:TypeId} {w w1 w2 w3:World} {l:List Ty} {x:Ty} {v v':Value} {vs:List Value} {k z:Int} {s:ByteArray} {A:Option Addr} {m c:Nat}
  (hT:∀g,T g->g<B)(hB:B<=w.heap.size)(ae:w.ownsRow B e 4 v l.length vs)(ao:TyRow (λg=>(T g\/B<=g/\g<w.heap.size)/\some g≠v.ownBlock) w l vs)
  (b1:Below w.heap.size w w1)(hr:RdV (λg=>T g\/w.heap.size<=g/\g<w1.heap.size) w1 x (.agg #[.int .i64 k,.string s,.int .i64 z,.slice A m c]))(b2:Below w1.heap.size w1 w2)
  (ho:w3.ownsRow B e 4 v' (l.length+1) (vs++[.int .i64 k,.string s,.int .i64 z,.slice A m c]))(hg:w2.grownBy w3 v.ownBlock)(aH:v'.ownBlock=v.ownBlock\/v'.ownBlock=some w2.heap.size):Built T B e w3 (l++[x]) v':=by
 obtain⟨A',c',hv,ha⟩:=hr;injection hv with hv;have hv:=uC Array.toList hv;simp only[vH,Value.int.injEq,Value.string.injEq,Value.slice.injEq,wz,wj]at hv;obtain⟨rfl,rfl,rfl,rfl,rfl,rfl⟩:=hv;have ah:=ae.lt;have s1:=b1.size;have s2:=b2.size;have e6:Below w.heap.size w w2:=b1.trans (b2.mono s1);refine Built.snoc (w:=w2) (c:=c) hT (by omega) (TyRow.keep (λg h=>?_) (λg h=>?_) l vs ao) (Args.keep (λg h=>?_) (λg h=>?_) x A ha) ho hg aH
 ·refine⟨?_,h.2⟩
  rcases h.1 with h1|h1
  ·exact .inl h1
  ·exact .inr ⟨h1.1,by omega⟩
 ·exact e6.block g (by rcases h.1 with h1|h1;have:=hT g h1;omega;exact h1.2)
 ·rcases h with h1|h1
  ·refine⟨.inl h1,λe=>?_⟩
   have:=ah _ e.symm;have:=hT g h1;omega
  ·refine⟨.inr ⟨by omega,by omega⟩,λe=>?_⟩
   have:=ah _ e.symm;omega
 ·exact b2.block g (by rcases h with h1|h1;have:=hT g h1;omega;exact h1.2)
theorem Built.setCell {T:Nat->Prop} {B:Nat} {e:TypeId} {w:World} {l:List Ty} {v:Value}(h:Built T B e w l v) {p:Addr}(u:Value)(hp:p.block<B)(hT:¬T p.block):Built T B e (w.setCell p u) l v:=by
 obtain⟨vs,h1,h2⟩:=h;have ah:=h1.lt;have k1:∀g,(T g\/B<=g/\g<w.heap.size)/\some g≠v.ownBlock->(T g\/B<=g/\g<(w.setCell p u).heap.size)/\some g≠v.ownBlock:=by
  rintro g ⟨h3|h3,h4⟩
  ·exact⟨.inl h3,h4⟩
  ·exact⟨.inr ⟨h3.1,by simpa using h3.2⟩,h4⟩
 have k2:∀g,(T g\/B<=g/\g<w.heap.size)/\some g≠v.ownBlock->(w.setCell p u).heap[g]?=w.heap[g]?:=by
  rintro g ⟨h3,_⟩;refine tY w p u g λe=>?_;rcases h3 with h3|h3
  ·exact hT (e▸h3)
  ·omega
 exact⟨vs,ownsRow_setCell_other h1 (λe=>by have:=ah _ e;omega) u,TyRow.keep k1 k2 l vs h2⟩
theorem Built.args {T:Nat->Prop} {B:Nat} {e:TypeId} {w:World} {t:Ty} {A:Option Addr} {n c:Nat}(h:Built T B e w (kids t) (.slice A n c)):n=(kids t).length/\Args (λg=>T g\/B<=g/\g<w.heap.size) w t A:=by
 obtain⟨vs,h1,h2⟩:=h;have hc:=λg hg=>h1.cells (g:=g) hg;have ah:=h1.lt;have hlen:=h2.len;rcases h1.2 with⟨h3,h0⟩|⟨g,cap,cur,h3,_⟩
 ·injection h3 with e1 e2 e3
  subst e1 e2 e3;have hk:kids t=[]:=by cases hk:kids t with|nil=>rfl|cons a b=>rw[hk]at h0;simp at h0
  exact⟨by rw[hk];rfl,(zfc _ _ _ _).2 λh=>absurd hk h⟩
 ·injection h3 with e1 e2 e3
  subst e1 e2 e3;refine⟨rfl,(zfc _ _ _ _).2 λh=>⟨g,rfl,.inr ⟨(ah g rfl).1,(ah g rfl).2⟩,RowT.keep (λ_ h=>h) (λ_ _=>rfl) _ _ _ rfl (TyRow.row (kids t) vs 0 (TyRow.keep (λ_ h=>h.1) (λ_ _=>rfl) _ _ h2) λj u hu=>?_)⟩⟩;have dS:(⟨g,0,none⟩:Addr).add j=⟨g,j,none⟩:=by unfold Addr.add;split <;> simp_all
  have:=hc g rfl j u hu;rw[dS]at this
  rw[uJ];exact this
def RowV(w:World)(v:Value)(l:List Value):Prop :=
 ∃A c,v=.slice A l.length c/\(0<l.length->∃g,A=some ⟨g,0,none⟩/\g<w.heap.size/\∀j u,l[j]?=some u->w.cell? ⟨g,j,none⟩=some u)
theorem RowV.of_own {w:World} {base n:Nat} {v:Value} {l:List Value} {e:TypeId}(h:w.ownsRow base e 1 v n l):RowV w v l:=by
 have hc:=λg hg=>h.cells (g:=g) hg;have ah:=h.lt;have hl:=h.1;rcases h.2 with⟨rfl,h0⟩|⟨g,cap,cur,rfl,_⟩
 ·exact⟨none,0,by rw[hl,h0],λhp=>by omega⟩
 ·refine⟨_,_,by rw[hl,Nat.mul_one],λ_=>⟨g,rfl,(ah g rfl).2,λj u hu=>?_⟩⟩
  have dS:(⟨g,0,none⟩:Addr).add j=⟨g,j,none⟩:=by unfold Addr.add;split <;> simp_all
  have:=hc g rfl j u hu;rwa [dS]at this
theorem RowV.keep {w w':World} {v:Value} {l:List Value}(h:RowV w v l)(hs:w.heap.size<=w'.heap.size)(hk:∀k,k<w.heap.size->w'.heap[k]?=w.heap[k]?):RowV w' v l:=by
 obtain⟨A,c,hv,hp⟩:=h;refine⟨A,c,hv,λh0=>?_⟩;obtain⟨g,hA,hg,hc⟩:=hp h0;exact⟨g,hA,by omega,λj u hu=>by rw[uV (w:=w) (hk g hg)];exact hc j u hu⟩
theorem RowV.below {w w':World} {v:Value} {l:List Value}(h:RowV w v l)(hb:Below w.heap.size w w'):RowV w' v l:=h.keep hb.size hb.block
theorem RowV.at_ {w:World} {v:Value} {l:List Value}(h:RowV w v l)(k:Nat)(hk:k<l.length):∃g c,v=.slice (some ⟨g,0,none⟩) l.length c/\w.cell? ⟨g,k,none⟩=some l[k]:=by
 obtain⟨A,c,hv,hp⟩:=h;obtain⟨g,rfl,_,hc⟩:=hp (by omega);exact⟨g,c,hv,hc k _ (ug hk)⟩
def strV(l:List (List UInt8)):List Value:=l.map λx=>.string ⟨x.toArray⟩
end Go.Proofs.YtknkclefoiohpaaGreatDoor
namespace Go.Proofs.YtknkclefoiohpaaGreatDoor
namespace Sx
open Lx Tx
abbrev Nm:=List UInt8
mutual
inductive Ex where
 |var (x:Nm)
 |con (c:Nm)
 |lam (x:Nm) (e:Ex)
 |app (a b:Ex)
 |lt (x:Nm) (t:Option Ty) (a b:Ex)
 |cs (e:Ex) (l:List Al)
 |ann (e:Ex) (t:Ty)
inductive Al where
 |mk (c:Nm) (vs:List Nm) (b:Ex)
end
inductive De where
 |data (n:Nm) (ps:List Nm) (cs:List (Nm × Ty))
 |sig (x:Nm) (t:Ty)
 |bind (x:Nm) (e:Ex)
def wLet:Nm:=[108,101,116]
def wIn:Nm:=[105,110]
def wCase:Nm:=[99,97,115,101]
def wOf:Nm:=[111,102]
def wData:Nm:=[100,97,116,97]
def pArr(t:Tok):Bool:=isSign t [45,62]
def pEq(t:Tok):Bool:=isSign t [61]
def pCol(t:Tok):Bool:=isSign t [58]
def pSem(t:Tok):Bool:=isSign t [59]
def pOpn(t:Tok):Bool:=isSign t [123]
def pCls(t:Tok):Bool:=isSign t [125]
def pLam(t:Tok):Bool:=isSign t [92]
def pLp(t:Tok):Bool:=isSign t [40]
def pRp(t:Tok):Bool:=isSign t [41]
def atomE(t:Tok):Bool:=t.kind==1||t.kind==2||pLp t
def tok1(k:Nat):List Tok->Option (Nm × List Tok)
 |[]=>none
 |t::r=>if t.kind=k then some (t.text,r) else none
def typ(l:List Tok):Option (Ty × List Tok):=read (enough l) l
def told(l:List Tok):Option (Option Ty × List Tok) :=
 match eat pCol l with
 |none=>some (none,l)
 |some r=>(typ r).map λy=>(some y.1,y.2)
mutual
def rdE:Nat->List Tok->Option (Ex × List Tok)
 |0,_=>none
 |f+1,l =>
  match eat pLam l with
  |some r =>
   match tok1 1 r with
   |none=>none
   |some (x,r2) =>
    match eat pArr r2 with
    |none=>none
    |some r3=>(rdE f r3).map λy=>(.lam x y.1,y.2)
  |none =>
   match eat (isKey · wLet) l with
   |some r=>rdLet f r
   |none =>
    match eat (isKey · wCase) l with
    |some r=>rdCase f r
    |none=>rdApp f l
def rdLet:Nat->List Tok->Option (Ex × List Tok)
 |0,_=>none
 |f+1,l =>
  match tok1 1 l with
  |none=>none
  |some (x,r) =>
   match told r with
   |none=>none
   |some (t,r2) =>
    match eat pEq r2 with
    |none=>none
    |some r3 =>
     match rdE f r3 with
     |none=>none
     |some (a,r4) =>
      match eat (isKey · wIn) r4 with
      |none=>none
      |some r5=>(rdE f r5).map λy=>(.lt x t a y.1,y.2)
def rdCase:Nat->List Tok->Option (Ex × List Tok)
 |0,_=>none
 |f+1,l =>
  match rdE f l with
  |none=>none
  |some (a,r) =>
   match eat (isKey · wOf) r with
   |none=>none
   |some r2 =>
    match eat pOpn r2 with
    |none=>none
    |some r3 =>
     match eat pCls r3 with
     |some r4=>some (.cs a [],r4)
     |none =>
      match rdAlts f r3 with
      |none=>none
      |some (gv,r4)=>(eat pCls r4).map λr5=>(.cs a gv,r5)
def rdAlts:Nat->List Tok->Option (List Al × List Tok)
 |0,_=>none
 |f+1,l =>
  match tok1 2 l with
  |none=>none
  |some (c,r) =>
   match eat pArr (vars r).2 with
   |none=>none
   |some r2 =>
    match rdE f r2 with
    |none=>none
    |some (b,r3) =>
     match eat pSem r3 with
     |none=>some ([.mk c (vars r).1 b],r3)
     |some r4=>(rdAlts f r4).map λy=>(.mk c (vars r).1 b::y.1,y.2)
def rdApp:Nat->List Tok->Option (Ex × List Tok)
 |0,_=>none
 |f+1,l =>
  match rdAtom f l with
  |none=>none
  |some (a,r)=>rdArgs f a r
def rdArgs:Nat->Ex->List Tok->Option (Ex × List Tok)
 |0,_,_=>none
 |f+1,a,l =>
  match l with
  |[]=>some (a,[])
  |t::r =>
   if atomE t then
    match rdAtom f (t::r) with
    |none=>none
    |some (b,r2)=>rdArgs f (.app a b) r2
   else some (a,t::r)
def rdAtom:Nat->List Tok->Option (Ex × List Tok)
 |0,_=>none
 |f+1,l =>
  match tok1 1 l with
  |some (x,r)=>some (.var x,r)
  |none =>
   match eat pLp l with
   |some r =>
    match rdE f r with
    |none=>none
    |some (a,r2) =>
     match told r2 with
     |none=>none
     |some (none,r3)=>(eat pRp r3).map λr4=>(a,r4)
     |some (some t,r3)=>(eat pRp r3).map λr4=>(.ann a t,r4)
   |none=>(tok1 2 l).map λy=>(.con y.1,y.2)
end
def zaJ(l:List Tok):Nat:=3*l.length+3
def rdCon(l:List Tok):Option ((Nm × Ty) × List Tok) :=
 match tok1 2 l with
 |none=>none
 |some (c,r) =>
  match eat pCol r with
  |none=>none
  |some r2=>(typ r2).map λy=>((c,y.1),y.2)
def sepF {α:Type}(p:List Tok->Option (α × List Tok)):Nat->List Tok->Option (List α × List Tok)
 |0,_=>none
 |f+1,l =>
  match p l with
  |none=>none
  |some (x,r) =>
   match eat pSem r with
   |none=>some ([x],r)
   |some r2=>(sepF p f r2).map λy=>(x::y.1,y.2)
def sep {α:Type}(p:List Tok->Option (α × List Tok))(l:List Tok):Option (List α × List Tok):=sepF p (l.length+1) l
def rdData(l:List Tok):Option (De × List Tok) :=
 match tok1 2 l with
 |none=>none
 |some (n,r) =>
  match eat pOpn (vars r).2 with
  |none=>none
  |some r2 =>
   match eat pCls r2 with
   |some r3=>some (.data n (vars r).1 [],r3)
   |none =>
    match sep rdCon r2 with
    |none=>none
    |some (cs,r3)=>(eat pCls r3).map λr4=>(.data n (vars r).1 cs,r4)
def rdDecl(l:List Tok):Option (De × List Tok) :=
 match eat (isKey · wData) l with
 |some r=>rdData r
 |none =>
  match tok1 1 l with
  |none=>none
  |some (x,r) =>
   match eat pCol r with
   |some r2=>(typ r2).map λy=>(.sig x y.1,y.2)
   |none =>
    match eat pEq r with
    |none=>none
    |some r2=>(rdE (zaJ r2) r2).map λy=>(.bind x y.1,y.2)
def rdProg(l:List Tok):Option (List De × List Tok):=if l=[] then some ([],[]) else sep rdDecl l
mutual
def Ex.size:Ex->Nat
 |.var _=>1
 |.con _=>1
 |.lam _ e=>e.size+1
 |.app a b=>a.size+b.size+1
 |.lt _ _ a b=>a.size+b.size+1
 |.cs e l=>e.size+zbn l+1
 |.ann e _=>e.size+1
def Al.size:Al->Nat
 |.mk _ _ b=>b.size
def zbn:List Al->Nat
 |[]=>0
 |a::r=>a.size+zbn r
end
mutual
def Ex.depth:Ex->Nat
 |.var _=>1
 |.con _=>1
 |.lam _ e=>e.depth+1
 |.app a b=>max a.depth b.depth+1
 |.lt _ _ a b=>max a.depth b.depth+1
 |.cs e l=>max e.depth (zcY l)+1
 |.ann e _=>e.depth+1
def Al.depth:Al->Nat
 |.mk _ _ b=>b.depth
def zcY:List Al->Nat
 |[]=>0
 |a::r=>max a.depth (zcY r)
end
def zbo:Option Ty->Bool
 |none=>false
 |some t=>decide (50<t.depth)
mutual
def Ex.deepT:Ex->Bool
 |.var _=>false
 |.con _=>false
 |.lam _ e=>e.deepT
 |.app a b=>a.deepT||b.deepT
 |.lt _ t a b=>zbo t ||(a.deepT||b.deepT)
 |.cs e l=>e.deepT||zgM l
 |.ann e t=>decide (50<t.depth)||e.deepT
def Al.deepT:Al->Bool
 |.mk _ _ b=>b.deepT
def zgM:List Al->Bool
 |[]=>false
 |a::r=>a.deepT||zgM r
end
def Ex.tooDeep(e:Ex):Bool:=decide (50<e.depth)||e.deepT
def De.tooDeep:De->Bool
 |.data _ _ cs=>cs.any λc=>decide (50<c.2.depth)
 |.sig _ t=>decide (50<t.depth)
 |.bind _ e=>e.tooDeep
def zci(s:List UInt8):Except Nat Ex :=
 match zaX s with
 |(ts,_,0) =>
  match rdE (zaJ ts) ts with
  |some (e,[])=>if e.tooDeep then .error 3 else .ok e
  |_=>.error 80
 |(_,_,e)=>.error e
def zbe(s:List UInt8):Except Nat (List De) :=
 match zaX s with
 |(ts,_,0) =>
  match rdProg ts with
  |some (l,[])=>if l.any De.tooDeep then .error 3 else .ok l
  |_=>.error 80
 |(_,_,e)=>.error e
end Sx
namespace Sx
def add1(o:List Nm)(x:Nm):List Nm:=if x∈o then o else o++[x]
def addA(o l:List Nm):List Nm:=l.foldl add1 o
theorem zdO(o:List Nm):addA o []=o:=rfl
theorem zdh(o:List Nm)(x:Nm)(l:List Nm):addA o (x::l)=addA (add1 o x) l:=rfl
theorem zaU(o a b:List Nm):addA o (a++b)=addA (addA o a) b:=by unfold addA;rw[vP]
theorem zne {o:List Nm} {x y:Nm} : y∈add1 o x↔y∈o\/y=x:=by
 unfold add1;split
 ·exact⟨.inl,λh=>h.elim id λe=>e▸by assumption⟩
 ·simp
theorem zbU {o l:List Nm} {y:Nm} : y∈addA o l↔y∈o\/y∈l:=by
 induction l generalizing o with
 |nil=>simp[zdO]
 |cons x l ih=>rw[zdh,ih,zne,uT,or_assoc]
theorem zbl {o l:List Nm} :(addA o l).length<=o.length+l.length:=by
 induction l generalizing o with
 |nil=>simp[zdO]
 |cons x l ih =>
  rw[zdh]
  have:=ih (o:=add1 o x);have h2:(add1 o x).length<=o.length+1:=by unfold add1;split <;> simp
  simp only[ui];omega
inductive Ev where
 |use (x:Nm)
 |cn (c:Nm)
 |bi (xs:List Nm)
 |beg (xs:List Nm)
 |fin (xs:List Nm)
mutual
def evs:Ex->List Ev
 |.var x=>[.use x]
 |.con c=>[.cn c]
 |.lam x e=>.bi [x]::.beg [x]::(evs e++[.fin [x]])
 |.app a b=>.beg []::(evs a++evs b++[.fin []])
 |.lt x _ a b=>.bi [x]::.beg []::(evs a++.fin []::.beg [x]::(evs b++[.fin [x]]))
 |.cs e l=>.beg []::(evs e++.fin []::evsA l)
 |.ann e _=>.beg []::(evs e++[.fin []])
def evs1:Al->List Ev
 |.mk c vs b=>.cn c::.bi vs::.beg vs::(evs b++[.fin vs])
def evsA:List Al->List Ev
 |[]=>[]
 |a::r=>evs1 a++evsA r
end
def but(vs:List Nm)(l:List Nm):List Nm:=l.filter λy=>!vs.contains y
mutual
def fr:Ex->List Nm
 |.var x=>[x]
 |.con _=>[]
 |.lam x e=>but [x] (fr e)
 |.app a b=>fr a++fr b
 |.lt x _ a b=>fr a++but [x] (fr b)
 |.cs e l=>fr e++frA l
 |.ann e _=>fr e
def fr1:Al->List Nm
 |.mk _ vs b=>but vs (fr b)
def frA:List Al->List Nm
 |[]=>[]
 |a::r=>fr1 a++frA r
end
mutual
def cns:Ex->List Nm
 |.var _=>[]
 |.con c=>[c]
 |.lam _ e=>cns e
 |.app a b=>cns a++cns b
 |.lt _ _ a b=>cns a++cns b
 |.cs e l=>cns e++cnsA l
 |.ann e _=>cns e
def cns1:Al->List Nm
 |.mk c _ b=>c::cns b
def cnsA:List Al->List Nm
 |[]=>[]
 |a::r=>cns1 a++cnsA r
end
mutual
def bis:Ex->List Nm
 |.var _=>[]
 |.con _=>[]
 |.lam x e=>x::bis e
 |.app a b=>bis a++bis b
 |.lt x _ a b=>x::(bis a++bis b)
 |.cs e l=>bis e++bisA l
 |.ann e _=>bis e
def bis1:Al->List Nm
 |.mk _ vs b=>vs++bis b
def bisA:List Al->List Nm
 |[]=>[]
 |a::r=>bis1 a++bisA r
end
def zaF(e:Ex):List Nm:=addA [] (fr e)
def zaG(e:Ex):List Nm:=addA [] (cns e)
def zas(e:Ex):List Nm:=addA [] (bis e)
theorem zdB(l:List Nm):but [] l=l:=by unfold but;simp
theorem zfr(vs a b:List Nm):but vs (a++b)=but vs a++but vs b:=by unfold but;rw[List.filter_append]
theorem ziV(vs us l:List Nm):but vs (but us l)=but (vs++us) l:=by
 unfold but;rw[List.filter_filter]
 congr 1
 funext y
 rw[List.contains_append,Bool.not_or]
theorem zfM {vs l:List Nm} {y:Nm} : y∈but vs l↔y∈l/\y∉vs:=by
 unfold but;simp[List.mem_filter]
abbrev Cts:=Nm->Int
def bump(c:Cts)(d:Int)(xs:List Nm):Cts:=λy=>c y+d*(xs.count y:Nat)
theorem ze4(c:Cts)(d:Int):bump c d []=c:=by funext y;simp[bump]
theorem zek(c:Cts)(xs:List Nm):bump (bump c 1 xs) (-1) xs=c:=by
 funext y
 unfold bump;omega
def stF(c:Cts):Ev->Cts
 |.beg xs=>bump c 1 xs
 |.fin xs=>bump c (-1) xs
 |_=>c
def zjC(c:Cts):Ev->List Nm
 |.use x=>if c x=0 then[x] else[]
 |_=>[]
def runF(c:Cts):List Ev->List Nm
 |[]=>[]
 |e::r=>zjC c e++runF (stF c e) r
def zeros(c:Cts)(l:List Nm):List Nm:=l.filter λy=>decide (c y=0)
theorem zcj(c:Cts)(a b:List Nm):zeros c (a++b)=zeros c a++zeros c b:=by unfold zeros;rw[List.filter_append]
theorem zdP {c:Cts}(h:∀y,0<=c y)(xs l:List Nm):zeros (bump c 1 xs) l=zeros c (but xs l):=by
 unfold zeros but;rw[List.filter_filter]
 congr 1
 funext y
 have h0:=h y;unfold bump;by_cases hy:y∈xs
 ·have:=List.count_pos_iff.2 hy
  have e1:decide (c y+1*((xs.count y:Nat):Int)=0)=false:=by simp;omega
  rw[e1];simp[hy]
 ·have:=List.count_eq_zero.2 hy
  rw[this];simp[hy]
theorem ze5 {c:Cts}(h:∀y,0<=c y)(xs:List Nm):∀y,0<=bump c 1 xs y:=λy=>by
 have:=h y;unfold bump;omega
theorem zdQ(c:Cts)(xs:List Nm)(r:List Ev):runF c (.beg xs::r)=runF (bump c 1 xs) r:=rfl
theorem zdR(c:Cts)(xs:List Nm)(r:List Ev):runF c (.fin xs::r)=runF (bump c (-1) xs) r:=rfl
theorem zfN(c:Cts)(xs:List Nm)(r:List Ev):runF c (.bi xs::r)=runF c r:=rfl
theorem zoI(c:Cts)(x:Nm)(r:List Ev):runF c (.cn x::r)=runF c r:=rfl
theorem zdi(c:Cts)(r:List Ev):runF c (.beg []::r)=runF c r:=by rw[zdQ,ze4]
theorem zdj(c:Cts)(r:List Ev):runF c (.fin []::r)=runF c r:=by rw[zdR,ze4]
mutual
theorem zbG:∀(e:Ex)(c:Cts)(r:List Ev),(∀y,0<=c y)->runF c (evs e++r)=zeros c (fr e)++runF c r
 |.var x,c,r,h=>by
  show(if c x=0 then[x] else[])++runF c r=_;unfold fr zeros;by_cases hx:c x=0 <;> simp[hx]
 |.con x,c,r,h=>by unfold evs fr zeros;rfl
 |.lam x e,c,r,h=>by
  unfold evs fr;rw[uS,uS,uy,zfN,zdQ,zbG e _ _ (ze5 h _),zdP h,v8,zdR,zek]
 |.app a b,c,r,h=>by
  unfold evs fr;rw[uS,uy,uy,zdi,zbG a c _ h,zbG b c _ h,v8,zdj,zcj,uy]
 |.lt x t a b,c,r,h=>by
  unfold evs fr;rw[uS,uS,uy,uS,uS,uy,zfN,zdi,zbG a c _ h,zdj,zdQ,zbG b _ _ (ze5 h _),zdP h,v8,zdR,zek,zcj,uy]
 |.cs e l,c,r,h=>by
  unfold evs fr;rw[uS,uy,uS,zdi,zbG e c _ h,zdj,zgc l c _ h,zcj,uy]
 |.ann e t,c,r,h=>by
  unfold evs fr;rw[uS,uy,zdi,zbG e c _ h,v8,zdj]
theorem zlj:∀(a:Al)(c:Cts)(r:List Ev),(∀y,0<=c y)->runF c (evs1 a++r)=zeros c (fr1 a)++runF c r
 |.mk k vs b,c,r,h=>by
  unfold evs1 fr1;rw[uS,uS,uS,uy,zoI,zfN,zdQ,zbG b _ _ (ze5 h _),zdP h,v8,zdR,zek]
theorem zgc:∀(l:List Al)(c:Cts)(r:List Ev),(∀y,0<=c y)->runF c (evsA l++r)=zeros c (frA l)++runF c r
 |[],c,r,h=>by unfold evsA frA zeros;rfl
 |a::l,c,r,h=>by
  unfold evsA frA;rw[uy,zlj a c _ h,zgc l c _ h,zcj,uy]
end
theorem zlk(e:Ex):runF (λ_=>0) (evs e)=fr e:=by
 have:=zbG e (λ_=>0) [] (λ_=>Int.le_refl _);rw[uW]at this
 rw[this]
 unfold zeros runF;simp
def cnOf:Ev->List Nm
 |.cn c=>[c]
 |_=>[]
def biOf:Ev->List Nm
 |.bi xs=>xs
 |_=>[]
mutual
theorem zbL:∀e:Ex,(evs e).flatMap cnOf=cns e
 |.var x=>rfl
 |.con x=>rfl
 |.lam x e=>by simp[evs,cns,cnOf,zbL e]
 |.app a b=>by simp[evs,cns,cnOf,zbL a,zbL b]
 |.lt x t a b=>by simp[evs,cns,cnOf,zbL a,zbL b]
 |.cs e l=>by simp[evs,cns,cnOf,zbL e,zhz l]
 |.ann e t=>by simp[evs,cns,cnOf,zbL e]
theorem znf:∀a:Al,(evs1 a).flatMap cnOf=cns1 a
 |.mk k vs b=>by simp[evs1,cns1,cnOf,zbL b]
theorem zhz:∀l:List Al,(evsA l).flatMap cnOf=cnsA l
 |[]=>rfl
 |a::l=>by simp[evsA,cnsA,znf a,zhz l]
end
mutual
theorem zbM:∀e:Ex,(evs e).flatMap biOf=bis e
 |.var x=>rfl
 |.con x=>rfl
 |.lam x e=>by simp[evs,bis,biOf,zbM e]
 |.app a b=>by simp[evs,bis,biOf,zbM a,zbM b]
 |.lt x t a b=>by simp[evs,bis,biOf,zbM a,zbM b]
 |.cs e l=>by simp[evs,bis,biOf,zbM e,zhA l]
 |.ann e t=>by simp[evs,bis,biOf,zbM e]
theorem zng:∀a:Al,(evs1 a).flatMap biOf=bis1 a
 |.mk k vs b=>by simp[evs1,bis1,biOf,zbM b]
theorem zhA:∀l:List Al,(evsA l).flatMap biOf=bisA l
 |[]=>rfl
 |a::l=>by simp[evsA,bisA,zng a,zhA l]
end
end Sx
namespace Sx
open Lx Tx
def rep(s:List Nm):List Nm->Option Nm
 |[]=>none
 |x::r=>if x∈s then some x else rep (x::s) r
theorem zcc {s l:List Nm} {x:Nm}(h:rep s l=some x):x∈l:=by
 induction l generalizing s with
 |nil=>cases h
 |cons y r ih =>
  unfold rep at h;split at h
  ·injection h with h;simp[h]
  ·exact vp _ (ih h)
def wAny:Nm:=[65,110,121]
def conNames(cs:List (Nm × Ty)):List Nm:=cs.map (·.1)
def tw(d c s b:List Nm):List De->Option Nm
 |[]=>none
 |.data n ps cs::r =>
  if n∈d then some n
  else match rep [] ps with
   |some x=>some x
   |none=>match rep c (conNames cs) with
    |some x=>some x
    |none=>tw (n::d) (conNames cs++c) s b r
 |.sig x _::r=>if x∈s then some x else tw d c (x::s) b r
 |.bind x _::r=>if x∈b then some x else tw d c s (x::b) r
def bindOf:De->List Nm
 |.bind x _=>[x]
 |_=>[]
def sigOf:De->List Nm
 |.sig x _=>[x]
 |_=>[]
def conOf:De->List Nm
 |.data _ _ cs=>conNames cs
 |_=>[]
def exOf:De->List Ex
 |.bind _ e=>[e]
 |_=>[]
def binds(l:List De):List Nm:=l.flatMap bindOf
def sigs(l:List De):List Nm:=l.flatMap sigOf
def cons(l:List De):List Nm:=l.flatMap conOf
def exs(l:List De):List Ex:=l.flatMap exOf
def repV:Ev->Option Nm
 |.bi xs=>rep [] xs
 |_=>none
def mis(B C:List Nm)(e:Ex):Option (Nm × Nat) :=
 match (zas e).find? (λx=>decide (x∈B)) with
 |some x=>some (x,90)
 |none=>match (evs e).findSome? repV with
  |some x=>some (x,90)
  |none=>match (zaF e).find? (λx=>decide (x∉B)) with
   |some x=>some (x,91)
   |none=>match (zaG e).find? (λx=>decide (x∉C)) with
    |some x=>some (x,91)
    |none=>none
def chk(l:List De):Nm × Nat :=
 match tw [wAny] [] [] [] l with
 |some x=>(x,90)
 |none=>match (sigs l).find? (λx=>decide (x∉binds l)) with
  |some x=>(x,92)
  |none=>match (exs l).findSome? (mis (binds l) (cons l)) with
   |some y=>y
   |none=>([],0)
def useOf:Ev->List Nm
 |.use x=>[x]
 |.cn x=>[x]
 |.bi xs=>xs
 |_=>[]
def nms(e:Ex):List Nm:=(evs e).flatMap useOf
def nmsD:De->List Nm
 |.data n ps cs=>n::(ps++conNames cs)
 |.sig x _=>[x]
 |.bind x e=>x::nms e
mutual
theorem zb2:∀(e:Ex)(x:Nm),x∈fr e->x∈nms e
 |.var y,x,h=>by simpa[fr,nms,evs,useOf] using h
 |.con y,x,h=>by simp[fr]at h
 |.lam y e,x,h=>by
  have:=zb2 e x (zfM.1 h).1;unfold nms at this ⊢;simp only[evs,uH,uA,uz];exact .inr (.inr (.inl this))
 |.app a b,x,h=>by
  unfold fr at h;have:x∈nms a\/x∈nms b:=(uz.1 h).imp (zb2 a x) (zb2 b x);unfold nms at this ⊢;simp only[evs,uH,uA,uz];exact .inr (.inl this)
 |.lt y t a b,x,h=>by
  unfold fr at h;have:x∈nms a\/x∈nms b:=(uz.1 h).imp (zb2 a x) (λh=>zb2 b x (zfM.1 h).1);unfold nms at this ⊢;simp only[evs,uH,uA,uz];rcases this with h|h
  ·exact .inr (.inr (.inl h))
  ·exact .inr (.inr (.inr (.inr (.inr (.inl h)))))
 |.cs e l,x,h=>by
  unfold fr at h;have:x∈nms e\/x∈(evsA l).flatMap useOf:=(uz.1 h).imp (zb2 e x) (ziW l x);unfold nms at this ⊢;simp only[evs,uH,uA,uz];rcases this with h|h
  ·exact .inr (.inl h)
  ·exact .inr (.inr (.inr h))
 |.ann e t,x,h=>by
  have:=zb2 e x h;unfold nms at this ⊢;simp only[evs,uH,uA,uz];exact .inr (.inl this)
theorem zoJ:∀(a:Al)(x:Nm),x∈fr1 a->x∈(evs1 a).flatMap useOf
 |.mk c vs b,x,h=>by
  have:=zb2 b x (zfM.1 h).1;unfold nms at this;simp only[evs1,uH,uA,uz];exact .inr (.inr (.inr (.inl this)))
theorem ziW:∀(l:List Al)(x:Nm),x∈frA l->x∈(evsA l).flatMap useOf
 |[],x,h=>by simp[frA]at h
 |a::l,x,h=>by
  unfold frA at h;simp only[evsA,uA,uz];exact(uz.1 h).imp (zoJ a x) (ziW l x)
end
theorem ziX(e:Ex)(x:Nm)(h:x∈cns e):x∈nms e:=by
 rw[<-zbL]at h
 obtain⟨v,hv,hx⟩:=vT.1 h;refine vT.2 ⟨v,hv,?_⟩;cases v <;> simp_all [cnOf,useOf]
theorem ziY(e:Ex)(x:Nm)(h:x∈bis e):x∈nms e:=by
 rw[<-zbM]at h
 obtain⟨v,hv,hx⟩:=vT.1 h;refine vT.2 ⟨v,hv,?_⟩;cases v <;> simp_all [biOf,useOf]
theorem zpx {d c s b:List Nm} {l:List De} {x:Nm}(h:tw d c s b l=some x):∃y∈l,x∈nmsD y:=by
 induction l generalizing d c s b with
 |nil=>cases h
 |cons y r ih =>
  have up:(∃z∈r,x∈nmsD z)->∃z∈y::r,x∈nmsD z:=λ⟨z,hz,hx⟩=>⟨z,vp _ hz,hx⟩;cases y with
  |data n ps cs =>
   unfold tw at h;split at h
   ·injection h with h;exact⟨_,ve,by simp[nmsD,h]⟩
   ·split at h
    ·rename_i x1 h1
     injection h with h;subst h;exact⟨_,ve,by have:=zcc h1;simp[nmsD,this]⟩
    ·split at h
     ·rename_i x1 h1
      injection h with h;subst h;exact⟨_,ve,by have:=zcc h1;simp[nmsD,this]⟩
     ·exact up (ih h)
  |sig n t =>
   unfold tw at h;split at h
   ·injection h with h;exact⟨_,ve,by simp[nmsD,h]⟩
   ·exact up (ih h)
  |bind n e =>
   unfold tw at h;split at h
   ·injection h with h;exact⟨_,ve,by simp[nmsD,h]⟩
   ·exact up (ih h)
theorem zcZ {α β:Type} {f:α->Option β} {l:List α} {b:β}(h:l.findSome? f=some b):∃a∈l,f a=some b:=by
 induction l with
 |nil=>cases h
 |cons x r ih =>
  rw[uU]at h
  cases hx:f x with
  |some y=>rw[hx]at h;injection h with h;exact⟨x,ve,by rw[hx,h]⟩
  |none=>rw[hx]at h;obtain⟨a,ha,h2⟩:=ih h;exact⟨a,vp _ ha,h2⟩
theorem ze6 {B C:List Nm} {e:Ex} {y:Nm × Nat}(h:mis B C e=some y):y.1∈nms e/\(y.2=90\/y.2=91):=by
 unfold mis at h;split at h
 ·rename_i x hx
  injection h with h;subst h;have:=wg hx;exact⟨ziY e x (by simpa[zas,zbU] using this),.inl rfl⟩
 ·split at h
  ·rename_i x hx
   injection h with h;subst h;obtain⟨v,hv,h2⟩:=zcZ hx;refine⟨vT.2 ⟨v,hv,?_⟩,.inl rfl⟩;cases v <;> simp_all [repV,useOf]
   exact zcc h2
  ·split at h
   ·rename_i x hx
    injection h with h;subst h;have:=wg hx;exact⟨zb2 e x (by simpa[zaF,zbU] using this),.inr rfl⟩
   ·split at h
    ·rename_i x hx
     injection h with h;subst h;have:=wg hx;exact⟨ziX e x (by simpa[zaG,zbU] using this),.inr rfl⟩
    ·cases h
theorem zoK {l:List De} {e:Ex}(h:e∈exs l):∃x,De.bind x e∈l:=by
 obtain⟨d,hd,he⟩:=vT.1 h;cases d <;> simp[exOf]at he
 subst he;exact⟨_,hd⟩
end Sx
namespace Sx
open Lx Tx
mutual
def Ex.Ok:Ex->Prop
 |.var x=>Gd 1 x
 |.con c=>Gd 2 c
 |.lam x e=>Gd 1 x/\e.Ok
 |.app a b=>a.Ok/\b.Ok
 |.lt x t a b=>Gd 1 x/\(∀u,t=some u->Tx.Nm u)/\a.Ok/\b.Ok
 |.cs e l=>e.Ok/\okA l
 |.ann e t=>e.Ok/\Tx.Nm t
def Al.Ok:Al->Prop
 |.mk c vs b=>Gd 2 c/\(∀x∈vs,Gd 1 x)/\b.Ok
def okA:List Al->Prop
 |[]=>True
 |a::r=>a.Ok/\okA r
end
def zdS:Option Ty->Nat
 |none=>0
 |some t=>t.size
mutual
def Ex.wt:Ex->Nat
 |.var _=>1
 |.con _=>1
 |.lam _ e=>e.wt+1
 |.app a b=>a.wt+b.wt
 |.lt _ t a b=>zdS t+a.wt+b.wt+1
 |.cs e l=>e.wt+wtA l+1
 |.ann e t=>e.wt+t.size+1
def Al.wt:Al->Nat
 |.mk _ vs b=>vs.length+b.wt+1
def wtA:List Al->Nat
 |[]=>0
 |a::r=>a.wt+wtA r
end
theorem zav {p:Tok->Bool} {l r:List Tok}(hg:AllG l)(h:eat p l=some r):AllG r/\r.length+1=l.length:=by
 obtain⟨t,rfl,_⟩:=zc9 _ _ _ h;exact⟨hg.tail,rfl⟩
theorem zbu {k:Nat} {l r:List Tok} {x:Nm}(hk:k≠0)(hg:AllG l)(h:tok1 k l=some (x,r)):Gd k x/\AllG r/\r.length+1=l.length:=by
 cases l with
 |nil=>cases h
 |cons t r' =>
  rw[tok1]at h
  split at h
  ·rename_i ht
   injection h with h;injection h with h1 h2;subst h1 h2;have:=hg.head;rw[Lx.Good,ht]at this
   exact⟨⟨this.1,this.2.1,hk⟩,hg.tail,rfl⟩
  ·cases h
theorem zbC {l r:List Tok} {t:Ty}(hg:AllG l)(h:typ l=some (t,r)):Tx.Nm t/\AllG r/\t.size+r.length<=l.length:=(zfX _).1 l t r hg h
theorem zfs {l r:List Tok} {t:Option Ty}(hg:AllG l)(h:told l=some (t,r)):(∀u,t=some u->Tx.Nm u)/\AllG r/\zdS t+r.length<=l.length:=by
 unfold told at h;cases he:eat pCol l with
 |none =>
  rw[he]at h
  simp only[um,uw]at h;obtain⟨rfl,rfl⟩:=h;exact⟨(λu h=>by cases h),hg,by simp[zdS]⟩
 |some r1 =>
  rw[he]at h
  obtain⟨g1,l1⟩:=zav hg he;simp only at h;cases hr:typ r1 with
  |none=>rw[hr]at h;cases h
  |some y =>
   obtain⟨u,r2⟩:=y;rw[hr]at h
   simp only[uq,um,uw]at h;obtain⟨rfl,rfl⟩:=h;obtain⟨a,b,c⟩:=zbC g1 hr;exact⟨(λv hv=>by injection hv with hv;subst hv;exact a),b,by simp only[zdS];omega⟩
theorem rd_facts(f:Nat):(∀l e r,AllG l->rdE f l=some (e,r)->e.Ok/\AllG r/\e.wt+r.length<=l.length) /\
  (∀l e r,AllG l->rdLet f l=some (e,r)->e.Ok/\AllG r/\e.wt+r.length<=l.length+1) /\
  (∀l e r,AllG l->rdCase f l=some (e,r)->e.Ok/\AllG r/\e.wt+r.length<=l.length+1) /\
  (∀l gv r,AllG l->rdAlts f l=some (gv,r)->okA gv/\AllG r/\wtA gv+r.length<=l.length) /\
  (∀l e r,AllG l->rdApp f l=some (e,r)->e.Ok/\AllG r/\e.wt+r.length<=l.length) /\
  (∀a l e r,a.Ok->AllG l->rdArgs f a l=some (e,r)->e.Ok/\AllG r/\e.wt+r.length<=a.wt+l.length) /\
  (∀l e r,AllG l->rdAtom f l=some (e,r)->e.Ok/\AllG r/\e.wt+r.length<=l.length):=by
 induction f with
 |zero=>exact⟨(λ_ _ _ _ h=>by simp[rdE]at h),(λ_ _ _ _ h=>by simp[rdLet]at h),(λ_ _ _ _ h=>by simp[rdCase]at h),(λ_ _ _ _ h=>by simp[rdAlts]at h),(λ_ _ _ _ h=>by simp[rdApp]at h),(λ_ _ _ _ _ _ h=>by simp[rdArgs]at h),(λ_ _ _ _ h=>by simp[rdAtom]at h)⟩
 |succ f ih =>
  obtain⟨iE,iL,iC,iA,iP,iG,iT⟩:=ih;refine⟨λl e r hg h=>?_,λl e r hg h=>?_,λl e r hg h=>?_,λl gv r hg h=>?_,λl e r hg h=>?_,λa l e r ha hg h=>?_,λl e r hg h=>?_⟩
  ·rw[rdE]at h
   cases he:eat pLam l with
   |some r1 =>
    rw[he]at h
    obtain⟨g1,l1⟩:=zav hg he;simp only at h;cases h1:tok1 1 r1 with
    |none=>rw[h1]at h;cases h
    |some y =>
     obtain⟨x,r2⟩:=y;rw[h1]at h
     obtain⟨x1,g2,l2⟩:=zbu (by omega) g1 h1;simp only at h;cases h2:eat pArr r2 with
     |none=>rw[h2]at h;cases h
     |some r3 =>
      rw[h2]at h
      obtain⟨g3,l3⟩:=zav g2 h2;simp only at h;cases h3:rdE f r3 with
      |none=>rw[h3]at h;cases h
      |some y =>
       obtain⟨b,r4⟩:=y;rw[h3]at h
       simp only[uq,um,uw]at h;obtain⟨rfl,rfl⟩:=h;obtain⟨o,g4,l4⟩:=iE _ _ _ g3 h3;exact⟨⟨x1,o⟩,g4,by simp only[Ex.wt];omega⟩
   |none =>
    rw[he]at h
    simp only at h;cases h1:eat (isKey · wLet) l with
    |some r1 =>
     rw[h1]at h
     obtain⟨g1,l1⟩:=zav hg h1;obtain⟨o,g2,l2⟩:=iL _ _ _ g1 h;exact⟨o,g2,by omega⟩
    |none =>
     rw[h1]at h
     simp only at h;cases h2:eat (isKey · wCase) l with
     |some r1 =>
      rw[h2]at h
      obtain⟨g1,l1⟩:=zav hg h2;obtain⟨o,g2,l2⟩:=iC _ _ _ g1 h;exact⟨o,g2,by omega⟩
     |none =>
      rw[h2]at h
      exact iP _ _ _ hg h
  ·rw[rdLet]at h
   cases h1:tok1 1 l with
   |none=>rw[h1]at h;cases h
   |some y =>
    obtain⟨x,r1⟩:=y;rw[h1]at h
    obtain⟨x1,g1,l1⟩:=zbu (by omega) hg h1;simp only at h;cases h2:told r1 with
    |none=>rw[h2]at h;cases h
    |some y =>
     obtain⟨t,r2⟩:=y;rw[h2]at h
     obtain⟨t1,g2,l2⟩:=zfs g1 h2;simp only at h;cases h3:eat pEq r2 with
     |none=>rw[h3]at h;cases h
     |some r3 =>
      rw[h3]at h
      obtain⟨g3,l3⟩:=zav g2 h3;simp only at h;cases h4:rdE f r3 with
      |none=>rw[h4]at h;cases h
      |some y =>
       obtain⟨a,r4⟩:=y;rw[h4]at h
       obtain⟨o4,g4,l4⟩:=iE _ _ _ g3 h4;simp only at h;cases h5:eat (isKey · wIn) r4 with
       |none=>rw[h5]at h;cases h
       |some r5 =>
        rw[h5]at h
        obtain⟨g5,l5⟩:=zav g4 h5;simp only at h;cases h6:rdE f r5 with
        |none=>rw[h6]at h;cases h
        |some y =>
         obtain⟨b,r6⟩:=y;rw[h6]at h
         simp only[uq,um,uw]at h;obtain⟨rfl,rfl⟩:=h;obtain⟨o6,g6,l6⟩:=iE _ _ _ g5 h6;exact⟨⟨x1,t1,o4,o6⟩,g6,by simp only[Ex.wt];omega⟩
  ·rw[rdCase]at h
   cases h1:rdE f l with
   |none=>rw[h1]at h;cases h
   |some y =>
    obtain⟨a,r1⟩:=y;rw[h1]at h
    obtain⟨o1,g1,l1⟩:=iE _ _ _ hg h1;simp only at h;cases h2:eat (isKey · wOf) r1 with
    |none=>rw[h2]at h;cases h
    |some r2 =>
     rw[h2]at h
     obtain⟨g2,l2⟩:=zav g1 h2;simp only at h;cases h3:eat pOpn r2 with
     |none=>rw[h3]at h;cases h
     |some r3 =>
      rw[h3]at h
      obtain⟨g3,l3⟩:=zav g2 h3;simp only at h;cases h4:eat pCls r3 with
      |some r4 =>
       rw[h4]at h
       obtain⟨g4,l4⟩:=zav g3 h4;simp only[um,uw]at h;obtain⟨rfl,rfl⟩:=h;exact⟨⟨o1,trivial⟩,g4,by simp only[Ex.wt,wtA];omega⟩
      |none =>
       rw[h4]at h
       simp only at h;cases h5:rdAlts f r3 with
       |none=>rw[h5]at h;cases h
       |some y =>
        obtain⟨gv,r5⟩:=y;rw[h5]at h
        obtain⟨o5,g5,l5⟩:=iA _ _ _ g3 h5;simp only at h;cases h6:eat pCls r5 with
        |none=>rw[h6]at h;cases h
        |some r6 =>
         rw[h6]at h
         obtain⟨g6,l6⟩:=zav g5 h6;simp only[uq,um,uw]at h;obtain⟨rfl,rfl⟩:=h;exact⟨⟨o1,o5⟩,g6,by simp only[Ex.wt];omega⟩
  ·rw[rdAlts]at h
   cases h1:tok1 2 l with
   |none=>rw[h1]at h;cases h
   |some y =>
    obtain⟨c,r1⟩:=y;rw[h1]at h
    obtain⟨c1,g1,l1⟩:=zbu (by omega) hg h1;obtain⟨v1,v2,v3⟩:=zbD r1 g1;simp only at h;cases h2:eat pArr (vars r1).2 with
    |none=>rw[h2]at h;cases h
    |some r2 =>
     rw[h2]at h
     obtain⟨g2,l2⟩:=zav v2 h2;simp only at h;cases h3:rdE f r2 with
     |none=>rw[h3]at h;cases h
     |some y =>
      obtain⟨b,r3⟩:=y;rw[h3]at h
      obtain⟨o3,g3,l3⟩:=iE _ _ _ g2 h3;simp only at h;cases h4:eat pSem r3 with
      |none =>
       rw[h4]at h
       simp only[um,uw]at h;obtain⟨rfl,rfl⟩:=h;exact⟨⟨⟨c1,v1,o3⟩,trivial⟩,g3,by simp only[wtA,Al.wt];omega⟩
      |some r4 =>
       rw[h4]at h
       obtain⟨g4,l4⟩:=zav g3 h4;simp only at h;cases h5:rdAlts f r4 with
       |none=>rw[h5]at h;cases h
       |some y =>
        obtain⟨als',r5⟩:=y;rw[h5]at h
        simp only[uq,um,uw]at h;obtain⟨rfl,rfl⟩:=h;obtain⟨o5,g5,l5⟩:=iA _ _ _ g4 h5;exact⟨⟨⟨c1,v1,o3⟩,o5⟩,g5,by simp only[wtA,Al.wt];omega⟩
  ·rw[rdApp]at h
   cases h1:rdAtom f l with
   |none=>rw[h1]at h;cases h
   |some y =>
    obtain⟨a,r1⟩:=y;rw[h1]at h
    obtain⟨o1,g1,l1⟩:=iT _ _ _ hg h1;obtain⟨o2,g2,l2⟩:=iG _ _ _ _ o1 g1 h;exact⟨o2,g2,by omega⟩
  ·cases l with
   |nil =>
    rw[rdArgs]at h
    simp only[um,uw]at h;obtain⟨rfl,rfl⟩:=h;exact⟨ha,hg,by simp⟩
   |cons t r1 =>
    rw[rdArgs]at h
    split at h
    ·cases h1:rdAtom f (t::r1) with
     |none=>rw[h1]at h;cases h
     |some y =>
      obtain⟨b,r2⟩:=y;rw[h1]at h
      obtain⟨o1,g1,l1⟩:=iT _ _ _ hg h1;obtain⟨o2,g2,l2⟩:=iG _ _ _ _ (show(Ex.app a b).Ok from⟨ha,o1⟩) g1 h;exact⟨o2,g2,by simp only[Ex.wt]at l2;omega⟩
    ·simp only[um,uw]at h
     obtain⟨rfl,rfl⟩:=h;exact⟨ha,hg,by simp⟩
  ·rw[rdAtom]at h
   cases h1:tok1 1 l with
   |some y =>
    obtain⟨x,r1⟩:=y;rw[h1]at h
    obtain⟨x1,g1,l1⟩:=zbu (by omega) hg h1;simp only[um,uw]at h;obtain⟨rfl,rfl⟩:=h;exact⟨x1,g1,by simp only[Ex.wt];omega⟩
   |none =>
    rw[h1]at h
    simp only at h;cases h2:eat pLp l with
    |some r1 =>
     rw[h2]at h
     obtain⟨g1,l1⟩:=zav hg h2;simp only at h;cases h3:rdE f r1 with
     |none=>rw[h3]at h;cases h
     |some y =>
      obtain⟨a,r2⟩:=y;rw[h3]at h
      obtain⟨o3,g3,l3⟩:=iE _ _ _ g1 h3;simp only at h;cases h4:told r2 with
      |none=>rw[h4]at h;cases h
      |some y =>
       obtain⟨t,r3⟩:=y;rw[h4]at h
       obtain⟨t4,g4,l4⟩:=zfs g3 h4;cases t with
       |none =>
        simp only at h;cases h5:eat pRp r3 with
        |none=>rw[h5]at h;cases h
        |some r4 =>
         rw[h5]at h
         obtain⟨g5,l5⟩:=zav g4 h5;simp only[uq,um,uw]at h;obtain⟨rfl,rfl⟩:=h;exact⟨o3,g5,by omega⟩
       |some t =>
        simp only at h;cases h5:eat pRp r3 with
        |none=>rw[h5]at h;cases h
        |some r4 =>
         rw[h5]at h
         obtain⟨g5,l5⟩:=zav g4 h5;simp only[uq,um,uw]at h;obtain⟨rfl,rfl⟩:=h;exact⟨⟨o3,t4 t rfl⟩,g5,by simp only[Ex.wt];simp only[zdS]at l4;omega⟩
    |none =>
     rw[h2]at h
     simp only at h;cases h3:tok1 2 l with
     |none=>rw[h3]at h;cases h
     |some y =>
      obtain⟨x,r1⟩:=y;rw[h3]at h
      obtain⟨x1,g1,l1⟩:=zbu (by omega) hg h3;simp only[uq,um,uw]at h;obtain⟨rfl,rfl⟩:=h;exact⟨x1,g1,by simp only[Ex.wt];omega⟩
end Sx
end Go.Proofs.YtknkclefoiohpaaGreatDoor
namespace Go.Proofs.YtknkclefoiohpaaGreatDoor
open Go.RowKit Lx Tx
namespace Sx
def kdE:Ex->Nat
 |.var _=>1
 |.con _=>2
 |.lam _ _=>3
 |.app _ _=>4
 |.lt _ _ _ _=>5
 |.cs _ _=>6
 |.ann _ _=>7
def nmE:Ex->Nm
 |.var x=>x
 |.con c=>c
 |.lam x _=>x
 |.app _ _=>[]
 |.lt x _ _ _=>x
 |.cs _ _=>[]
 |.ann _ _=>[]
def toE:Ex->Bool
 |.lt _ (some _) _ _=>true
 |_=>false
def tyE:Ex->Option Ty
 |.lt _ t _ _=>t
 |.ann _ t=>some t
 |_=>none
def zac:Ex->List Ex
 |.var _=>[]
 |.con _=>[]
 |.lam _ e=>[e]
 |.app a b=>[a,b]
 |.lt _ _ a b=>[a,b]
 |.cs e _=>[e]
 |.ann e _=>[e]
def zad:Ex->List Al
 |.cs _ l=>l
 |_=>[]
def strV(x:Nm):Value:=.string ⟨x.toArray⟩
structure Pls where
 A:Option Addr
 a:Nat
 K:Option Addr
 k:Nat
 L:Option Addr
 l:Nat
def tyC:Option Ty->Option Addr->Nat->List Value
 |none,_,_=>[.int .i64 0,.string ⟨#[]⟩,.int .i64 0,.slice none 0 0]
 |some t,A,c=>tyV t A c
def exC(e:Ex)(P:Pls):List Value :=
 [.int .i64 (kdE e:Nat),strV (nmE e),.bool (toE e)]++tyC (tyE e) P.A P.a++[.slice P.K (zac e).length ((zac e).length+P.k),.slice P.L (zad e).length P.l]
theorem zjI(t:Option Ty)(A:Option Addr)(c:Nat):(tyC t A c).length=4:=by cases t <;> rfl
theorem zbY(e:Ex)(P:Pls):(exC e P).length=9:=by simp[exC,zjI]
def Lie(w:World)(g o:Nat)(vs:List Value):Prop:=∀(j:Nat)(v:Value),vs[j]?=some v->w.cell? ⟨g,o+j,none⟩=some v
def TyA(S:Nat->Prop)(w:World):Option Ty->Option Addr->Prop
 |none,_=>True
 |some t,A=>Args S w t A
def NmsIn(S:Nat->Prop)(w:World)(vs:List Nm)(V:Option Addr):Prop:=vs≠[]->∃g,V=some ⟨g,0,none⟩/\S g/\Lie w g 0 (vs.map strV)
mutual
def ExIn(S:Nat->Prop)(w:World):Ex->Option Addr->Option Addr->Prop
 |.var _,_,_=>True
 |.con _,_,_=>True
 |.lam _ e,K,_=>∃g,K=some ⟨g,0,none⟩/\S g/\∃P:Pls,Lie w g 0 (exC e P)/\TyA S w (tyE e) P.A/\ExIn S w e P.K P.L
 |.app a b,K,_=>∃g,K=some ⟨g,0,none⟩/\S g/\(∃P:Pls,Lie w g 0 (exC a P)/\TyA S w (tyE a) P.A/\ExIn S w a P.K P.L)/\∃P:Pls,Lie w g 9 (exC b P)/\TyA S w (tyE b) P.A/\ExIn S w b P.K P.L
 |.lt _ _ a b,K,_=>∃g,K=some ⟨g,0,none⟩/\S g/\(∃P:Pls,Lie w g 0 (exC a P)/\TyA S w (tyE a) P.A/\ExIn S w a P.K P.L)/\∃P:Pls,Lie w g 9 (exC b P)/\TyA S w (tyE b) P.A/\ExIn S w b P.K P.L
 |.cs e l,K,L=>(∃g,K=some ⟨g,0,none⟩/\S g/\∃P:Pls,Lie w g 0 (exC e P)/\TyA S w (tyE e) P.A/\ExIn S w e P.K P.L)/\(l≠[]->∃g,L=some ⟨g,0,none⟩/\S g/\AlsIn S w l g 0)
 |.ann e _,K,_=>∃g,K=some ⟨g,0,none⟩/\S g/\∃P:Pls,Lie w g 0 (exC e P)/\TyA S w (tyE e) P.A/\ExIn S w e P.K P.L
def AlIn(S:Nat->Prop)(w:World):Al->Nat->Nat->Prop
 |.mk c vs b,g,o=>w.cell? ⟨g,o,none⟩=some (strV c)/\(∃V,∃v : {v:Nat // vs.length<=v},w.cell? ⟨g,o+1,none⟩=some (.slice V vs.length v)/\NmsIn S w vs V) /\
   ∃P:Pls,Lie w g (o+2) (exC b P)/\TyA S w (tyE b) P.A/\ExIn S w b P.K P.L
def AlsIn(S:Nat->Prop)(w:World):List Al->Nat->Nat->Prop
 |[],_,_=>True
 |a::r,g,o=>AlIn S w a g o/\AlsIn S w r g (o+11)
end
def ExAt(S:Nat->Prop)(w:World)(e:Ex)(g o:Nat):Prop:=∃P:Pls,Lie w g o (exC e P)/\TyA S w (tyE e) P.A/\ExIn S w e P.K P.L
def RdX(S:Nat->Prop)(w:World)(e:Ex)(v:Value):Prop:=∃P:Pls,v=.agg (exC e P).toArray/\TyA S w (tyE e) P.A/\ExIn S w e P.K P.L
def ExsAt(S:Nat->Prop)(w:World):List Ex->Nat->Nat->Prop
 |[],_,_=>True
 |e::r,g,o=>ExAt S w e g o/\ExsAt S w r g (o+9)
theorem Lie.keep {w w':World} {g o:Nat} {vs:List Value}(h:Lie w g o vs)(hk:w'.heap[g]?=w.heap[g]?):Lie w' g o vs:=λj v hj =>
 (uV (w:=w) (a:=⟨g,o+j,none⟩) hk).trans (h j v hj)
theorem zcd {w w':World} {g o:Nat} {v:Value}(h:w.cell? ⟨g,o,none⟩=some v)(hk:w'.heap[g]?=w.heap[g]?):w'.cell? ⟨g,o,none⟩=some v :=
 (uV (w:=w) (a:=⟨g,o,none⟩) hk).trans h
theorem TyA.keep {S S':Nat->Prop} {w w':World}(hS:∀g,S g->S' g)(hk:∀g,S g->w'.heap[g]?=w.heap[g]?) {t:Option Ty} {A:Option Addr}(h:TyA S w t A):TyA S' w' t A:=by
 cases t with
 |none=>trivial
 |some t=>exact Args.keep hS hk t A h
theorem NmsIn.keep {S S':Nat->Prop} {w w':World}(hS:∀g,S g->S' g)(hk:∀g,S g->w'.heap[g]?=w.heap[g]?) {vs:List Nm} {V:Option Addr}(h:NmsIn S w vs V):NmsIn S' w' vs V:=λhv=>by
 obtain⟨g,h1,h2,h3⟩:=h hv;exact⟨g,h1,hS g h2,h3.keep (hk g h2)⟩
mutual
theorem ExIn.keep {S S':Nat->Prop} {w w':World}(hS:∀g,S g->S' g)(hk:∀g,S g->w'.heap[g]?=w.heap[g]?):(e:Ex)->∀K L,ExIn S w e K L->ExIn S' w' e K L
 |.var _,_,_,_=>by rw[ExIn];trivial
 |.con _,_,_,_=>by rw[ExIn];trivial
 |.lam _ e,K,L,h=>by
  rw[ExIn]at h ⊢
  obtain⟨g,h1,h2,P,h3,h4,h5⟩:=h;exact⟨g,h1,hS g h2,P,h3.keep (hk g h2),h4.keep hS hk,ExIn.keep hS hk e _ _ h5⟩
 |.app a b,K,L,h=>by
  rw[ExIn]at h ⊢
  obtain⟨g,h1,h2,⟨P,h3,h4,h5⟩,Q,h6,h7,h8⟩:=h;exact⟨g,h1,hS g h2,⟨P,h3.keep (hk g h2),h4.keep hS hk,ExIn.keep hS hk a _ _ h5⟩,Q,h6.keep (hk g h2),h7.keep hS hk,ExIn.keep hS hk b _ _ h8⟩
 |.lt _ _ a b,K,L,h=>by
  rw[ExIn]at h ⊢
  obtain⟨g,h1,h2,⟨P,h3,h4,h5⟩,Q,h6,h7,h8⟩:=h;exact⟨g,h1,hS g h2,⟨P,h3.keep (hk g h2),h4.keep hS hk,ExIn.keep hS hk a _ _ h5⟩,Q,h6.keep (hk g h2),h7.keep hS hk,ExIn.keep hS hk b _ _ h8⟩
 |.cs e l,K,L,h=>by
  rw[ExIn]at h ⊢
  obtain⟨⟨g,h1,h2,P,h3,h4,h5⟩,h6⟩:=h;refine⟨⟨g,h1,hS g h2,P,h3.keep (hk g h2),h4.keep hS hk,ExIn.keep hS hk e _ _ h5⟩,λhl=>?_⟩;obtain⟨g2,a1,a2,a3⟩:=h6 hl;exact⟨g2,a1,hS g2 a2,AlsIn.keep hS hk l g2 0 (hk g2 a2) a3⟩
 |.ann e _,K,L,h=>by
  rw[ExIn]at h ⊢
  obtain⟨g,h1,h2,P,h3,h4,h5⟩:=h;exact⟨g,h1,hS g h2,P,h3.keep (hk g h2),h4.keep hS hk,ExIn.keep hS hk e _ _ h5⟩
theorem AlIn.keep {S S':Nat->Prop} {w w':World}(hS:∀g,S g->S' g)(hk:∀g,S g->w'.heap[g]?=w.heap[g]?):(a:Al)->∀g o,w'.heap[g]?=w.heap[g]?->AlIn S w a g o->AlIn S' w' a g o
 |.mk c vs b,g,o,hg,h=>by
  rw[AlIn]at h ⊢
  obtain⟨h1,⟨V,v,h2,h3⟩,P,h4,h5,h6⟩:=h;exact⟨zcd h1 hg,⟨V,v,zcd h2 hg,h3.keep hS hk⟩,P,h4.keep hg,h5.keep hS hk,ExIn.keep hS hk b _ _ h6⟩
theorem AlsIn.keep {S S':Nat->Prop} {w w':World}(hS:∀g,S g->S' g)(hk:∀g,S g->w'.heap[g]?=w.heap[g]?):(l:List Al)->∀g o,w'.heap[g]?=w.heap[g]?->AlsIn S w l g o->AlsIn S' w' l g o
 |[],_,_,_,_=>by rw[AlsIn];trivial
 |a::r,g,o,hg,h=>by
  rw[AlsIn]at h ⊢
  exact⟨AlIn.keep hS hk a g o hg h.1,AlsIn.keep hS hk r g (o+11) hg h.2⟩
end
theorem ExAt.keep {S S':Nat->Prop} {w w':World} {e:Ex} {g o:Nat}(h:ExAt S w e g o)(hS:∀g,S g->S' g)(hk:∀g,S g->w'.heap[g]?=w.heap[g]?)(hg:w'.heap[g]?=w.heap[g]?):ExAt S' w' e g o:=by
 obtain⟨P,h1,h2,h3⟩:=h;exact⟨P,h1.keep hg,h2.keep hS hk,ExIn.keep hS hk e _ _ h3⟩
theorem RdX.keep {S S':Nat->Prop} {w w':World} {e:Ex} {v:Value}(h:RdX S w e v)(hS:∀g,S g->S' g)(hk:∀g,S g->w'.heap[g]?=w.heap[g]?):RdX S' w' e v:=by
 obtain⟨P,rfl,h2,h3⟩:=h;exact⟨P,rfl,h2.keep hS hk,ExIn.keep hS hk e _ _ h3⟩
theorem zce {S:Nat->Prop} {w:World}(e:Ex)(K L:Option Addr):ExIn S w e K L↔((zac e≠[]->∃g,K=some ⟨g,0,none⟩/\S g/\ExsAt S w (zac e) g 0)/\(zad e≠[]->∃g,L=some ⟨g,0,none⟩/\S g/\AlsIn S w (zad e) g 0)):=by
 cases e with
 |var x=>rw[ExIn];simp[zac,zad]
 |con c=>rw[ExIn];simp[zac,zad]
 |lam x e =>
  rw[ExIn]
  refine⟨λ⟨g,h1,h2,h3⟩=>⟨λ_=>⟨g,h1,h2,h3,trivial⟩,λh=>absurd rfl h⟩,λ⟨h,_⟩=>?_⟩;obtain⟨g,h1,h2,h3,_⟩:=h (by simp[zac]);exact⟨g,h1,h2,h3⟩
 |app a b =>
  rw[ExIn]
  refine⟨λ⟨g,h1,h2,h3,h4⟩=>⟨λ_=>⟨g,h1,h2,h3,h4,trivial⟩,λh=>absurd rfl h⟩,λ⟨h,_⟩=>?_⟩;obtain⟨g,h1,h2,h3,h4,_⟩:=h (by simp[zac]);exact⟨g,h1,h2,h3,h4⟩
 |lt x t a b =>
  rw[ExIn]
  refine⟨λ⟨g,h1,h2,h3,h4⟩=>⟨λ_=>⟨g,h1,h2,h3,h4,trivial⟩,λh=>absurd rfl h⟩,λ⟨h,_⟩=>?_⟩;obtain⟨g,h1,h2,h3,h4,_⟩:=h (by simp[zac]);exact⟨g,h1,h2,h3,h4⟩
 |cs e l =>
  rw[ExIn]
  refine⟨λ⟨⟨g,h1,h2,h3⟩,h4⟩=>⟨λ_=>⟨g,h1,h2,h3,trivial⟩,h4⟩,λ⟨h,h4⟩=>⟨?_,h4⟩⟩;obtain⟨g,h1,h2,h3,_⟩:=h (by simp[zac]);exact⟨g,h1,h2,h3⟩
 |ann e t =>
  rw[ExIn]
  refine⟨λ⟨g,h1,h2,h3⟩=>⟨λ_=>⟨g,h1,h2,h3,trivial⟩,λh=>absurd rfl h⟩,λ⟨h,_⟩=>?_⟩;obtain⟨g,h1,h2,h3,_⟩:=h (by simp[zac]);exact⟨g,h1,h2,h3⟩
theorem ExsAt.at_ {S:Nat->Prop} {w:World} :(l:List Ex)->∀g o i (hi:i<l.length),ExsAt S w l g o->ExAt S w l[i] g (o+i*9)
 |[],_,_,i,hi,_=>absurd hi (by simp)
 |e::r,g,o,0,_,h=>by rw[ExsAt]at h;simpa using h.1
 |e::r,g,o,i+1,hi,h=>by
  rw[ExsAt]at h
  have:=ExsAt.at_ r g (o+9) i (by simpa using hi) h.2;rw[show o+9+i*9=o+(i+1)*9 by omega]at this
  simpa using this
theorem AlsIn.at_ {S:Nat->Prop} {w:World} :(l:List Al)->∀g o i (hi:i<l.length),AlsIn S w l g o->AlIn S w l[i] g (o+i*11)
 |[],_,_,i,hi,_=>absurd hi (by simp)
 |a::r,g,o,0,_,h=>by rw[AlsIn]at h;simpa using h.1
 |a::r,g,o,i+1,hi,h=>by
  rw[AlsIn]at h
  have:=AlsIn.at_ r g (o+11) i (by simpa using hi) h.2;rw[show o+11+i*11=o+(i+1)*11 by omega]at this
  simpa using this
def alB:Al->Ex
 |.mk _ _ b=>b
def parts(e:Ex):List Ex:=zac e++(zad e).map alB
theorem zbv(e:Ex):e.size=1+((parts e).map Ex.size).sum:=by
 have hA:∀l:List Al,zbn l=((l.map alB).map Ex.size).sum:=by
  intro l;induction l with
  |nil=>rfl
  |cons a r ih=>cases a;simp[zbn,Al.size,alB,ih]
 cases e <;> simp[Ex.size,parts,zac,zad,hA] <;> omega
theorem zds(e:Ex):e.depth=1+((parts e).map Ex.depth).foldl max 0:=by
 have hm:∀(l:List Nat) (a:Nat),l.foldl max a=max a (l.foldl max 0):=by
  intro l;induction l with
  |nil=>intro a;simp
  |cons x r ih=>intro a;rw[vF,vF,ih (max a x),ih (max 0 x)];omega
 have hA:∀l:List Al,zcY l=((l.map alB).map Ex.depth).foldl max 0:=by
  intro l;induction l with
  |nil=>rfl
  |cons a r ih=>cases a;rw[zcY,ih];simp only[Al.depth,alB,vI,vF];rw[hm _ (max 0 _)];omega
 cases e with
 |var x=>rfl
 |con x=>rfl
 |lam x e=>simp[Ex.depth,parts,zac,zad];omega
 |app a b=>simp[Ex.depth,parts,zac,zad];omega
 |lt x t a b=>simp[Ex.depth,parts,zac,zad];omega
 |cs e l =>
  simp only[Ex.depth,parts,zac,zad,hA,wb,vP,vI,wh,vF,List.foldl_nil];rw[hm _ (max 0 e.depth)];omega
 |ann e t=>simp[Ex.depth,parts,zac,zad];omega
theorem zfx(e:Ex):e.deepT=(zbo (tyE e) ||(parts e).any Ex.deepT):=by
 have hA:∀l:List Al,zgM l=(l.map alB).any Ex.deepT:=by
  intro l;induction l with
  |nil=>rfl
  |cons a r ih=>cases a;simp[zgM,Al.deepT,alB,ih]
 cases e <;> simp[Ex.deepT,parts,zac,zad,tyE,zbo,hA]
end Sx
end Go.Proofs.YtknkclefoiohpaaGreatDoor
namespace Go.Proofs.YtknkclefoiohpaaGreatDoor
open Lx Tx
namespace Sx
def ag(e:Ex):Option Nm:=(evs e).findSome? repV
def ag1(a:Al):Option Nm:=(evs1 a).findSome? repV
theorem ziM(x:Nm):rep [] [x]=none:=by simp[rep]
theorem zpi(c:Nm)(vs:List Nm)(b:Ex):ag1 (.mk c vs b)=(rep [] vs).or (ag b):=by
 simp[ag1,ag,evs1,repV,uU]
 cases rep [] vs <;> rfl
theorem ziN:∀l:List Al,(evsA l).findSome? repV=l.findSome? ag1
 |[]=>rfl
 |a::r=>by
  rw[evsA,vD,ziN r,uU,ag1]
  cases (evs1 a).findSome? repV <;> rfl
theorem zmD(e:Ex):ag e=((zac e).findSome? ag).or ((zad e).findSome? ag1):=by
 cases e with
 |var x=>rfl
 |con c=>rfl
 |lam x e=>simp[ag,evs,repV,ziM,zac,zad,uU];cases (evs e).findSome? repV <;> rfl
 |app a b=>simp[ag,evs,repV,zac,zad,uU];cases (evs a).findSome? repV <;> cases (evs b).findSome? repV <;> rfl
 |lt x t a b=>simp[ag,evs,repV,ziM,zac,zad,uU];cases (evs a).findSome? repV <;> cases (evs b).findSome? repV <;> rfl
 |cs e l=>simp[ag,evs,repV,zac,zad,uU,ziN];cases (evs e).findSome? repV <;> rfl
 |ann e t=>simp[ag,evs,repV,zac,zad,uU];cases (evs e).findSome? repV <;> rfl
theorem zei {α β:Type}(f:α->Option β)(l:List α)(i:Nat)(x:α)(h:l[i]?=some x):(l.take (i+1)).findSome? f=((l.take i).findSome? f).or (f x):=by
 rw[uL,h,vD]
 cases (l.take i).findSome? f <;> simp
theorem zg9 {α β:Type}(f:α->Option β)(l:List α)(i:Nat)(x:α)(y:β)(h:l[i]?=some x)(h0:(l.take i).findSome? f=none)(hy:f x=some y):l.findSome? f=some y:=by
 conv=>lhs;rw[<-vQ (i+1) l]
 rw[vD,zei f l i x h,h0,hy]
 rfl
theorem zpj {e:Ex} {x:Nm}(h:ag e=some x):x∈nms e:=by
 obtain⟨v,hv,hx⟩:=List.exists_of_findSome?_eq_some h;refine vT.2 ⟨v,hv,?_⟩;cases v with
 |bi xs=>exact zcc hx
 |_=>cases hx
theorem zcB(l:List Nm):∀s s':List Nm,(∀x,x∈s↔x∈s')->rep s l=rep s' l:=by
 induction l with
 |nil=>intro s s' _;rfl
 |cons y r ih =>
  intro s s' h;unfold rep;rw[ih (y::s) (y::s') (λx=>by simp[h x])]
  simp only[h y]
theorem zmE(s l:List Nm)(i:Nat)(h:i<l.length):rep (s++l.take i) (l.drop i)=if l[i]∈s++l.take i then some l[i] else rep (s++l.take (i+1)) (l.drop (i+1)):=by
 rw[uG h,rep]
 have e:rep (l[i]::(s++l.take i)) (l.drop (i+1))=rep (s++l.take (i+1)) (l.drop (i+1)) :=
  zcB _ _ _ (λx=>by rw[uL,ug h];simp only[uT,uz,Option.toList_some,List.mem_nil_iff,vY];exact or_comm.trans or_assoc)
 rw[e]
def tw1(d c s b:List Nm):De->Option Nm
 |.data n ps cs=>if n∈d\/n=wAny then some n else(rep [] ps).or (rep c (conNames cs))
 |.sig x _=>if x∈s then some x else none
 |.bind x _=>if x∈b then some x else none
def datOf:De->List Nm
 |.data n _ _=>[n]
 |_=>[]
def dats(l:List De):List Nm:=l.flatMap datOf
theorem zby(l:List De):∀d d' c c' s s' b b':List Nm,(∀x,x∈d↔x∈d')->(∀x,x∈c↔x∈c')->(∀x,x∈s↔x∈s')->(∀x,x∈b↔x∈b')->tw d c s b l=tw d' c' s' b' l:=by
 induction l with
 |nil=>intros;rfl
 |cons y r ih =>
  intro d d' c c' s s' b b' hd hc hs hb;cases y with
  |data n ps cs =>
   unfold tw;rw[ih (n::d) (n::d') (conNames cs++c) (conNames cs++c') s s' b b' (λx=>by simp[hd x]) (λx=>by simp[hc x]) hs hb,zcB _ c c' hc]
   simp only[hd n]
  |sig x t =>
   unfold tw;rw[ih d d' c c' (x::s) (x::s') b b' hd hc (λy=>by simp[hs y]) hb]
   simp only[hs x]
  |bind x e =>
   unfold tw;rw[ih d d' c c' s s' (x::b) (x::b') hd hc hs (λy=>by simp[hb y])]
   simp only[hb x]
theorem zol(d c s b:List Nm)(y:De)(r:List De):tw (wAny::d) c s b (y::r)=match tw1 d c s b y with
  |some x=>some x
  |none=>tw (wAny::(d++datOf y)) (c++conOf y) (s++sigOf y) (b++bindOf y) r:=by
 cases y with
 |data n ps cs =>
  conv=>lhs;rw[tw]
  simp only[tw1];by_cases h:n∈d\/n=wAny
  ·rw[ud h,ud (uT.2 h.symm)]
  ·rw[ue h,ue (λk=>h (uT.1 k).symm)]
   cases rep [] ps with
   |some x=>rfl
   |none =>
    cases rep c (conNames cs) with
    |some x=>rfl
    |none =>
     simp only[Option.none_or];exact zby r _ _ _ _ _ _ _ _ (λx=>by simp only[datOf,uT,uz,u9,vY];exact⟨λh=>by rcases h with h|h|h <;> simp[h],λh=>by rcases h with h|h|h <;> simp[h]⟩) (λx=>by simp only[conOf,uz];exact or_comm) (λx=>by simp[sigOf]) (λx=>by simp[bindOf])
 |sig x t =>
  conv=>lhs;rw[tw]
  simp only[tw1];by_cases h:x∈s
  ·rw[ud h,ud h]
  ·rw[ue h,ue h]
   simp only;exact zby r _ _ _ _ _ _ _ _ (λy=>by simp[datOf]) (λy=>by simp[conOf]) (λy=>by simp only[sigOf,uT,uz,u9,vY];exact or_comm) (λy=>by simp[bindOf])
 |bind x e =>
  conv=>lhs;rw[tw]
  simp only[tw1];by_cases h:x∈b
  ·rw[ud h,ud h]
  ·rw[ue h,ue h]
   simp only;exact zby r _ _ _ _ _ _ _ _ (λy=>by simp[datOf]) (λy=>by simp[conOf]) (λy=>by simp[sigOf]) (λy=>by simp only[bindOf,uT,uz,u9,vY];exact or_comm)
def twR(l:List De)(i:Nat):Option Nm:=tw (wAny::dats (l.take i)) (cons (l.take i)) (sigs (l.take i)) (binds (l.take i)) (l.drop i)
def twA(l:List De)(i:Nat)(y:De):Option Nm:=tw1 (dats (l.take i)) (cons (l.take i)) (sigs (l.take i)) (binds (l.take i)) y
theorem zbB {α:Type}(f:De->List α)(l:List De)(i:Nat)(y:De)(h:l[i]?=some y):(l.take (i+1)).flatMap f=(l.take i).flatMap f++f y:=by
 rw[uL,h,uA]
 simp
theorem zha(l:List De)(i:Nat)(y:De)(h:l[i]?=some y):twR l i=match twA l i y with|some x=>some x|none=>twR l (i+1):=by
 obtain⟨hi,rfl⟩:=uj.1 h;unfold twR twA;rw[uG hi,zol]
 unfold dats cons sigs binds;rw[zbB _ l i _ h,zbB _ l i _ h,zbB _ l i _ h,zbB _ l i _ h]
theorem zom(l:List De):twR l l.length=none:=by
 unfold twR;rw[vU]
 rfl
theorem zkL(l:List De):chk l=match twR l 0 with
  |some x=>(x,90)
  |none=>match (sigs l).find? (λx=>decide (x∉binds l)) with
   |some x=>(x,92)
   |none=>match (exs l).findSome? (mis (binds l) (cons l)) with
    |some y=>y
    |none=>([],0):=rfl
def chkSg(l:List De)(k:Nat):Nm × Nat:=match ((sigs l).drop k).find? (λx=>decide (x∉binds l)) with
 |some x=>(x,92)
 |none=>match (exs l).findSome? (mis (binds l) (cons l)) with
  |some y=>y
  |none=>([],0)
def chkBd(l:List De)(i:Nat):Nm × Nat:=match (exs (l.drop i)).findSome? (mis (binds l) (cons l)) with
 |some y=>y
 |none=>([],0)
theorem zpT {l:List De} {i:Nat}(h:twR l 0=twR l i) {y:De} {x:Nm}(hy:l[i]?=some y)(hx:twA l i y=some x):chk l=(x,90):=by
 rw[zkL,h,zha l i y hy,hx]
theorem zmF {l:List De} {i:Nat}(h:twR l 0=twR l i) {y:De}(hy:l[i]?=some y)(hx:twA l i y=none):twR l 0=twR l (i+1):=by
 rw[h,zha l i y hy,hx]
theorem zpU {l:List De}(h:twR l 0=twR l l.length):chk l=chkSg l 0:=by
 rw[zkL,h,zom]
 rfl
theorem zkM {l:List De} {k:Nat} {x:Nm}(h:(sigs l)[k]?=some x)(hx:x∉binds l):chkSg l k=(x,92):=by
 obtain⟨hk,rfl⟩:=uj.1 h;unfold chkSg;rw[uG hk,vG,uB hx]
theorem zmG {l:List De} {k:Nat} {x:Nm}(h:(sigs l)[k]?=some x)(hx:x∈binds l):chkSg l k=chkSg l (k+1):=by
 obtain⟨hk,rfl⟩:=uj.1 h;unfold chkSg;rw[uG hk,vG,ux (λh=>h hx)]
theorem zkN {l:List De} : chkSg l (sigs l).length=chkBd l 0:=by
 unfold chkSg chkBd;rw[vU]
 rfl
theorem zkO {l:List De} : chkBd l l.length=([],0):=by
 unfold chkBd;rw[vU]
 rfl
theorem zfm {l:List De} {i:Nat} {y:De}(h:l[i]?=some y)(hy:exOf y=[]):chkBd l i=chkBd l (i+1):=by
 obtain⟨hi,rfl⟩:=uj.1 h;unfold chkBd exs;rw[uG hi,uH,hy,vC]
theorem zkP {l:List De} {i:Nat} {x:Nm} {e:Ex} {y:Nm × Nat}(h:l[i]?=some (.bind x e))(hy:mis (binds l) (cons l) e=some y):chkBd l i=y:=by
 obtain⟨hi,h2⟩:=uj.1 h;unfold chkBd exs;rw[uG hi,uH,h2]
 simp[exOf,hy]
theorem zmH {l:List De} {i:Nat} {x:Nm} {e:Ex}(h:l[i]?=some (.bind x e))(hy:mis (binds l) (cons l) e=none):chkBd l i=chkBd l (i+1):=by
 obtain⟨hi,h2⟩:=uj.1 h;unfold chkBd exs;rw[uG hi,uH,h2]
 simp[exOf,hy]
def misB(B C:List Nm)(e:Ex)(k:Nat):Option (Nm × Nat):=match ((zas e).drop k).find? (λx=>decide (x∈B)) with
 |some x=>some (x,90)
 |none=>match ag e with
  |some x=>some (x,90)
  |none=>match (zaF e).find? (λx=>decide (x∉B)) with
   |some x=>some (x,91)
   |none=>match (zaG e).find? (λx=>decide (x∉C)) with
    |some x=>some (x,91)
    |none=>none
def misF(B C:List Nm)(e:Ex)(k:Nat):Option (Nm × Nat):=match ((zaF e).drop k).find? (λx=>decide (x∉B)) with
 |some x=>some (x,91)
 |none=>match (zaG e).find? (λx=>decide (x∉C)) with
  |some x=>some (x,91)
  |none=>none
def misC(C:List Nm)(e:Ex)(k:Nat):Option (Nm × Nat):=match ((zaG e).drop k).find? (λx=>decide (x∉C)) with
 |some x=>some (x,91)
 |none=>none
theorem zmI {B C:List Nm} {e:Ex} {k:Nat} {x:Nm}(h:(zas e)[k]?=some x)(hx:x∈B):misB B C e k=some (x,90):=by
 obtain⟨hk,rfl⟩:=uj.1 h;unfold misB;rw[uG hk,vG,uB hx]
theorem zon {B C:List Nm} {e:Ex} {k:Nat} {x:Nm}(h:(zas e)[k]?=some x)(hx:x∉B):misB B C e k=misB B C e (k+1):=by
 obtain⟨hk,rfl⟩:=uj.1 h;unfold misB;rw[uG hk,vG,ux hx]
theorem zpk {B C:List Nm} {e:Ex} {x:Nm}(h:ag e=some x):misB B C e (zas e).length=some (x,90):=by
 unfold misB;rw[vU,List.find?_nil,h]
theorem zpl {B C:List Nm} {e:Ex}(h:ag e=none):misB B C e (zas e).length=misF B C e 0:=by
 unfold misB;rw[vU,List.find?_nil,h]
 rfl
theorem zmJ {B C:List Nm} {e:Ex} {k:Nat} {x:Nm}(h:(zaF e)[k]?=some x)(hx:x∉B):misF B C e k=some (x,91):=by
 obtain⟨hk,rfl⟩:=uj.1 h;unfold misF;rw[uG hk,vG,uB hx]
theorem zoo {B C:List Nm} {e:Ex} {k:Nat} {x:Nm}(h:(zaF e)[k]?=some x)(hx:x∈B):misF B C e k=misF B C e (k+1):=by
 obtain⟨hk,rfl⟩:=uj.1 h;unfold misF;rw[uG hk,vG,ux (λh=>h hx)]
theorem misF_c {B C:List Nm} {e:Ex} : misF B C e (zaF e).length=misC C e 0:=by
 unfold misF;rw[vU,List.find?_nil]
 rfl
theorem zmK {C:List Nm} {e:Ex} {k:Nat} {x:Nm}(h:(zaG e)[k]?=some x)(hx:x∉C):misC C e k=some (x,91):=by
 obtain⟨hk,rfl⟩:=uj.1 h;unfold misC;rw[uG hk,vG,uB hx]
theorem zop {C:List Nm} {e:Ex} {k:Nat} {x:Nm}(h:(zaG e)[k]?=some x)(hx:x∈C):misC C e k=misC C e (k+1):=by
 obtain⟨hk,rfl⟩:=uj.1 h;unfold misC;rw[uG hk,vG,ux (λh=>h hx)]
theorem zmL {C:List Nm} {e:Ex} : misC C e (zaG e).length=none:=by
 unfold misC;rw[vU]
 rfl
end Sx
end Go.Proofs.YtknkclefoiohpaaGreatDoor
namespace Go.Proofs.YtknkclefoiohpaaGreatDoor
namespace Sx
open Lx Tx
theorem zmp(l:List Al):frA l=l.flatMap fr1:=by induction l with
 |nil=>rfl
 |cons a r ih=>rw[frA,ih];rfl
theorem zkF(l:List Al):cnsA l=l.flatMap cns1:=by induction l with
 |nil=>rfl
 |cons a r ih=>rw[cnsA,ih];rfl
theorem zkG(l:List Al):bisA l=l.flatMap bis1:=by induction l with
 |nil=>rfl
 |cons a r ih=>rw[bisA,ih];rfl
def bK:Ex->Nat->List Nm
 |.lam x _,_=>[x]
 |.lt x _ _ _,i=>if i=1 then[x] else[]
 |_,_=>[]
def kF(f:Nat->Ex->List Nm)(e:Ex):Nat->List Nm
 |0=>[]
 |i+1=>kF f e i++((zac e)[i]?).elim [] (f i)
def frK(e:Ex):Nat->List Nm:=kF (λi k=>but (bK e i) (fr k)) e
theorem zpe(e:Ex)(h:kdE e≠1):fr e=frK e (zac e).length++(zad e).flatMap fr1:=by
 cases e with
 |var x=>exact absurd rfl h
 |con c=>rfl
 |lam x e=>simp[fr,frK,kF,zac,zad,bK]
 |app a b=>simp[fr,frK,kF,zac,zad,bK,zdB]
 |lt x t a b=>simp[fr,frK,kF,zac,zad,bK,zdB]
 |cs e l=>simp[fr,frK,kF,zac,zad,bK,zdB,zmp]
 |ann e t=>simp[fr,frK,kF,zac,zad,bK,zdB]
def preC:Ex->List Nm
 |.con c=>[c]
 |_=>[]
def preB:Ex->List Nm
 |.lam x _=>[x]
 |.lt x _ _ _=>[x]
 |_=>[]
theorem zn7(e:Ex):cns e=preC e++(kF (λ_=>cns) e (zac e).length++(zad e).flatMap cns1):=by
 cases e <;> simp[cns,preC,kF,zac,zad,zkF]
theorem zn8(e:Ex):bis e=preB e++(kF (λ_=>bis) e (zac e).length++(zad e).flatMap bis1):=by
 cases e <;> simp[bis,preB,kF,zac,zad,zkG]
theorem zb9 {α:Type}(f:α->List Nm)(l:List α)(i:Nat)(x:α)(h:l[i]?=some x):(l.take (i+1)).flatMap f=(l.take i).flatMap f++f x:=by
 rw[uL,h];simp
theorem kF_snoc(f:Nat->Ex->List Nm)(e:Ex)(i:Nat)(k:Ex)(h:(zac e)[i]?=some k):kF f e (i+1)=kF f e i++f i k:=by rw[kF,h];rfl
theorem zmq(o:List Nm)(x:Nm):addA o [x]=add1 o x:=rfl
def frAD(b o:List Nm)(e:Ex):List Nm:=addA o (but b (fr e))
theorem zmr(b o:List Nm)(x:Nm):frAD b o (.var x)=if x∈b then o else add1 o x:=by
 unfold frAD but;by_cases h:x∈b <;> simp[fr,h,addA]
end Sx
namespace Sx
open Lx Tx
theorem zbK(vs l:List Nm):(but vs l).length<=l.length:=by unfold but;exact List.length_filter_le _ _
mutual
theorem zcv:∀e:Ex,(fr e).length<=e.wt
 |.var _=>by simp[fr,Ex.wt]
 |.con _=>by simp[fr]
 |.lam x e=>by have:=zcv e;have:=zbK [x] (fr e);simp only[fr,Ex.wt];omega
 |.app a b=>by have:=zcv a;have:=zcv b;simp only[fr,Ex.wt,uf];omega
 |.lt x t a b=>by have:=zcv a;have:=zcv b;have:=zbK [x] (fr b);simp only[fr,Ex.wt,uf];omega
 |.cs e l=>by have:=zcv e;have:=zkI l;simp only[fr,Ex.wt,uf];omega
 |.ann e t=>by have:=zcv e;simp only[fr,Ex.wt];omega
theorem zkH:∀a:Al,(fr1 a).length<=a.wt
 |.mk c vs b=>by have:=zcv b;have:=zbK vs (fr b);simp only[fr1,Al.wt];omega
theorem zkI:∀l:List Al,(frA l).length<=wtA l
 |[]=>by simp[frA]
 |a::r=>by have:=zkH a;have:=zkI r;simp only[frA,wtA,uf];omega
end
mutual
theorem zbR:∀e:Ex,(cns e).length<=e.wt
 |.var _=>by simp[cns]
 |.con _=>by simp[cns,Ex.wt]
 |.lam x e=>by have:=zbR e;simp only[cns,Ex.wt];omega
 |.app a b=>by have:=zbR a;have:=zbR b;simp only[cns,Ex.wt,uf];omega
 |.lt x t a b=>by have:=zbR a;have:=zbR b;simp only[cns,Ex.wt,uf];omega
 |.cs e l=>by have:=zbR e;have:=ziH l;simp only[cns,Ex.wt,uf];omega
 |.ann e t=>by have:=zbR e;simp only[cns,Ex.wt];omega
theorem ziG:∀a:Al,(cns1 a).length<=a.wt
 |.mk c vs b=>by have:=zbR b;simp only[cns1,Al.wt,ui];omega
theorem ziH:∀l:List Al,(cnsA l).length<=wtA l
 |[]=>by simp[cnsA]
 |a::r=>by have:=ziG a;have:=ziH r;simp only[cnsA,wtA,uf];omega
end
mutual
theorem zbS:∀e:Ex,(bis e).length<=e.wt
 |.var _=>by simp[bis]
 |.con _=>by simp[bis]
 |.lam x e=>by have:=zbS e;simp only[bis,Ex.wt,ui];omega
 |.app a b=>by have:=zbS a;have:=zbS b;simp only[bis,Ex.wt,uf];omega
 |.lt x t a b=>by have:=zbS a;have:=zbS b;simp only[bis,Ex.wt,uf,ui];omega
 |.cs e l=>by have:=zbS e;have:=ziJ l;simp only[bis,Ex.wt,uf];omega
 |.ann e t=>by have:=zbS e;simp only[bis,Ex.wt];omega
theorem ziI:∀a:Al,(bis1 a).length<=a.wt
 |.mk c vs b=>by have:=zbS b;simp only[bis1,Al.wt,uf];omega
theorem ziJ:∀l:List Al,(bisA l).length<=wtA l
 |[]=>by simp[bisA]
 |a::r=>by have:=ziI a;have:=ziJ r;simp only[bisA,wtA,uf];omega
end
theorem zg5(L:Ex->List Nm)(f:Nat->Ex->List Nm)(hf:∀i k,(f i k).length<=(L k).length)(hL:∀e,(L e).length<=e.wt)(e:Ex)(i:Nat)(k:Ex)(h:(zac e)[i]?=some k):(kF f e i).length+k.wt+(bK e i).length<=e.wt/\k.size<e.size:=by
 have h2:∀i k,(f i k).length<=k.wt:=λi k=>uX (hf i k) (hL k);cases e with
 |var x=>simp[zac]at h
 |con c=>simp[zac]at h
 |lam x e =>
  match i,h with
  |0,h=>simp[zac]at h;subst h;simp[kF,bK,Ex.wt,Ex.size]
  |i+1,h=>simp[zac]at h
 |app a b =>
  match i,h with
  |0,h=>simp[zac]at h;subst h;simp[kF,bK,Ex.wt,Ex.size];omega
  |1,h=>simp[zac]at h;subst h;have:=h2 0 a;simp[kF,zac,bK,Ex.wt,Ex.size];omega
  |i+2,h=>simp[zac]at h
 |lt x t a b =>
  match i,h with
  |0,h=>simp[zac]at h;subst h;simp[kF,bK,Ex.wt,Ex.size];omega
  |1,h=>simp[zac]at h;subst h;have:=h2 0 a;simp[kF,zac,bK,Ex.wt,Ex.size];omega
  |i+2,h=>simp[zac]at h
 |cs e l =>
  match i,h with
  |0,h=>simp[zac]at h;subst h;simp[kF,bK,Ex.wt,Ex.size];omega
  |i+1,h=>simp[zac]at h
 |ann e t =>
  match i,h with
  |0,h=>simp[zac]at h;subst h;simp[kF,bK,Ex.wt,Ex.size];omega
  |i+1,h=>simp[zac]at h
def bnd(e:Ex):Nat:=if kdE e=3\/kdE e=5 then 1 else 0
theorem ziK(f:Nat->Ex->List Nm)(hf:∀i k,(f i k).length<=k.wt)(e:Ex)(i:Nat)(k:Ex)(h:(zac e)[i]?=some k):(Sx.kF f e i).length+k.wt+bnd e<=e.wt:=by
 cases e with
 |var x=>simp[zac]at h
 |con c=>simp[zac]at h
 |lam x e =>
  match i,h with
  |0,h=>simp[zac]at h;subst h;simp[Sx.kF,bnd,kdE,Ex.wt]
  |i+1,h=>simp[zac]at h
 |app a b =>
  match i,h with
  |0,h=>simp[zac]at h;subst h;simp[Sx.kF,bnd,kdE,Ex.wt]
  |1,h=>simp[zac]at h;subst h;have:=hf 0 a;simp[Sx.kF,zac,bnd,kdE,Ex.wt];omega
  |i+2,h=>simp[zac]at h
 |lt x t a b =>
  match i,h with
  |0,h=>simp[zac]at h;subst h;simp[Sx.kF,bnd,kdE,Ex.wt];omega
  |1,h=>simp[zac]at h;subst h;have:=hf 0 a;simp[Sx.kF,zac,bnd,kdE,Ex.wt];omega
  |i+2,h=>simp[zac]at h
 |cs e l =>
  match i,h with
  |0,h=>simp[zac]at h;subst h;simp[Sx.kF,bnd,kdE,Ex.wt];omega
  |i+1,h=>simp[zac]at h
 |ann e t =>
  match i,h with
  |0,h=>simp[zac]at h;subst h;simp[Sx.kF,bnd,kdE,Ex.wt];omega
  |i+1,h=>simp[zac]at h
def alVs:Al->List Nm
 |.mk _ vs _=>vs
def alCn:Al->Nm
 |.mk c _ _=>c
theorem ziL(g:Al->List Nm)(hg:∀a,(g a).length<=a.wt):∀(l:List Al)(i:Nat)(a:Al),l[i]?=some a->((l.take i).flatMap g).length+a.wt<=wtA l
 |[],_,_,h=>by simp at h
 |b::r,0,a,h=>by simp at h;subst h;simp[wtA]
 |b::r,i+1,a,h=>by
  have:=ziL g hg r i a (by simpa using h);have:=hg b;simp only[vO,uH,uf,wtA];omega
theorem zfl(L:Ex->List Nm)(f:Nat->Ex->List Nm)(g:Al->List Nm)(hf:∀i k,(f i k).length<=(L k).length)(hL:∀e,(L e).length<=e.wt)(hg:∀a,(g a).length<=a.wt)(e:Ex)(i:Nat)(a:Al)(h:(zad e)[i]?=some a):(kF f e (zac e).length).length+(((zad e).take i).flatMap g).length+(alB a).wt+(alVs a).length+1<=e.wt/\(alB a).size<e.size:=by
 cases e with
 |cs e l =>
  have h1:=ziL g hg l i a h;have h2:(f 0 e).length<=e.wt:=uX (hf 0 e) (hL e);have h3:∀(l:List Al) (i:Nat) (a:Al),l[i]?=some a->a.size<=zbn l:=by
   intro l;induction l with
   |nil=>intro i a h;simp at h
   |cons b r ih =>
    intro i a h;match i,h with
    |0,h=>simp at h;subst h;simp[zbn]
    |i+1,h=>have:=ih i a (by simpa using h);simp[zbn];omega
  have h4:=h3 l i a h;obtain⟨c,vs,b⟩:=a;simp only[Al.size]at h4;simp only[Al.wt]at h1;simp only[kF,zac,zad,alB,alVs,Ex.wt,Ex.size,ui,uF,uf,List.getElem?_cons_zero,Option.elim_some];omega
 |var x=>simp[zad]at h
 |con c=>simp[zad]at h
 |lam x e=>simp[zad]at h
 |app a b=>simp[zad]at h
 |lt x t a b=>simp[zad]at h
 |ann e t=>simp[zad]at h
end Sx
end Go.Proofs.YtknkclefoiohpaaGreatDoor
