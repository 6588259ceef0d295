import Derived.Test.YtfafilmklhnngaaGreatDoorBkI
import Derived.IntWalk
import Derived.Laws.Rows
set_option maxHeartbeats 12800000
namespace Go.Proofs.YtfafilmklhnngaaGreatDoor
open Go.RowKit Lx
set_option maxRecDepth 100000
theorem zkh(s:ByteArray)(w:World):Calls Tryz.prog 139 #[.string s] w λe w'=>e=.returned (.func (.func 176) #[] #[.pointer (some ⟨w.heap.size+1,0,none⟩),.pointer (some ⟨w.heap.size,0,none⟩)]) /\
   w'=(w.alloc (.cells #[.string s] 9)).alloc (.cells #[.int .i64 0] 3):=by
 have iI:∀(fn:Fn) (first cap:Array Value) (w:World),(Instr.makeFunc fn first cap).run Tryz.prog w=.ok (.func fn first cap) w:=λ_ _ _ _=>rfl;go_enter Tryz.func139,Tryz.ntmps139
 go_wp2
 go_ret
 exact⟨rfl,rfl⟩
theorem zki(w:World)(ba nq:Nat)(t3 t30:TypeId)(x u v0 v1 v2 z0 z1 z2:Value)(ha:w.heap[ba]?=some (.cells #[x] t3 (0,0))):(((((((w.alloc (.cells #[z0,z1,z2] t30)).drewN nq).setCell ⟨ba,0,none⟩ u).setCell ⟨w.heap.size,0,none⟩ v0).setCell ⟨w.heap.size,1,none⟩ v1).setCell ⟨w.heap.size,2,none⟩ v2).heap[w.heap.size]?=some (.cells #[v0,v1,v2] t30 (0,0))) /\
  (((((((w.alloc (.cells #[z0,z1,z2] t30)).drewN nq).setCell ⟨ba,0,none⟩ u).setCell ⟨w.heap.size,0,none⟩ v0).setCell ⟨w.heap.size,1,none⟩ v1).setCell ⟨w.heap.size,2,none⟩ v2).heap[ba]?=some (.cells #[u] t3 (0,0))) /\
  w.grownBy ((((((w.alloc (.cells #[z0,z1,z2] t30)).drewN nq).setCell ⟨ba,0,none⟩ u).setCell ⟨w.heap.size,0,none⟩ v0).setCell ⟨w.heap.size,1,none⟩ v1).setCell ⟨w.heap.size,2,none⟩ v2) (some ba):=by
 have ah:=lt_of_block ha;have n0:((w.alloc (.cells #[z0,z1,z2] t30)).drewN nq).heap[w.heap.size]?=some (.cells #[z0,z1,z2] t30 (0,0)):=heap_alloc_new w _;have a0:((w.alloc (.cells #[z0,z1,z2] t30)).drewN nq).heap[ba]?=some (.cells #[x] t3 (0,0)):=(Below.heap_alloc w _ ba ah).trans ha;have n1:=(heap_setCell_other _ ⟨ba,0,none⟩ w.heap.size u (by simp;omega)).trans n0;have a1:=one_setCell (u:=u) a0;have n2:=heap_setCell_same _ w.heap.size 0 _ t30 v0 n1;have a2:=(heap_setCell_other _ ⟨w.heap.size,0,none⟩ ba v0 (by simp;omega)).trans a1;have n3:=heap_setCell_same _ w.heap.size 1 _ t30 v1 n2;have a3:=(heap_setCell_other _ ⟨w.heap.size,1,none⟩ ba v1 (by simp;omega)).trans a2;have n4:=heap_setCell_same _ w.heap.size 2 _ t30 v2 n3;have a4:=(heap_setCell_other _ ⟨w.heap.size,2,none⟩ ba v2 (by simp;omega)).trans a3;refine⟨n4,a4,⟨rfl,rfl,rfl,?_,?_⟩⟩
 ·simp[World.setCell]
 ·intro k hk af
  have af:k≠ba:=λe=>af (by rw[e]);rw[heap_setCell_other _ _ _ _ (by simp;omega),heap_setCell_other _ _ _ _ (by simp;omega),heap_setCell_other _ _ _ _ (by simp;omega),heap_setCell_other _ _ _ _ (by simpa using af)]
  exact Below.heap_alloc w _ k hk
theorem zm6(s:ByteArray)(i b n k ba bs:Nat)(w:World)(hs:s.size<=maxLen)(hi:i<=s.size)(du:bs<ba)
  (ha:w.heap[ba]?=some (.cells #[.int .i64 i] 3 (0,0)))(hb:w.heap[bs]?=some (.cells #[.string s] 9 (0,0)))
  (hB:btw false (s.data.toList.drop i)=b)(hN:first (s.data.toList.drop (i+b))=(k,n))(hbs:i+b<=s.size)(kN:i+b+n<=s.size):Calls Tryz.prog 176 #[.pointer (some ⟨ba,0,none⟩),.pointer (some ⟨bs,0,none⟩)] w λe w'=>e=.returned (.agg #[.int .i64 k,.string (s.extract (i+b) (i+b+n)),.int .i64 ((i:Int)+b)])/\w.grownBy w' (some ba)/\w'.heap[ba]?=some (.cells #[.int .i64 ((i:Int)+b+n)] 3 (0,0)):=by
 have ca:=cell_of_one ha;have cb:=cell_of_one hb;have bC:=lt_of_block ha;have xw:=lt_of_block hb;have fa:=free_of_one ha;have hA:=CS ha;have hBx:=CS hb;clear ha hb;have hz:=zeF s i;have PB:∀w:World,Calls Tryz.prog 177 #[.string (s.extract i s.size)] w λe w'=>e=.returned (.int .i64 b)/\w'=w:=by
  intro w;have:=zjh (s.extract i s.size) w (by omega);rw[zcE,hB]at this
  exact this.mono λe w' h=>⟨h.1,h.2.symm⟩
 clear hz;have hz:=zeF s (i+b);have PF:∀w:World,Calls Tryz.prog 178 #[.string (s.extract (i+b) s.size)] w λe w'=>e=.returned (.tuple #[.int .i64 k,.int .i64 n])/\w=w':=by
  intro w;have:=zli (s.extract (i+b) s.size) w (by omega);rw[zcE,hN]at this
  exact this
 clear hz hB hN;unfold maxLen at hs;go_enter Tryz.func176,Tryz.ntmps176
 go_wp2_with fail
 have sum1:IntKind.i64.wrap ((i:Int)+(b:Int))=(i:Int)+b:=by exact IntWalk.i64_in _ (by omega)
 go_quiet ((go_at_call 177;exact Calls.quiet_of_same (PB _)))
 clear sum1;go_wp2_with (go_at_call 178;refine(PF _).mono ?_;rintro e w' ⟨rfl,rfl⟩)
 have HW:=zki w ba nq 3 176 _ (.int .i64 ((i:Int)+b+n)) (.int .i64 k) (.string (s.extract (i+b) (i+b+n))) (.int .i64 ((i:Int)+b)) (.int .i64 0) (.string ⟨#[]⟩) (.int .i64 0) hA.out;exact bodyPost_ret (results_cell_row rfl _ _ w.heap.size 176 _ (0,0) _ rfl HW.1 Tryz.underlying176 rfl (by kernel_rfl)) rfl ⟨rfl,HW.2.2,HW.2.1⟩
def tokV(t:Tok):List Value:=[.int .i64 t.kind,.string ⟨t.text.toArray⟩,.int .i64 t.at_]
def zbf(ts:List Tok):List Value:=ts.flatMap tokV
theorem zfT(ts:List Tok)(t:Tok):zbf (ts++[t])=zbf ts++tokV t:=by
 simp[zbf]
def zbk(l:List UInt8):List Tok × Nat × Nat :=
 if 4000<l.length then([],0,2) else match lex l with
 |.ok ts=>(ts,0,0)
 |.error a=>([],a,10)
def Step(s:ByteArray)(i p q k:Nat):Prop:=i<=p/\p<=q/\q<=s.size/\p=i+btw false (s.data.toList.drop i)/\first (s.data.toList.drop p)=(k,q-p)
theorem zgB(s:ByteArray)(i:Nat)(hi:i<=s.size):∃p q k,Step s i p q k:=by
 have h1:=zlj false (s.data.toList.drop i);have h2:=zh1 (s.data.toList.drop (i+btw false (s.data.toList.drop i)));have hz:=Lib.size_eq s;rw[Bk]at h1 h2
 refine⟨_,i+btw false (s.data.toList.drop i)+(first (s.data.toList.drop (i+btw false (s.data.toList.drop i)))).2,(first (s.data.toList.drop (i+btw false (s.data.toList.drop i)))).1,by omega,by omega,by omega,rfl,?_⟩;rw[Br]
def Known(s:ByteArray)(i:Nat)(ts:List Tok):Prop:=lex s.data.toList=(sc i (s.data.toList.drop i)).map (ts++·)/\ts.length<=i
theorem zfo(s:ByteArray):Known s 0 []:=by
 refine⟨?_,Ai _⟩;rw[zh2,BM]
 cases sc 0 s.data.toList <;> rfl
theorem zfU(s:ByteArray)(i p q k:Nat)(ts:List Tok)(hk:Known s i ts)(aI:Step s i p q k)(h:¬p<s.size):lex s.data.toList=.ok ts:=by
 obtain⟨_,_,_,h4,_⟩:=aI;have hz:=Lib.size_eq s;rw[hk.1,zb4,Aq]
 ·show Except.ok (ts++[])=_
  rw[AU]
 ·rw[Cf,<-h4,AP (by omega)]
theorem zjJ(s:ByteArray)(p:Nat)(h:p<s.size):s.data.toList.drop p≠[]:=by
 rw[drop_at s p h];simp
theorem zg2(s:ByteArray)(i p q:Nat)(ts:List Tok)(hk:Known s i ts)(aI:Step s i p q 0)(h:p<s.size):lex s.data.toList=.error p:=by
 obtain⟨_,_,_,h4,h5⟩:=aI;rw[hk.1,zb4,Cf,<-h4,Am (zjJ s p h),h5,Aq rfl]
 rfl
theorem zfV(s:ByteArray)(i p q k:Nat)(ts:List Tok)(hk:Known s i ts)(aI:Step s i p q k)(h:p<s.size)(h0:k≠0):i<q/\Known s q (ts++[⟨k,(s.data.toList.drop p).take (q-p),p⟩]):=by
 obtain⟨h1,h2,h3,h4,h5⟩:=aI;have hp:=zbM (s.data.toList.drop p) (by rw[h5];exact h0);rw[h5]at hp
 have hq:i<q:=by omega
 refine⟨hq,?_,by have:=hk.2;simp;omega⟩;rw[hk.1,zb4 i,Cf,<-h4,Am (zjJ s p h),h5,Am h0,Cf,show p+(q-p)=q by omega]
 cases sc q (s.data.toList.drop q) with
 |error a=>rfl
 |ok us=>show Except.ok _=Except.ok _;simp
theorem zeJ(s:ByteArray)(p q k:Nat):tokV ⟨k,(s.data.toList.drop p).take (q-p),p⟩=[.int .i64 k,.string (s.extract p q),.int .i64 p]:=by
 unfold tokV;rw[Lib.extract_eq]
theorem zg3(s:ByteArray)(i p q k ba bs:Nat)(w:World)(hs:s.size<=maxLen)(aI:Step s i p q k)(du:bs<ba)
  (ha:w.heap[ba]?=some (.cells #[.int .i64 i] 3 (0,0)))(hb:w.heap[bs]?=some (.cells #[.string s] 9 (0,0))):Calls Tryz.prog 176 #[.pointer (some ⟨ba,0,none⟩),.pointer (some ⟨bs,0,none⟩)] w λe w'=>e=.returned (.agg #[.int .i64 k,.string (s.extract p q),.int .i64 p])/\w.grownBy w' (some ba)/\w'.heap[ba]?=some (.cells #[.int .i64 q] 3 (0,0)):=by
 obtain⟨h1,h2,h3,h4,h5⟩:=aI;obtain⟨b,rfl⟩:∃b,p=i+b:=⟨p-i,by omega⟩;obtain⟨n,rfl⟩:∃n,q=i+b+n:=⟨q-(i+b),by omega⟩;rw[Br]at h5
 refine(zm6 s i b n k ba bs w hs (by omega) du ha hb (by omega) h5 (by omega) h3).mono ?_;rintro e w' ⟨rfl,hg,hh⟩;refine⟨by simp,hg,?_⟩;rw[hh]
 simp
def Blk(w:World)(g:Nat)(t:TypeId)(cs:Array Value):Prop:=w.heap[g]?=some (.cells cs t (0,0))
section
variable {w w':World} {g:Nat} {t:TypeId} {cs:Array Value}
theorem Blk.lt(h:Blk w g t cs):g<w.heap.size:=lt_of_block h
theorem Blk.cell(h:Blk w g t cs)(i:Nat):w.cell? ⟨g,i,none⟩=cs[i]?:=cell_of_row w g i cs t (0,0) h
theorem Blk.frozen(h:Blk w g t cs)(i:Nat):w.frozen? ⟨g,i,none⟩=false:=frozen_of_row w g i cs t h
theorem Blk.alloc(h:Blk w g t cs)(o:Obj):Blk (w.alloc o) g t cs:=(Below.heap_alloc w o g h.lt).trans h
theorem Blk.drew(h:Blk w g t cs):Blk w.drew g t cs:=h
theorem Blk.drewN(h:Blk w g t cs)(n:Nat):Blk (w.drewN n) g t cs:=h
theorem Blk.far(h:Blk w g t cs) {p:Addr}(hp:g≠p.block)(u:Value):Blk (w.setCell p u) g t cs:=(Below.heap_setCell w p u g hp).trans h
theorem Blk.grown {row:Option Nat}(h:Blk w g t cs)(hb:w.grownBy w' row)(hg:some g≠row):Blk w' g t cs:=(hb.block g h.lt hg).trans h
theorem Blk.below {B:Nat}(h:Blk w g t cs)(hb:Below B w w')(hg:g<B):Blk w' g t cs:=(hb.block g hg).trans h
theorem Blk.ne_ {g':Nat} {t':TypeId} {cs':Array Value}(h:Blk w g t cs)(h':Blk w g' t' cs')(af:t≠t'):g≠g':=by
 rintro rfl;unfold Blk at h h';rw[h]at h'
 injection h' with h';injection h' with _ ht;exact af ht
theorem zd6 {base:Nat} {e:TypeId} {size n:Nat} {v:Value} {xs:List Value}(h:w.ownsRow base e size v n xs)(hg:Blk w g t cs)(af:e≠t):some g≠v.ownBlock:=by
 rcases h.2 with⟨rfl,_⟩|⟨g',cap,cur,rfl,_,hh,_⟩
 ·simp[Value.ownBlock]
 ·intro he
  have:g=g':=by simpa[Value.ownBlock] using he
  subst this;exact Blk.ne_ (t:=e) hh hg af rfl
end
end Go.Proofs.YtfafilmklhnngaaGreatDoor
namespace Go.Proofs.YtfafilmklhnngaaGreatDoor
namespace Lx
theorem zh3(p:UInt8->Bool)(l:List UInt8)(h:∀c∈l,p c=true):span p l=l.length:=by
 induction l with
 |nil=>rfl
 |cons c r ih =>
  rw[span,Aq (h c Ay),ih (λd hd=>h d (Ar _ hd))]
  rfl
theorem zlm(c:UInt8)(h:isLet c=true):(65<=c.toNat/\c.toNat<=90)\/(97<=c.toNat/\c.toNat<=122):=by
 simp[isLet,isUp]at h
 omega
theorem zln(c:UInt8)(h:isDig c=true):48<=c.toNat/\c.toNat<=57:=by
 simp[isDig]at h
 omega
end Lx
namespace Tx
open Lx
inductive Ty where
 |var (x:List UInt8)
 |mt (n:Nat)
 |con (c:List UInt8) (args:List Ty)
 |fn (a b:Ty)
 |all (x:List UInt8) (t:Ty)
def isKey(t:Tok)(s:List UInt8):Bool:=t.kind==3&&t.text==s
def isSign(t:Tok)(s:List UInt8):Bool:=t.kind==6&&t.text==s
def wForall:List UInt8:=[102,111,114,97,108,108]
def atomic(t:Tok):Bool:=t.kind==1||t.kind==5||t.kind==2||t.text==[40]
def vars:List Tok->List (List UInt8) × List Tok
 |[]=>([],[])
 |t::r=>if t.kind=1 then(t.text::(vars r).1,(vars r).2) else([],t::r)
def numOf(l:List UInt8):Nat:=l.foldl (λn c=>10*n+(c.toNat-48)) 0
def alls(xs:List (List UInt8))(t:Ty):Ty:=xs.foldr Ty.all t
def eat(p:Tok->Bool):List Tok->Option (List Tok)
 |[]=>none
 |t::r=>if p t then some r else none
mutual
def read:Nat->List Tok->Option (Ty × List Tok)
 |0,_=>none
 |f+1,l =>
  match eat (isKey · wForall) l with
  |some r =>
   if(vars r).1=[] then none
   else match eat (isSign · [46]) (vars r).2 with
    |none=>none
    |some r2=>(read f r2).map λx=>(alls (vars r).1 x.1,x.2)
  |none =>
   match app f l with
   |none=>none
   |some (a,r) =>
    match eat (isSign · [45,62]) r with
    |none=>some (a,r)
    |some r2=>(read f r2).map λx=>(.fn a x.1,x.2)
def app:Nat->List Tok->Option (Ty × List Tok)
 |0,_=>none
 |f+1,l =>
  match l with
  |[]=>none
  |t::r=>if t.kind=2 then(args f r).map λx=>(.con t.text x.1,x.2) else atom f (t::r)
def args:Nat->List Tok->Option (List Ty × List Tok)
 |0,_=>none
 |f+1,l =>
  match l with
  |[]=>some ([],[])
  |t::r =>
   if atomic t then
    match atom f (t::r) with
    |none=>none
    |some (x,r2)=>(args f r2).map λy=>(x::y.1,y.2)
   else some ([],t::r)
def atom:Nat->List Tok->Option (Ty × List Tok)
 |0,_=>none
 |f+1,l =>
  match l with
  |[]=>none
  |t::r =>
   if t.kind=1 then some (.var t.text,r)
   else if t.kind=2 then some (.con t.text [],r)
   else if t.kind=5 then some (.mt (numOf (t.text.drop 1)),r)
   else if t.text=[40] then
    match read f r with
    |none=>none
    |some (x,r2)=>(eat (isSign · [41]) r2).map λr3=>(x,r3)
   else none
end
def enough(l:List Tok):Nat:=4*l.length+4
mutual
def Ty.depth:Ty->Nat
 |.var _=>1
 |.mt _=>1
 |.con _ l=>za8 l+1
 |.fn a b=>max a.depth b.depth+1
 |.all _ t=>t.depth+1
def za8:List Ty->Nat
 |[]=>0
 |t::r=>max t.depth (za8 r)
end
def parse(s:List UInt8):Except Nat Ty :=
 match zbk s with
 |(ts,_,0) =>
  match read (enough ts) ts with
  |some (t,[])=>if 50<t.depth then .error 3 else .ok t
  |_=>.error 20
 |(_,_,e)=>.error e
def digit(n:Nat):UInt8:=(48+n % 10).toUInt8
def decF:Nat->Nat->List UInt8
 |0,_=>[]
 |f+1,n=>if n<10 then[digit n] else decF f (n / 10)++[digit n]
def dec(n:Nat):List UInt8:=decF 20 n
def Ty.isFA:Ty->Bool
 |.fn _ _=>true
 |.all _ _=>true
 |_=>false
def Ty.big:Ty->Bool
 |.fn _ _=>true
 |.all _ _=>true
 |.con _ (_::_)=>true
 |_=>false
mutual
def Ty.print:Ty->List UInt8
 |.var x=>x
 |.mt n=>63::dec n
 |.con c l=>c++zaG l
 |.fn a b=>(if a.isFA then 40::(a.print++[41]) else a.print)++[32,45,62,32]++b.print
 |.all x t=>wForall++32::x++za2 t
def zaG:List Ty->List UInt8
 |[]=>[]
 |t::r=>(if t.big then 32::40::(t.print++[41]) else 32::t.print)++zaG r
def za2:Ty->List UInt8
 |.all y t=>32::y++za2 t
 |.var x=>[46,32]++x
 |.mt n=>[46,32]++(63::dec n)
 |.con c l=>[46,32]++(c++zaG l)
 |.fn a b=>[46,32]++((if a.isFA then 40::(a.print++[41]) else a.print)++[32,45,62,32]++b.print)
end
theorem zcW(y:List UInt8)(t:Ty):za2 (.all y t)=32::y++za2 t:=by rw[za2]
theorem zbQ(t:Ty)(h:∀y u,t≠.all y u):za2 t=[46,32]++t.print:=by
 cases t with
 |all y u=>exact absurd rfl (h y u)
 |var x=>rw[za2,Ty.print]
 |mt n=>rw[za2,Ty.print]
 |con c l=>rw[za2,Ty.print]
 |fn a b=>rw[za2,Ty.print]
def addN {α:Type} [DecidableEq α](x:α)(l:List α):List α:=if x∈l then l else l++[x]
mutual
def Ty.freeO(bound:List (List UInt8)):Ty->List (List UInt8)->List (List UInt8)
 |.var x,out=>if x∈bound then out else addN x out
 |.mt _,out=>out
 |.con _ l,out=>zcL bound l out
 |.fn a b,out=>b.freeO bound (a.freeO bound out)
 |.all x t,out=>t.freeO (bound++[x]) out
def zcL(bound:List (List UInt8)):List Ty->List (List UInt8)->List (List UInt8)
 |[],out=>out
 |t::r,out=>zcL bound r (t.freeO bound out)
end
def Ty.free(t:Ty):List (List UInt8):=t.freeO [] []
mutual
def Ty.metasO:Ty->List Nat->List Nat
 |.var _,out=>out
 |.mt n,out=>addN n out
 |.con _ l,out=>zb9 l out
 |.fn a b,out=>b.metasO (a.metasO out)
 |.all _ t,out=>t.metasO out
def zb9:List Ty->List Nat->List Nat
 |[],out=>out
 |t::r,out=>zb9 r (t.metasO out)
end
def Ty.metas(t:Ty):List Nat:=t.metasO []
end Tx
namespace Tx
open Lx
def K(k:Nat)(s:List UInt8):Tok:=⟨k,s,0⟩
theorem zcK(n:Nat):(digit n).toNat=48+n % 10:=by
 unfold digit;rw[Nat.toUInt8_eq,UInt8.toNat_ofNat']
 omega
theorem zgc(l:List UInt8)(c:UInt8):numOf (l++[c])=10*numOf l+(c.toNat-48):=by
 simp[numOf]
theorem zgd(f n:Nat)(h:n<10 ^ f):numOf (decF f n)=n:=by
 induction f generalizing n with
 |zero=>simp at h;subst h;rfl
 |succ f ih =>
  rw[decF]
  split
  ·show 10*0+((digit n).toNat-48)=n
   rw[zcK];omega
  ·rw[zgc,ih (n / 10) (by rw[CQ]at h;omega),zcK]
   omega
end Tx
namespace Lx
def stp(m:Bool)(c:UInt8):Bool:=if c=10 then false else if c=35 then true else m
def rm:Bool->List UInt8->Bool
 |m,[]=>m
 |m,c::r=>rm (stp m c) r
def okg:Bool->List UInt8->Prop
 |_,[]=>True
 |m,c::r=>(stp m c=true\/c=32\/c=9\/c=10)/\okg (stp m c) r
theorem zpL(m:Bool)(l:List UInt8):okg m (l.take (btw m l))/\(btw m l<l.length->rm m (l.take (btw m l))=false):=by
 induction l generalizing m with
 |nil=>simp[btw,okg]
 |cons c r ih =>
  cases m with
  |true =>
   have e:btw true (c::r)=btw (c != 10) r+1:=rfl;have hs:stp true c=(c != 10):=by
    unfold stp;by_cases h:c=10
    ·simp[h]
    ·have h2:(c != 10)=true:=by simpa using h
     rw[Am h,h2];split <;> rfl
   rw[e,AZ]
   obtain⟨h1,h2⟩:=ih (c != 10);refine⟨⟨?_,by rw[hs];exact h1⟩,λhl=>?_⟩
   ·by_cases h:c=10
    ·exact .inr (.inr (.inr h))
    ·left;rw[hs];simpa using h
   ·show rm (stp true c) _=false
    rw[hs]
    exact h2 (by simpa using hl)
  |false =>
   by_cases hb:c=32\/c=9\/c=10
   ·have e:btw false (c::r)=btw false r+1:=by rw[btw,Aq hb]
    have hs:stp false c=false:=by
     unfold stp;rcases hb with h|h|h <;> rw[h] <;> decide
    rw[e,AZ]
    obtain⟨h1,h2⟩:=ih false;refine⟨⟨.inr hb,by rw[hs];exact h1⟩,λhl=>?_⟩;show rm (stp false c) _=false;rw[hs]
    exact h2 (by simpa using hl)
   ·by_cases cU:c=35
    ·have e:btw false (c::r)=btw true r+1:=by rw[btw,Am hb,Aq cU]
     have hs:stp false c=true:=by rw[cU];decide
     rw[e,AZ]
     obtain⟨h1,h2⟩:=ih true;refine⟨⟨.inl hs,by rw[hs];exact h1⟩,λhl=>?_⟩;show rm (stp false c) _=false;rw[hs]
     exact h2 (by simpa using hl)
    ·have e:btw false (c::r)=0:=by rw[btw,Am hb,Am cU]
     rw[e]
     exact⟨trivial,λ_=>rfl⟩
def Cov(l:List UInt8):Nat->List Tok->Prop
 |f,[]=>f<=l.length/\okg false (l.drop f)
 |f,t::r=>f<=t.at_/\t.text≠[]/\t.at_+t.text.length<=l.length/\(l.drop t.at_).take t.text.length=t.text /\
   okg false ((l.drop f).take (t.at_-f))/\rm false ((l.drop f).take (t.at_-f))=false/\Cov l (t.at_+t.text.length) r
theorem zpM(L:List UInt8)(n:Nat):∀(i:Nat)(ts:List Tok),L.length-i<=n->i<=L.length->sc i (L.drop i)=.ok ts->Cov L i ts:=by
 induction n with
 |zero =>
  intro i ts hn hi h;have hl:L.drop i=[]:=AP (by omega);rw[hl,sc]at h
  injection h with h;subst h;exact⟨hi,by rw[hl];trivial⟩
 |succ n ih =>
  intro i ts hn hi h;obtain⟨bI,cC⟩:=zpL false (L.drop i);have bJ:=zlj false (L.drop i);rw[zb4,Cf]at h
  split at h
  ·rename_i h0
   injection h with h;subst h;refine⟨hi,?_⟩;have h1:=List.drop_eq_nil_iff.1 h0;rw[AK (by rw[Bk];omega)]at bI
   exact bI
  ·rename_i h0
   split at h
   ·cases h
   ·rename_i h1
    have hp:=zbM _ h1;rw[Bk]at hp bJ cC
    have ah:i+btw false (L.drop i)<L.length:=by
     rcases Ch (i+btw false (L.drop i)) L.length with h|h
     ·exact h
     ·exact absurd (AP h) h0
    rw[Cf]at h
    cases hx:sc (i+btw false (L.drop i)+(first (L.drop (i+btw false (L.drop i)))).2) (L.drop (i+btw false (L.drop i)+(first (L.drop (i+btw false (L.drop i)))).2)) with
    |error e=>rw[hx]at h;cases h
    |ok us =>
     rw[hx]at h
     have h:Except.ok (_::us)=Except.ok ts:=h;injection h with h;subst h;have hlen:((L.drop (i+btw false (L.drop i))).take (first (L.drop (i+btw false (L.drop i)))).2).length=(first (L.drop (i+btw false (L.drop i)))).2:=by
      rw[Bc,Bk];omega
     refine⟨by simp,?_,?_,?_,?_,?_,?_⟩
     ·intro e
      have e2:=Az List.length e;rw[hlen]at e2
      simp at e2;omega
     ·simp only[hlen];omega
     ·simp only[hlen]
     ·simp only[Br];exact bI
     ·simp only[Br];exact cC (by omega)
     ·simp only[hlen]
      exact ih _ us (by omega) (by omega) hx
theorem zjH(l:List UInt8)(ts:List Tok)(h:lex l=.ok ts):Cov l 0 ts :=
 zpM l l.length 0 ts (by omega) (by omega) (by rw[BM,<-zh2];exact h)
end Lx
namespace Lx
theorem zeH(p:UInt8->Bool)(l:List UInt8)(n:Nat)(h:span p l=n):span p (l.take n)=n:=by
 induction l generalizing n with
 |nil=>simp[span]at h ⊢;omega
 |cons c r ih =>
  rw[span]at h
  by_cases hp:p c=true
  ·rw[Aq hp]at h
   obtain⟨m,rfl⟩:∃m,n=m+1:=⟨n-1,by omega⟩;rw[AZ,span,Aq hp,ih m (by omega)]
  ·rw[Am hp]at h
   subst h;rfl
theorem zfn(l:List UInt8)(n:Nat)(h:number l=(4,n)):number (l.take n)=(4,n):=by
 have hb:badNum l=false:=by
  cases hx:badNum l with
  |false=>rfl
  |true=>unfold number at h;rw[Aq hx]at h;simp at h
 unfold number at h;rw[hb,Am (by simp)]at h
 have hs:span isDig l=n:=by injection h
 have hn:n≠0:=by intro e;subst e;simp[badNum,hs]at hb
 have hh:(l.take n).headD 0=l.headD 0:=by
  cases l with
  |nil=>simp
  |cons c r=>obtain⟨m,rfl⟩:∃m,n=m+1:=⟨n-1,by omega⟩;rfl
 have aT:badNum (l.take n)=badNum l:=by unfold badNum;rw[zeH _ _ _ hs,hs,hh]
 unfold number;rw[aT,hb,Am (by simp),zeH _ _ _ hs]
theorem zkg(r:List UInt8)(k n:Nat)(h:first r=(k,n))(hk:k≠0):first (r.take n)=(k,n):=by
 have hp:=zbM r (by rw[h];exact hk);rw[h]at hp
 simp only at hp;cases r with
 |nil=>simp[first]at h;omega
 |cons c r =>
  obtain⟨m,rfl⟩:∃m,n=m+1:=⟨n-1,by omega⟩;rw[AZ,first]
  rw[first]at h
  have e:c::r.take m=(c::r).take (m+1):=rfl;by_cases h1:isLet c=true
  ·rw[Aq h1]at h ⊢
   unfold word at h ⊢;by_cases hs:16<span inW (c::r)
   ·rw[Aq hs]at h;injection h with h _;omega
   ·rw[Am hs]at h
    injection h with ha hb;have ht:=zeH inW (c::r) (m+1) hb;rw[e,ht,Am (by omega),List.take_take,Nat.min_self,<-ha,hb]
  ·rw[Am h1]at h ⊢
   by_cases h2:isDig c=true
   ·rw[Aq h2]at h ⊢
    have jk:number (c::r)=(4,m+1):=by
     rcases zaB (c::r) with e|⟨e,_,_⟩
     ·rw[e]at h;injection h with h _;omega
     ·rw[e]at h ⊢;injection h with _ hb;rw[hb]
    rw[jk]at h
    rw[e,zfn _ _ jk]
    exact h
   ·rw[Am h2]at h ⊢
    by_cases h3:c=63
    ·rw[Aq h3]at h ⊢
     unfold zbj at h ⊢;rw[show(c::r).drop 1=r from rfl]at h
     rw[show(c::r.take m).drop 1=r.take m from rfl]
     by_cases h0:(number r).2=0
     ·rw[Aq h0]at h;injection h with h _;omega
     ·rw[Am h0]at h
      injection h with ha hb;have hm:(number r).2=m:=by omega
      have jk:number r=(4,m):=by
       rcases zaB r with e|⟨e,_,_⟩
       ·rw[e]at h0;exact absurd rfl h0
       ·rw[e]at hm ⊢;rw[<-hm]
      rw[zfn _ _ jk,Am (by rw[<-hm];exact h0),<-ha]
      simp;omega
    ·rw[Am h3]at h ⊢
     unfold sign at h ⊢;by_cases hpre:(pre [45,62] (c::r)||pre [124,62] (c::r))=true
     ·rw[Aq hpre]at h
      injection h with ha hb;obtain rfl:m=1:=by omega
      have hq:(pre [45,62] (c::r.take 1)||pre [124,62] (c::r.take 1))=true:=by
       cases r with
       |nil=>simp[pre,List.isPrefixOf]at hpre
       |cons x r=>simpa[pre,List.isPrefixOf] using hpre
      rw[Aq hq,<-ha]
     ·rw[Am hpre]at h
      by_cases hs:(c::r).headD 0∈signs
      ·rw[Aq hs]at h
       injection h with ha hb;obtain rfl:m=0:=by omega
       rw[Ba,Am (by simp[pre,List.isPrefixOf]),Aq (by simpa using hs),<-ha]
      ·rw[Am hs]at h;injection h with h _;omega
def Good(t:Tok):Prop:=t.text≠[]/\first t.text=(t.kind,t.text.length)/\t.kind≠0
theorem zoS(n:Nat):∀(i:Nat)(l:List UInt8)(ts:List Tok),l.length<=n->sc i l=.ok ts->∀t∈ts,Good t:=by
 induction n with
 |zero =>
  intro i l ts hn h t ht;have:l=[]:=AD (by omega);subst this;injection h with h;subst h;cases ht
 |succ n ih =>
  intro i l ts hn h t ht;rw[zb4]at h
  split at h
  ·injection h with h;subst h;cases ht
  ·rename_i h0
   split at h
   ·cases h
   ·rename_i h1
    have hp:=zbM _ h1;cases hx:sc (i+btw false l+(first (l.drop (btw false l))).2) ((l.drop (btw false l)).drop (first (l.drop (btw false l))).2) with
    |error e=>rw[hx]at h;cases h
    |ok us =>
     rw[hx]at h
     have h:Except.ok (_::us)=Except.ok ts:=h;injection h with h;subst h;rcases An.1 ht with rfl|ht
     ·have hlen:((l.drop (btw false l)).take (first (l.drop (btw false l))).2).length=(first (l.drop (btw false l))).2:=by
       rw[Bc];omega
      refine⟨?_,?_,h1⟩
      ·intro e
       have e2:=Az List.length e;rw[hlen]at e2
       simp at e2;omega
      ·simp only[hlen]
       exact zkg _ _ _ rfl h1
     ·exact ih _ _ us (by simp only[Bk]at hp ⊢;omega) hx t ht
theorem zh0(l:List UInt8)(ts:List Tok)(h:lex l=.ok ts):∀t∈ts,Good t:=zoS l.length 0 l ts (Ai _) (by rw[<-zh2];exact h)
end Lx
namespace Tx
open Lx
def Gd(k:Nat)(s:List UInt8):Prop:=s≠[]/\first s=(k,s.length)/\k≠0
inductive Nm:Ty->Prop
 |var (x):Gd 1 x->Nm (.var x)
 |mt (n):n<=999999->Nm (.mt n)
 |con (c l):Gd 2 c->(∀t∈l,Nm t)->Nm (.con c l)
 |fn (a b):Nm a->Nm b->Nm (.fn a b)
 |all (x t):Gd 1 x->Nm t->Nm (.all x t)
theorem zfx(n:Nat):isDig (digit n)=true:=by
 have:=zcK n;simp[isDig]
 omega
theorem ziL(f n:Nat):∀d∈decF f n,isDig d=true:=by
 induction f generalizing n with
 |zero=>intro d h;simp[decF]at h
 |succ f ih =>
  intro d h;rw[decF]at h
  split at h
  ·simp at h;subst h;exact zfx n
  ·rw[AA]at h
   rcases h with h|h
   ·exact ih _ d h
   ·simp at h;subst h;exact zfx n
theorem zdj(f g n:Nat)(hg:n<10 ^ g)(h1:1<=g):(decF f n).length<=g:=by
 induction f generalizing n g with
 |zero=>simp[decF]
 |succ f ih =>
  rw[decF]
  split
  ·simpa using h1
  ·rename_i hn
   obtain⟨g,rfl⟩:∃k,g=k+1:=⟨g-1,by omega⟩;have uY:1<=g:=by
    rcases Nat.eq_zero_or_pos g with e|e
    ·subst e;simp at hg;omega
    ·exact e
   have:=ih g (n / 10) (by rw[CQ]at hg;omega) uY;simp;omega
end Tx
namespace Tx
open Lx
mutual
def Ty.size:Ty->Nat
 |.var _=>1
 |.mt _=>1
 |.con _ l=>zaf l+1
 |.fn a b=>a.size+b.size+1
 |.all _ t=>t.size+1
def zaf:List Ty->Nat
 |[]=>0
 |t::r=>t.size+zaf r
end
def AllG(l:List Tok):Prop:=∀t∈l,Lx.Good t
theorem AllG.tail {t:Tok} {l:List Tok}(h:AllG (t::l)):AllG l:=λx hx=>h x (Ar _ hx)
theorem AllG.head {t:Tok} {l:List Tok}(h:AllG (t::l)):Lx.Good t:=h t Ay
theorem zem(p:Tok->Bool)(l r:List Tok)(h:eat p l=some r):∃t,l=t::r/\p t=true:=by
 cases l with
 |nil=>simp[eat]at h
 |cons t l =>
  rw[eat]at h
  split at h
  ·rename_i hp
   injection h with h;exact⟨t,by rw[h],hp⟩
  ·cases h
theorem zmm(l:List Tok)(h:AllG l):(∀x∈(vars l).1,Gd 1 x)/\AllG (vars l).2/\(vars l).1.length+(vars l).2.length=l.length:=by
 induction l with
 |nil=>exact⟨λx hx=>by simp[vars]at hx,λx hx=>by simp[vars]at hx,rfl⟩
 |cons t r ih =>
  obtain⟨i1,i2,i3⟩:=ih h.tail;rw[vars]
  by_cases hk:t.kind=1
  ·rw[Aq hk]
   refine⟨λx hx=>?_,i2,by simp;omega⟩;rcases An.1 hx with rfl|hx
   ·have:=h.head
    rw[Lx.Good,hk]at this
    exact⟨this.1,this.2.1,by omega⟩
   ·exact i1 x hx
  ·rw[Am hk]
   exact⟨λx hx=>by simp at hx,h,by simp⟩
theorem ziK(l:List UInt8)(h:∀d∈l,isDig d=true):numOf l<10 ^ l.length:=by
 have key:∀(l:List UInt8) (a:Nat),(∀d∈l,isDig d=true)->l.foldl (λn c=>10*n+(c.toNat-48)) a<(a+1)*10 ^ l.length:=by
  intro l;induction l with
  |nil=>intro a _;simp
  |cons c r ih =>
   intro a h;have hc:=zln c (h c Ay);have:=ih (10*a+(c.toNat-48)) (λd hd=>h d (Ar _ hd));rw[CL,Ao,CQ]
   refine As this ?_;rw[Nat.mul_comm (10 ^ r.length) 10,<-Nat.mul_assoc]
   exact Nat.mul_le_mul_right _ (by omega)
 have:=key l 0 h;simpa[numOf] using this
theorem zhy(p:UInt8->Bool)(l:List UInt8)(h:span p l=l.length):∀d∈l,p d=true:=by
 induction l with
 |nil=>intro d hd;cases hd
 |cons c r ih =>
  rw[span]at h
  by_cases hp:p c=true
  ·rw[Aq hp]at h
   intro d hd;rcases An.1 hd with rfl|hd
   ·exact hp
   ·exact ih (by simpa using h) d hd
  ·rw[Am hp]at h;simp at h
theorem zn3(t:Tok)(h:Lx.Good t)(hk:t.kind=5):numOf (t.text.drop 1)<=999999:=by
 obtain⟨h1,h2,_⟩:=h;rw[hk]at h2
 cases hx:t.text with
 |nil=>exact absurd hx h1
 |cons c r =>
  rw[hx]at h2
  show numOf r<=999999;rw[first]at h2
  split at h2
  ·exfalso
   unfold word at h2;split at h2
   ·injection h2 with a _;omega
   ·injection h2 with a _
    unfold wordKind at a;split at a
    ·omega
    ·split at a <;> omega
  ·split at h2
   ·exfalso
    rcases zaB (c::r) with e|⟨e,_,_⟩ <;> rw[e]at h2 <;> injection h2 with a _ <;> omega
   ·split at h2
    ·unfold zbj at h2
     split at h2
     ·injection h2 with a _;omega
     ·rename_i hn
      injection h2 with _ b;rw[show(c::r).drop 1=r from rfl]at b hn
      rcases zaB r with e|⟨e,_,h6⟩
      ·rw[e]at hn;exact absurd rfl hn
      ·rw[e]at b
       simp at b;have hs:span isDig r=r.length:=by omega
       have:=ziK r (zhy isDig r hs);have:(10:Nat) ^ r.length<=10 ^ 6:=Nat.pow_le_pow_right (by omega) (by omega);omega
    ·exfalso
     unfold sign at h2;split at h2
     ·injection h2 with a _;omega
     ·split at h2
      ·injection h2 with a _;omega
      ·injection h2 with a _;omega
theorem zps(xs:List (List UInt8))(t:Ty)(hx:∀x∈xs,Gd 1 x)(ht:Nm t):Nm (alls xs t):=by
 induction xs with
 |nil=>exact ht
 |cons x xs ih=>exact .all x _ (hx x Ay) (ih λy hy=>hx y (Ar _ hy))
theorem zmn(xs:List (List UInt8))(t:Ty):(alls xs t).size=xs.length+t.size:=by
 induction xs with
 |nil=>simp[alls]
 |cons x xs ih =>
  show(Ty.all x (alls xs t)).size=_;rw[Ty.size,ih,Ao];omega
theorem zdY(f:Nat):(∀l t r,AllG l->read f l=some (t,r)->Nm t/\AllG r/\t.size+r.length<=l.length) /\
  (∀l t r,AllG l->app f l=some (t,r)->Nm t/\AllG r/\t.size+r.length<=l.length) /\
  (∀l ts r,AllG l->args f l=some (ts,r)->(∀t∈ts,Nm t)/\AllG r/\zaf ts+r.length<=l.length) /\
  (∀l t r,AllG l->atom f l=some (t,r)->Nm t/\AllG r/\t.size+r.length<=l.length):=by
 induction f with
 |zero=>exact⟨(λ_ _ _ _ h=>by simp[read]at h),(λ_ _ _ _ h=>by simp[app]at h),(λ_ _ _ _ h=>by simp[args]at h),(λ_ _ _ _ h=>by simp[atom]at h)⟩
 |succ f ih =>
  obtain⟨i1,i2,i3,i4⟩:=ih;refine⟨λl t r hg h=>?_,λl t r hg h=>?_,λl ts r hg h=>?_,λl t r hg h=>?_⟩
  ·rw[read]at h
   cases he:eat (isKey · wForall) l with
   |some r1 =>
    rw[he]at h
    simp only at h;obtain⟨t0,rfl,_⟩:=zem _ _ _ he;obtain⟨v1,v2,v3⟩:=zmm r1 hg.tail;split at h
    ·cases h
    ·cases he2:eat (isSign · [46]) (vars r1).2 with
     |none=>rw[he2]at h;cases h
     |some r2 =>
      rw[he2]at h
      simp only at h;obtain⟨t1,e1,_⟩:=zem _ _ _ he2;rw[e1]at v2 v3
      cases hr:read f r2 with
      |none=>rw[hr]at h;cases h
      |some x =>
       obtain⟨u,r3⟩:=x;rw[hr]at h
       simp only[BG,Bi,Bz]at h;obtain⟨rfl,rfl⟩:=h;obtain⟨a,b,c⟩:=i1 r2 u r3 v2.tail hr;refine⟨zps _ _ v1 a,b,?_⟩;rw[zmn]
       simp only[Ao]at v3 ⊢;omega
   |none =>
    rw[he]at h
    simp only at h;cases ha:app f l with
    |none=>rw[ha]at h;cases h
    |some x =>
     obtain⟨u,r1⟩:=x;rw[ha]at h
     simp only at h;obtain⟨a,b,c⟩:=i2 l u r1 hg ha;cases he2:eat (isSign · [45,62]) r1 with
     |none =>
      rw[he2]at h
      simp only[Bi,Bz]at h;obtain⟨rfl,rfl⟩:=h;exact⟨a,b,c⟩
     |some r2 =>
      rw[he2]at h
      simp only at h;obtain⟨t1,rfl,_⟩:=zem _ _ _ he2;cases hr:read f r2 with
      |none=>rw[hr]at h;cases h
      |some x =>
       obtain⟨v,r3⟩:=x;rw[hr]at h
       simp only[BG,Bi,Bz]at h;obtain⟨rfl,rfl⟩:=h;obtain⟨a2,b2,c2⟩:=i1 r2 v r3 b.tail hr;refine⟨.fn _ _ a a2,b2,?_⟩;rw[Ty.size]
       simp only[Ao]at c;omega
  ·cases l with
   |nil=>rw[app]at h;cases h
   |cons t0 l =>
    rw[app]at h
    split at h
    ·rename_i hk
     cases ha:args f l with
     |none=>rw[ha]at h;cases h
     |some x =>
      obtain⟨us,r1⟩:=x;rw[ha]at h
      simp only[BG,Bi,Bz]at h;obtain⟨rfl,rfl⟩:=h;obtain⟨a,b,c⟩:=i3 l us r1 hg.tail ha;have kZ:=hg.head;rw[Lx.Good,hk]at kZ
      refine⟨.con _ _ ⟨kZ.1,kZ.2.1,by omega⟩ a,b,?_⟩;rw[Ty.size]
      simp only[Ao];omega
    ·exact i4 _ _ _ hg h
  ·cases l with
   |nil =>
    rw[args]at h
    simp only[Bi,Bz]at h;obtain⟨rfl,rfl⟩:=h;exact⟨(λt ht=>by cases ht),hg,by simp[zaf]⟩
   |cons t0 l =>
    rw[args]at h
    split at h
    ·cases ha:atom f (t0::l) with
     |none=>rw[ha]at h;cases h
     |some x =>
      obtain⟨u,r1⟩:=x;rw[ha]at h
      simp only at h;obtain⟨a,b,c⟩:=i4 _ u r1 hg ha;cases hb:args f r1 with
      |none=>rw[hb]at h;cases h
      |some y =>
       obtain⟨us,r2⟩:=y;rw[hb]at h
       simp only[BG,Bi,Bz]at h;obtain⟨rfl,rfl⟩:=h;obtain⟨a2,b2,c2⟩:=i3 _ us r2 b hb;refine⟨λt ht=>?_,b2,?_⟩
       ·rcases An.1 ht with rfl|ht
        ·exact a
        ·exact a2 t ht
       ·rw[zaf];omega
    ·simp only[Bi,Bz]at h
     obtain⟨rfl,rfl⟩:=h;exact⟨(λt ht=>by cases ht),hg,by simp[zaf]⟩
  ·cases l with
   |nil=>rw[atom]at h;cases h
   |cons t0 l =>
    rw[atom]at h
    have kZ:=hg.head;split at h
    ·rename_i hk
     simp only[Bi,Bz]at h;obtain⟨rfl,rfl⟩:=h;rw[Lx.Good,hk]at kZ
     exact⟨.var _ ⟨kZ.1,kZ.2.1,by omega⟩,hg.tail,by rw[Ty.size];simp;omega⟩
    ·split at h
     ·rename_i hk
      simp only[Bi,Bz]at h;obtain⟨rfl,rfl⟩:=h;rw[Lx.Good,hk]at kZ
      exact⟨.con _ _ ⟨kZ.1,kZ.2.1,by omega⟩ (λt ht=>by cases ht),hg.tail,by rw[Ty.size,zaf];simp;omega⟩
     ·split at h
      ·rename_i hk
       simp only[Bi,Bz]at h;obtain⟨rfl,rfl⟩:=h;exact⟨.mt _ (zn3 t0 kZ hk),hg.tail,by rw[Ty.size];simp;omega⟩
      ·split at h
       ·cases hr:read f l with
        |none=>rw[hr]at h;cases h
        |some x =>
         obtain⟨u,r1⟩:=x;rw[hr]at h
         simp only at h;obtain⟨a,b,c⟩:=i1 l u r1 hg.tail hr;cases he:eat (isSign · [41]) r1 with
         |none=>rw[he]at h;cases h
         |some r2 =>
          rw[he]at h
          simp only[BG,Bi,Bz]at h;obtain⟨rfl,rfl⟩:=h;obtain⟨t1,rfl,_⟩:=zem _ _ _ he;refine⟨a,b.tail,?_⟩;simp only[Ao]at c ⊢;omega
       ·cases h
theorem zen(s:List UInt8)(t:Ty)(h:parse s=.ok t):Nm t/\t.depth<=50/\t.size<=s.length/\s.length<=4000:=by
 unfold parse at h;split at h
 ·rename_i ts _ hs
  split at h
  ·rename_i u hr
   split at h
   ·cases h
   ·rename_i hd
    injection h with h;subst h;have hl:s.length<=4000:=by
     rcases Ch 4000 s.length with h4|h4
     ·unfold zbk at hs;rw[Aq h4]at hs;injection hs with _ hs;injection hs with _ hs;omega
     ·exact h4
    have hx:lex s=.ok ts:=by
     unfold zbk at hs;rw[Am (by omega)]at hs
     cases hl:lex s with
     |error a=>rw[hl]at hs;injection hs with _ hs;injection hs with _ hs;omega
     |ok us=>rw[hl]at hs;injection hs with hs _;rw[hs]
    obtain⟨a,_,c⟩:=(zdY _).1 ts _ [] (λt ht=>zh0 s ts hx t ht) hr;have hlen:ts.length<=s.length:=by
     have hc:=zjH s ts hx;have key:∀(ts:List Tok) (f:Nat),Cov s f ts->f+ts.length<=s.length:=by
      intro ts;induction ts with
      |nil=>intro f h;exact h.1
      |cons x r ih =>
       intro f h;obtain⟨h1,h2,_,_,_,_,h7⟩:=h;have:=ih _ h7;have:0<x.text.length:=List.length_pos_iff.2 h2;simp only[Ao];omega
     have:=key ts 0 hc;omega
    simp only[Be,Nat.add_zero]at c;exact⟨a,by omega,by omega,hl⟩
  ·cases h
 ·cases h
end Tx
namespace Tx
open Lx
abbrev Name:=List UInt8
inductive Dt where
 |fv (x:Name)
 |bv (i:Nat)
 |mt (n:Nat)
 |con (c:Name) (l:List Dt)
 |fn (a b:Dt)
 |all (t:Dt)
def idx(x:Name):List Name->Option Nat
 |[]=>none
 |y::r=>if x=y then some 0 else(idx x r).map (· + 1)
mutual
def db(env:List Name):Ty->Dt
 |.var x=>match idx x env with|some i=>.bv i|none=>.fv x
 |.mt n=>.mt n
 |.con c l=>.con c (dbL env l)
 |.fn a b=>.fn (db env a) (db env b)
 |.all x t=>.all (db (x::env) t)
def dbL(env:List Name):List Ty->List Dt
 |[]=>[]
 |t::r=>db env t::dbL env r
end
def nm(letter:UInt8)(k:Nat):Name:=letter::dec k
def zbs(letter:UInt8)(but:List Name):Nat->Nat->Nat
 |0,k=>k
 |f+1,k=>if nm letter k∈but then zbs letter but f (k+1) else k
def zau(letter:UInt8)(but:List Name)(k:Nat):Nat:=zbs letter but (but.length+1) k
mutual
def numb(c:UInt8)(but:List Name)(xs ys:List Name):Ty->Nat->Ty × Nat
 |.var x,k=>(match idx x xs with|some i=>.var (ys.getD i [])|none=>.var x,k)
 |.mt n,k=>(.mt n,k)
 |.con d l,k=>(.con d (zcy c but xs ys l k).1,(zcy c but xs ys l k).2)
 |.fn a b,k=>(.fn (numb c but xs ys a k).1 (numb c but xs ys b (numb c but xs ys a k).2).1,(numb c but xs ys b (numb c but xs ys a k).2).2)
 |.all x t,k=>(.all (nm c (zau c but k)) (numb c but (x::xs) (nm c (zau c but k)::ys) t (zau c but k+1)).1,(numb c but (x::xs) (nm c (zau c but k)::ys) t (zau c but k+1)).2)
def zcy(c:UInt8)(but:List Name)(xs ys:List Name):List Ty->Nat->List Ty × Nat
 |[],k=>([],k)
 |t::r,k=>((numb c but xs ys t k).1::(zcy c but xs ys r (numb c but xs ys t k).2).1,(zcy c but xs ys r (numb c but xs ys t k).2).2)
end
mutual
def zaE(c:UInt8)(but:List Name)(ys:List Name):Dt->Nat->Ty × Nat
 |.fv x,k=>(.var x,k)
 |.bv i,k=>(.var (ys.getD i []),k)
 |.mt n,k=>(.mt n,k)
 |.con d l,k=>(.con d (zbq c but ys l k).1,(zbq c but ys l k).2)
 |.fn a b,k=>(.fn (zaE c but ys a k).1 (zaE c but ys b (zaE c but ys a k).2).1,(zaE c but ys b (zaE c but ys a k).2).2)
 |.all t,k=>(.all (nm c (zau c but k)) (zaE c but (nm c (zau c but k)::ys) t (zau c but k+1)).1,(zaE c but (nm c (zau c but k)::ys) t (zau c but k+1)).2)
def zbq(c:UInt8)(but:List Name)(ys:List Name):List Dt->Nat->List Ty × Nat
 |[],k=>([],k)
 |t::r,k=>((zaE c but ys t k).1::(zbq c but ys r (zaE c but ys t k).2).1,(zbq c but ys r (zaE c but ys t k).2).2)
end
mutual
theorem zdW(c:UInt8)(but xs ys:List Name):(t:Ty)->∀k,numb c but xs ys t k=zaE c but ys (db xs t) k
 |.var x,k=>by
  rw[numb,db]
  cases idx x xs with
  |none=>rw[zaE]
  |some i=>rw[zaE]
 |.mt n,k=>by rw[numb,db,zaE]
 |.con d l,k=>by rw[numb,db,zaE,ziG c but xs ys l k]
 |.fn a b,k=>by rw[numb,db,zaE,zdW c but xs ys a k,zdW c but xs ys b]
 |.all x t,k=>by rw[numb,db,zaE,zdW c but (x::xs) _ t]
theorem ziG(c:UInt8)(but xs ys:List Name):(l:List Ty)->∀k,zcy c but xs ys l k=zbq c but ys (dbL xs l) k
 |[],k=>by rw[zcy,dbL,zbq]
 |t::r,k=>by rw[zcy,dbL,zbq,zdW c but xs ys t k,ziG c but xs ys r]
end
mutual
def zaM:Dt->List Name->List Name
 |.fv x,out=>addN x out
 |.bv _,out=>out
 |.mt _,out=>out
 |.con _ l,out=>zbS l out
 |.fn a b,out=>zaM b (zaM a out)
 |.all t,out=>zaM t out
def zbS:List Dt->List Name->List Name
 |[],out=>out
 |t::r,out=>zbS r (zaM t out)
end
mutual
def zaO:Dt->List Nat->List Nat
 |.fv _,out=>out
 |.bv _,out=>out
 |.mt n,out=>addN n out
 |.con _ l,out=>zca l out
 |.fn a b,out=>zaO b (zaO a out)
 |.all t,out=>zaO t out
def zca:List Dt->List Nat->List Nat
 |[],out=>out
 |t::r,out=>zca r (zaO t out)
end
theorem zcq(x:Name)(l:List Name):idx x l=none↔x∉l:=by
 induction l with
 |nil=>simp[idx]
 |cons y r ih =>
  rw[idx]
  by_cases h:x=y
  ·simp[h]
  ·rw[Am h,Option.map_eq_none_iff,ih]
   simp[h]
mutual
theorem zcr(env bound:List Name)(hm:∀x,x∈bound↔x∈env):(t:Ty)->∀out,t.freeO bound out=zaM (db env t) out
 |.var x,out=>by
  rw[Ty.freeO,db]
  cases h:idx x env with
  |none=>rw[Am (λe=>(zcq x env).1 h ((hm x).1 e)),zaM]
  |some i =>
   rw[Aq,zaM]
   exact(hm x).2 (Cm λhn=>by rw[(zcq x env).2 hn]at h;cases h)
 |.mt n,out=>by rw[Ty.freeO,db,zaM]
 |.con d l,out=>by rw[Ty.freeO,db,zaM,ziH env bound hm l]
 |.fn a b,out=>by rw[Ty.freeO,db,zaM,zcr env bound hm a,zcr env bound hm b]
 |.all x t,out=>by
  rw[Ty.freeO,db,zaM,zcr (x::env) (bound++[x]) (λy=>by simp[hm y];exact Or.comm) t]
theorem ziH(env bound:List Name)(hm:∀x,x∈bound↔x∈env):(l:List Ty)->∀out,zcL bound l out=zbS (dbL env l) out
 |[],out=>by rw[zcL,dbL,zbS]
 |t::r,out=>by rw[zcL,dbL,zbS,zcr env bound hm t,ziH env bound hm r]
end
mutual
theorem zdi(env:List Name):(t:Ty)->∀out,t.metasO out=zaO (db env t) out
 |.var x,out=>by
  rw[Ty.metasO,db]
  cases idx x env <;> rw[zaO]
 |.mt n,out=>by rw[Ty.metasO,db,zaO]
 |.con d l,out=>by rw[Ty.metasO,db,zaO,zhx env l]
 |.fn a b,out=>by rw[Ty.metasO,db,zaO,zdi env a,zdi env b]
 |.all x t,out=>by rw[Ty.metasO,db,zaO,zdi (x::env) t]
theorem zhx(env:List Name):(l:List Ty)->∀out,zb9 l out=zca (dbL env l) out
 |[],out=>by rw[zb9,dbL,zca]
 |t::r,out=>by rw[zb9,dbL,zca,zdi env t,zhx env r]
end
theorem zpq(j k:Nat)(hj:j<10 ^ 20)(hk:k<10 ^ 20)(h:dec j=dec k):j=k:=by
 have a:=zgd 20 j hj;have b:=zgd 20 k hk;unfold dec at h;rw[h]at a
 omega
theorem zmj(c:UInt8)(j k:Nat)(hj:j<10 ^ 20)(hk:k<10 ^ 20)(h:nm c j=nm c k):j=k:=by
 unfold nm at h;injection h with _ h;exact zpq j k hj hk h
theorem zmk {α:Type} [DecidableEq α](l m:List α)(hn:l.Nodup)(hs:∀x∈l,x∈m):l.length<=m.length:=by
 induction l generalizing m with
 |nil=>simp
 |cons x r ih =>
  have hx:=hs x Ay;have hlen:=List.length_erase_of_mem hx;have wU:0<m.length:=List.length_pos_of_mem hx;rw[A6]at hn
  have:=ih (m.erase x) hn.2 (λy hy=>by
   refine(List.mem_erase_of_ne ?_).2 (hs y (Ar _ hy));intro e;subst e;exact hn.1 hy)
  simp only[Ao];omega
theorem zn1(c:UInt8)(but:List Name)(f k:Nat):k<=zbs c but f k/\zbs c but f k<=k+f:=by
 induction f generalizing k with
 |zero=>simp[zbs]
 |succ f ih =>
  rw[zbs]
  split
  ·have:=ih (k+1);omega
  ·omega
theorem zml(c:UInt8)(but:List Name)(f k:Nat)(hb:k+f<10 ^ 20)(h:nm c (zbs c but f k)∈but):∀j,k<=j->j<k+f->nm c j∈but:=by
 induction f generalizing k with
 |zero=>intro j h1 h2;omega
 |succ f ih =>
  rw[zbs]at h
  split at h
  ·rename_i hm
   intro j h1 h2;by_cases e:j=k
   ·subst e;exact hm
   ·exact ih (k+1) (by omega) h j (by omega) (by omega)
  ·rename_i hm;exact absurd h hm
theorem zbl(c:UInt8)(but:List Name)(k:Nat)(hb:k+but.length+1<10 ^ 20):nm c (zau c but k)∉but/\k<=zau c but k/\zau c but k<=k+but.length:=by
 have hge:=zn1 c but (but.length+1) k;have key:∀(f:Nat),k+f<10 ^ 20->(∀j,k<=j->j<k+f->nm c j∈but)->f<=but.length:=by
  intro f hf aL;have hn:((List.range f).map λj=>nm c (k+j)).Nodup:=by
   rw[List.nodup_iff_pairwise_ne,List.pairwise_map]
   refine List.Pairwise.imp_of_mem ?_ List.pairwise_lt_range;intro a b ha hb du e;have ha:=List.mem_range.1 ha;have hb:=List.mem_range.1 hb;have:=zmj c _ _ (by omega) (by omega) e;omega
  have:=zmk _ but hn (λx hx=>by
   obtain⟨j,hj,rfl⟩:=AM.1 hx;have hj:=List.mem_range.1 hj;exact aL _ (by omega) (by omega))
  simpa using this
 have pG:nm c (zau c but k)∉but:=by
  intro h;have:=key (but.length+1) (by omega) (zml c but _ k (by omega) h);omega
 refine⟨pG,hge.1,?_⟩;rcases Ch (k+but.length) (zau c but k) with h|h
 ·exfalso
  have hk:zau c but k=k+but.length+1:=by unfold zau at h ⊢;omega
  have aL:∀j,k<=j->j<k+(but.length+1)->nm c j∈but:=by
   have step:∀(f k:Nat),zbs c but f k=k+f->∀j,k<=j->j<k+f->nm c j∈but:=by
    intro f;induction f with
    |zero=>intro k _ j h1 h2;omega
    |succ f ih =>
     intro k h j h1 h2;rw[zbs]at h
     split at h
     ·rename_i hm
      by_cases e:j=k
      ·subst e;exact hm
      ·exact ih (k+1) (by omega) j (by omega) (by omega)
     ·omega
   exact step _ k (by unfold zau at hk;omega)
  have:=key (but.length+1) (by omega) aL;omega
 ·exact h
end Tx
namespace Tx
open Lx
mutual
def zao:Dt->Nat
 |.fv _=>0
 |.bv _=>0
 |.mt _=>0
 |.con _ l=>zaR l
 |.fn a b=>zao a+zao b
 |.all t=>zao t+1
def zaR:List Dt->Nat
 |[]=>0
 |t::r=>zao t+zaR r
end
mutual
def Clo:Nat->Dt->Prop
 |_,.fv _=>True
 |n,.bv i=>i<n
 |_,.mt _=>True
 |n,.con _ l=>CloL n l
 |n,.fn a b=>Clo n a/\Clo n b
 |n,.all t=>Clo (n+1) t
def CloL:Nat->List Dt->Prop
 |_,[]=>True
 |n,t::r=>Clo n t/\CloL n r
end
theorem zeW(x:Name)(l:List Name)(i:Nat)(h:idx x l=some i):i<l.length:=by
 induction l generalizing i with
 |nil=>simp[idx]at h
 |cons y r ih =>
  rw[idx]at h
  by_cases e:x=y
  ·rw[Aq e]at h;injection h with h;simp;omega
  ·rw[Am e]at h
   cases hr:idx x r with
   |none=>rw[hr]at h;cases h
   |some j=>rw[hr]at h;simp at h;have:=ih j hr;simp;omega
theorem ziD(l:List Name)(i:Nat)(h:i<l.length):l.getD i []∈l:=by
 rw[List.getD,Ak h]
 exact Bd h
mutual
theorem zeX(env:List Name):(t:Ty)->Clo env.length (db env t)
 |.var x=>by
  rw[db]
  cases h:idx x env with
  |none=>rw[Clo];trivial
  |some i=>rw[Clo];exact zeW x env i h
 |.mt n=>by rw[db,Clo];trivial
 |.con d l=>by rw[db,Clo];exact zjW env l
 |.fn a b=>by rw[db,Clo];exact⟨zeX env a,zeX env b⟩
 |.all x t=>by rw[db,Clo];exact zeX (x::env) t
theorem zjW(env:List Name):(l:List Ty)->CloL env.length (dbL env l)
 |[]=>by rw[dbL,CloL];trivial
 |t::r=>by rw[dbL,CloL];exact⟨zeX env t,zjW env r⟩
end
theorem ziE(x y:Name)(l:List Name):y∈addN x l↔y=x\/y∈l:=by
 unfold addN;split
 ·rename_i h
  constructor
  ·exact .inr
  ·rintro(rfl|h2)
   ·exact h
   ·exact h2
 ·simp;exact Or.comm
mutual
theorem zcp(c:UInt8)(but:List Name):(d:Dt)->∀ys k,k+(zao d+1)*(but.length+1)<10 ^ 20->k<=(zaE c but ys d k).2/\(zaE c but ys d k).2<=k+zao d*(but.length+1)
 |.fv _,ys,k,_=>by rw[zaE];simp[zao]
 |.bv _,ys,k,_=>by rw[zaE];simp[zao]
 |.mt _,ys,k,_=>by rw[zaE];simp[zao]
 |.con _ l,ys,k,h=>by rw[zaE,zao];rw[zao]at h;exact zhv c but l ys k h
 |.fn a b,ys,k,h=>by
  rw[zaE,zao]
  rw[zao]at h
  have e:(zao a+zao b+1)*(but.length+1)=zao a*(but.length+1)+(zao b+1)*(but.length+1):=by rw[<-AI,BH]
  have e2:(zao a+zao b)*(but.length+1)=zao a*(but.length+1)+zao b*(but.length+1):=AI ..;have e3:(zao b+1)*(but.length+1)=zao b*(but.length+1)+(but.length+1):=by rw[AI,Bb]
  have e4:(zao a+1)*(but.length+1)=zao a*(but.length+1)+(but.length+1):=by rw[AI,Bb]
  obtain⟨a1,a2⟩:=zcp c but a ys k (by omega);obtain⟨b1,b2⟩:=zcp c but b ys (zaE c but ys a k).2 (by omega);simp only;omega
 |.all t,ys,k,h=>by
  rw[zaE,zao]
  rw[zao]at h
  have e4:(zao t+1+1)*(but.length+1)=zao t*(but.length+1)+(but.length+1)+(but.length+1):=by rw[AI,AI,Bb]
  have e5:(zao t+1)*(but.length+1)=zao t*(but.length+1)+(but.length+1):=by rw[AI,Bb]
  obtain⟨_,n1,n2⟩:=zbl c but k (by omega);obtain⟨a1,a2⟩:=zcp c but t (nm c (zau c but k)::ys) (zau c but k+1) (by omega);simp only;omega
theorem zhv(c:UInt8)(but:List Name):(l:List Dt)->∀ys k,k+(zaR l+1)*(but.length+1)<10 ^ 20->k<=(zbq c but ys l k).2/\(zbq c but ys l k).2<=k+zaR l*(but.length+1)
 |[],ys,k,_=>by rw[zbq];simp[zaR]
 |t::r,ys,k,h=>by
  rw[zbq,zaR]
  rw[zaR]at h
  have e:(zao t+zaR r+1)*(but.length+1)=zao t*(but.length+1)+(zaR r+1)*(but.length+1):=by rw[<-AI,BH]
  have e2:(zao t+zaR r)*(but.length+1)=zao t*(but.length+1)+zaR r*(but.length+1):=AI ..;have e3:(zaR r+1)*(but.length+1)=zaR r*(but.length+1)+(but.length+1):=by rw[AI,Bb]
  have e4:(zao t+1)*(but.length+1)=zao t*(but.length+1)+(but.length+1):=by rw[AI,Bb]
  obtain⟨a1,a2⟩:=zcp c but t ys k (by omega);obtain⟨b1,b2⟩:=zhv c but r ys (zaE c but ys t k).2 (by omega);simp only;omega
end
def ziF(d:Dt):Ty:=(zaE 120 (zaM d []) [] d 0).1
def Ty.canonT(t:Ty):Ty:=(numb 120 t.free [] [] t 0).1
theorem znZ(t:Ty):t.canonT=ziF (db [] t):=by
 unfold Ty.canonT ziF Ty.free;rw[zdW,zcr [] [] (λ_=>Iff.rfl)]
def Small(d:Dt):Prop:=(zao d+1)*((zaM d []).length+1)<10 ^ 15
mutual
def NmD:Dt->Prop
 |.fv x=>Gd 1 x
 |.bv _=>True
 |.mt n=>n<=999999
 |.con c l=>Gd 2 c/\NmDL l
 |.fn a b=>NmD a/\NmD b
 |.all t=>NmD t
def NmDL:List Dt->Prop
 |[]=>True
 |t::r=>NmD t/\NmDL r
end
mutual
theorem zdC(env:List Name):(t:Ty)->Nm t->NmD (db env t)
 |.var x,h=>by
  cases h with
  |var _ hx =>
   rw[db]
   cases idx x env with
   |none=>rw[NmD];exact hx
   |some i=>rw[NmD];trivial
 |.mt n,h=>by cases h with|mt _ hn=>rw[db,NmD];exact hn
 |.con c l,h=>by cases h with|con _ _ hc hl=>rw[db,NmD];exact⟨hc,zmh env l hl⟩
 |.fn a b,h=>by cases h with|fn _ _ ha hb=>rw[db,NmD];exact⟨zdC env a ha,zdC env b hb⟩
 |.all x t,h=>by cases h with|all _ _ hx ht=>rw[db,NmD];exact zdC (x::env) t ht
theorem zmh(env:List Name):(l:List Ty)->(∀t∈l,Nm t)->NmDL (dbL env l)
 |[],_=>by rw[dbL,NmDL];trivial
 |t::r,h=>by rw[dbL,NmDL];exact⟨zdC env t (h t Ay),zmh env r (λu hu=>h u (Ar _ hu))⟩
end
theorem zkV(k:Nat)(h:k<10 ^ 15):Gd 1 (nm 120 k):=by
 have hl:(dec k).length<=15:=zdj 20 15 k h (by omega);have hd:∀d∈(120:UInt8)::dec k,inW d=true:=by
  intro d hd;rcases An.1 hd with rfl|hd
  ·decide
  ·simp[inW,ziL 20 k d hd]
 have hsp:=zh3 inW _ hd;refine⟨by simp[nm],?_,by omega⟩;unfold nm;rw[first,Aq (by decide),word,hsp,Am (by simp;omega),List.take_length]
 have hk:wordKind (120::dec k)=1:=by
  unfold wordKind;rw[Am (by simp[keys]),Am (by simp only[List.headD_cons];decide)]
 rw[hk]
mutual
theorem zdh(but:List Name):(d:Dt)->∀ys k,NmD d->Clo ys.length d->(∀y∈ys,Gd 1 y)->k+(zao d+1)*(but.length+1)<10 ^ 15->Nm (zaE 120 but ys d k).1
 |.fv x,ys,k,h,_,_,_=>by rw[zaE];rw[NmD]at h;exact .var x h
 |.bv i,ys,k,_,hc,hy,_=>by
  rw[zaE]
  rw[Clo]at hc
  exact .var _ (hy _ (ziD ys i hc))
 |.mt n,ys,k,h,_,_,_=>by rw[zaE];rw[NmD]at h;exact .mt n h
 |.con c l,ys,k,h,hc,hy,hb=>by
  rw[zaE]
  rw[NmD]at h
  rw[Clo]at hc
  rw[zao]at hb
  exact .con c _ h.1 (zhw but l ys k h.2 hc hy hb)
 |.fn a b,ys,k,h,hc,hy,hb=>by
  rw[zaE]
  rw[NmD]at h
  rw[Clo]at hc
  rw[zao]at hb
  have e:(zao a+zao b+1)*(but.length+1)=zao a*(but.length+1)+(zao b+1)*(but.length+1):=by rw[<-AI,BH]
  have e3:(zao b+1)*(but.length+1)=zao b*(but.length+1)+(but.length+1):=by rw[AI,Bb]
  have e4:(zao a+1)*(but.length+1)=zao a*(but.length+1)+(but.length+1):=by rw[AI,Bb]
  obtain⟨a1,a2⟩:=zcp 120 but a ys k (by omega);exact .fn _ _ (zdh but a ys k h.1 hc.1 hy (by omega)) (zdh but b ys _ h.2 hc.2 hy (by omega))
 |.all t,ys,k,h,hc,hy,hb=>by
  rw[zaE]
  rw[NmD]at h
  rw[Clo]at hc
  rw[zao]at hb
  have e4:(zao t+1+1)*(but.length+1)=zao t*(but.length+1)+(but.length+1)+(but.length+1):=by rw[AI,AI,Bb]
  have e5:(zao t+1)*(but.length+1)=zao t*(but.length+1)+(but.length+1):=by rw[AI,Bb]
  obtain⟨_,n1,n2⟩:=zbl 120 but k (by omega);have hg:=zkV (zau 120 but k) (by omega);refine .all _ _ hg (zdh but t _ _ h hc (λy ku=>?_) (by omega));rcases An.1 ku with rfl|ku
  ·exact hg
  ·exact hy y ku
theorem zhw(but:List Name):(l:List Dt)->∀ys k,NmDL l->CloL ys.length l->(∀y∈ys,Gd 1 y)->k+(zaR l+1)*(but.length+1)<10 ^ 15->∀t∈(zbq 120 but ys l k).1,Nm t
 |[],ys,k,_,_,_,_=>by rw[zbq];intro t ht;cases ht
 |t::r,ys,k,h,hc,hy,hb=>by
  rw[zbq]
  rw[NmDL]at h
  rw[CloL]at hc
  rw[zaR]at hb
  have e:(zao t+zaR r+1)*(but.length+1)=zao t*(but.length+1)+(zaR r+1)*(but.length+1):=by rw[<-AI,BH]
  have e3:(zaR r+1)*(but.length+1)=zaR r*(but.length+1)+(but.length+1):=by rw[AI,Bb]
  have e4:(zao t+1)*(but.length+1)=zao t*(but.length+1)+(but.length+1):=by rw[AI,Bb]
  obtain⟨a1,a2⟩:=zcp 120 but t ys k (by omega);intro u hu;rcases An.1 hu with rfl|hu
  ·exact zdh but t ys k h.1 hc.1 hy (by omega)
  ·exact zhw but r ys _ h.2 hc.2 hy (by omega) u hu
end
theorem zmi(d:Dt)(hn:NmD d)(hc:Clo 0 d)(hs:Small d):Nm (ziF d) :=
 zdh _ d [] 0 hn hc (λ_ h=>(AT h).elim) (by unfold Small at hs;omega)
mutual
theorem zbR(env:List Name):(t:Ty)->zao (db env t)<=t.size
 |.var x=>by rw[db];cases idx x env <;> simp[zao,Ty.size]
 |.mt n=>by rw[db];simp[zao,Ty.size]
 |.con c l=>by rw[db,zao,Ty.size];have:=zeC env l;omega
 |.fn a b=>by rw[db,zao,Ty.size];have:=zbR env a;have:=zbR env b;omega
 |.all x t=>by rw[db,zao,Ty.size];have:=zbR (x::env) t;omega
theorem zeC(env:List Name):(l:List Ty)->zaR (dbL env l)<=zaf l
 |[]=>by rw[dbL];simp[zaR,zaf]
 |t::r=>by rw[dbL,zaR,zaf];have:=zbR env t;have:=zeC env r;omega
end
theorem zfH(x:Name)(l:List Name):(addN x l).length<=l.length+1:=by
 unfold addN;split <;> simp
mutual
theorem zbu(env:List Name):(t:Ty)->∀out,(zaM (db env t) out).length<=out.length+t.size
 |.var x,out=>by
  rw[db]
  cases idx x env with
  |none=>rw[zaM,Ty.size];exact zfH x out
  |some i=>rw[zaM,Ty.size];omega
 |.mt n,out=>by rw[db,zaM];omega
 |.con c l,out=>by rw[db,zaM,Ty.size];have:=zeD env l out;omega
 |.fn a b,out=>by rw[db,zaM,Ty.size];have:=zbu env a out;have:=zbu env b (zaM (db env a) out);omega
 |.all x t,out=>by rw[db,zaM,Ty.size];have:=zbu (x::env) t out;omega
theorem zeD(env:List Name):(l:List Ty)->∀out,(zbS (dbL env l) out).length<=out.length+zaf l
 |[],out=>by rw[dbL,zbS,zaf];omega
 |t::r,out=>by rw[dbL,zbS,zaf];have:=zbu env t out;have:=zeD env r (zaM (db env t) out);omega
end
theorem zn0(t:Ty)(h:t.size<=1000000):Small (db [] t):=by
 unfold Small;have h1:=zbR [] t;have h2:=zbu [] t [];simp only[Be,Bo]at h2;have:(zao (db [] t)+1)*((zaM (db [] t) []).length+1)<=1000001*1000001:=Cx (by omega) (by omega);omega
end Tx
namespace Tx
open Lx
mutual
def repD(f:Name->Dt)(g:Nat->Dt):Dt->Dt
 |.fv x=>f x
 |.bv i=>.bv i
 |.mt n=>g n
 |.con c l=>.con c (zaU f g l)
 |.fn a b=>.fn (repD f g a) (repD f g b)
 |.all t=>.all (repD f g t)
def zaU(f:Name->Dt)(g:Nat->Dt):List Dt->List Dt
 |[]=>[]
 |t::r=>repD f g t::zaU f g r
end
mutual
def FvOcc(x:Name):Dt->Prop
 |.fv y=>x=y
 |.bv _=>False
 |.mt _=>False
 |.con _ l=>zbT x l
 |.fn a b=>FvOcc x a\/FvOcc x b
 |.all t=>FvOcc x t
def zbT(x:Name):List Dt->Prop
 |[]=>False
 |t::r=>FvOcc x t\/zbT x r
end
mutual
def MtOcc(n:Nat):Dt->Prop
 |.fv _=>False
 |.bv _=>False
 |.mt m=>n=m
 |.con _ l=>zbG n l
 |.fn a b=>MtOcc n a\/MtOcc n b
 |.all t=>MtOcc n t
def zbG(n:Nat):List Dt->Prop
 |[]=>False
 |t::r=>MtOcc n t\/zbG n r
end
mutual
theorem zcM(x:Name):(d:Dt)->∀out,x∈zaM d out↔x∈out\/FvOcc x d
 |.fv y,out=>by rw[zaM,ziE,FvOcc];exact Or.comm
 |.bv _,out=>by rw[zaM,FvOcc];simp
 |.mt _,out=>by rw[zaM,FvOcc];simp
 |.con _ l,out=>by rw[zaM,FvOcc];exact zge x l out
 |.fn a b,out=>by rw[zaM,FvOcc,zcM x b,zcM x a,or_assoc]
 |.all t,out=>by rw[zaM,FvOcc];exact zcM x t out
theorem zge(x:Name):(l:List Dt)->∀out,x∈zbS l out↔x∈out\/zbT x l
 |[],out=>by rw[zbS,zbT];simp
 |t::r,out=>by rw[zbS,zbT,zge x r,zcM x t,or_assoc]
end
theorem zn2(x y:Nat)(l:List Nat):y∈addN x l↔y=x\/y∈l:=by
 unfold addN;split
 ·rename_i h
  constructor
  ·exact .inr
  ·rintro(rfl|h2)
   ·exact h
   ·exact h2
 ·simp;exact Or.comm
mutual
theorem zbc(n:Nat):(d:Dt)->∀out,n∈zaO d out↔n∈out\/MtOcc n d
 |.fv y,out=>by rw[zaO,MtOcc];simp
 |.bv _,out=>by rw[zaO,MtOcc];simp
 |.mt m,out=>by rw[zaO,zn2,MtOcc];exact Or.comm
 |.con _ l,out=>by rw[zaO,MtOcc];exact zfw n l out
 |.fn a b,out=>by rw[zaO,MtOcc,zbc n b,zbc n a,or_assoc]
 |.all t,out=>by rw[zaO,MtOcc];exact zbc n t out
theorem zfw(n:Nat):(l:List Dt)->∀out,n∈zca l out↔n∈out\/zbG n l
 |[],out=>by rw[zca,zbG];simp
 |t::r,out=>by rw[zca,zbG,zfw n r,zbc n t,or_assoc]
end
mutual
theorem zdX(f:Name->Dt)(g:Nat->Dt):(d:Dt)->(∀x,FvOcc x d->f x=.fv x)->(∀n,MtOcc n d->g n=.mt n)->repD f g d=d
 |.fv x,hf,_=>by rw[repD];exact hf x (by rw[FvOcc])
 |.bv _,_,_=>by rw[repD]
 |.mt n,_,hg=>by rw[repD];exact hg n (by rw[MtOcc])
 |.con c l,hf,hg=>by rw[repD,ziI f g l (λx h=>hf x (by rw[FvOcc];exact h)) (λn h=>hg n (by rw[MtOcc];exact h))]
 |.fn a b,hf,hg=>by
  rw[repD,zdX f g a (λx h=>hf x (by rw[FvOcc];exact .inl h)) (λn h=>hg n (by rw[MtOcc];exact .inl h)),
   zdX f g b (λx h=>hf x (by rw[FvOcc];exact .inr h)) (λn h=>hg n (by rw[MtOcc];exact .inr h))]
 |.all t,hf,hg=>by rw[repD,zdX f g t (λx h=>hf x (by rw[FvOcc];exact h)) (λn h=>hg n (by rw[MtOcc];exact h))]
theorem ziI(f:Name->Dt)(g:Nat->Dt):(l:List Dt)->(∀x,zbT x l->f x=.fv x)->(∀n,zbG n l->g n=.mt n)->zaU f g l=l
 |[],_,_=>by rw[zaU]
 |t::r,hf,hg=>by
  rw[zaU,zdX f g t (λx h=>hf x (by rw[zbT];exact .inl h)) (λn h=>hg n (by rw[zbG];exact .inl h)),
   ziI f g r (λx h=>hf x (by rw[zbT];exact .inr h)) (λn h=>hg n (by rw[zbG];exact .inr h))]
end
mutual
theorem zcN(f f':Name->Dt)(g g':Nat->Dt):(d:Dt)->repD f g (repD f' g' d)=repD (λx=>repD f g (f' x)) (λn=>repD f g (g' n)) d
 |.fv x=>by rw[repD,repD]
 |.bv _=>by rw[repD,repD,repD]
 |.mt n=>by rw[repD,repD]
 |.con c l=>by rw[repD,repD,repD,zgf f f' g g' l]
 |.fn a b=>by rw[repD,repD,repD,zcN f f' g g' a,zcN f f' g g' b]
 |.all t=>by rw[repD,repD,repD,zcN f f' g g' t]
theorem zgf(f f':Name->Dt)(g g':Nat->Dt):(l:List Dt)->zaU f g (zaU f' g' l)=zaU (λx=>repD f g (f' x)) (λn=>repD f g (g' n)) l
 |[]=>by rw[zaU,zaU,zaU]
 |t::r=>by rw[zaU,zaU,zaU,zcN f f' g g' t,zgf f f' g g' r]
end
def sub(a:Name)(U:Dt)(x:Name):Dt:=if x=a then U else .fv x
def fil(m:Nat)(U:Dt)(n:Nat):Dt:=if n=m then U else .mt n
def filD(m:Nat)(U:Dt)(d:Dt):Dt:=repD .fv (fil m U) d
theorem zpr(x:Name)(l m:List Name)(h:x∉m):idx x (l++m)=idx x l:=by
 induction l with
 |nil=>exact(zcq x m).2 h
 |cons y r ih=>rw[AE,idx,idx,ih]
mutual
theorem zeY(env:List Name):(u:Ty)->∀loc,(∀x,FvOcc x (db loc u)->x∉env)->db (loc++env) u=db loc u
 |.var x,loc,h=>by
  rw[db,db]
  cases hi:idx x loc with
  |none =>
   have hx:x∉env:=h x (by rw[db,hi,FvOcc]);rw[zpr x loc env hx,hi]
  |some i =>
   have key:∀(l:List Name) (i:Nat),idx x l=some i->idx x (l++env)=some i:=by
    intro l;induction l with
    |nil=>intro i h;simp[idx]at h
    |cons y r ih =>
     intro i h;rw[AE,idx]
     rw[idx]at h
     by_cases e:x=y
     ·rw[Aq e]at h ⊢;exact h
     ·rw[Am e]at h ⊢
      cases hr:idx x r with
      |none=>rw[hr]at h;cases h
      |some j=>rw[hr]at h;rw[ih j hr];exact h
   rw[key loc i hi]
 |.mt n,loc,_=>by rw[db,db]
 |.con c l,loc,h=>by rw[db,db,zjX env l loc (λx hx=>h x (by rw[db,FvOcc];exact hx))]
 |.fn a b,loc,h=>by
  rw[db,db,zeY env a loc (λx hx=>h x (by rw[db,FvOcc];exact .inl hx)),zeY env b loc (λx hx=>h x (by rw[db,FvOcc];exact .inr hx))]
 |.all x t,loc,h=>by
  rw[db,db]
  have:=zeY env t (x::loc) (λy hy=>h y (by rw[db,FvOcc];exact hy));rw[AE]at this
  rw[this]
theorem zjX(env:List Name):(l:List Ty)->∀loc,(∀x,zbT x (dbL loc l)->x∉env)->dbL (loc++env) l=dbL loc l
 |[],loc,_=>by rw[dbL,dbL]
 |t::r,loc,h=>by
  rw[dbL,dbL,zeY env t loc (λx hx=>h x (by rw[dbL,zbT];exact .inl hx)),zjX env r loc (λx hx=>h x (by rw[dbL,zbT];exact .inr hx))]
end
theorem ziJ(env:List Name)(u:Ty)(h:∀x,FvOcc x (db [] u)->x∉env):db env u=db [] u:=zeY env u [] h
end Tx
end Go.Proofs.YtfafilmklhnngaaGreatDoor
namespace Go.Proofs.YtfafilmklhnngaaGreatDoor
open Go.RowKit Lx Tx
def kd:Ty->Nat
 |.var _=>1
 |.mt _=>2
 |.con _ _=>3
 |.fn _ _=>4
 |.all _ _=>5
def nmB:Ty->ByteArray
 |.var x=>⟨x.toArray⟩
 |.mt _=>⟨#[]⟩
 |.con c _=>⟨c.toArray⟩
 |.fn _ _=>⟨#[]⟩
 |.all x _=>⟨x.toArray⟩
def nn:Ty->Nat
 |.mt n=>n
 |_=>0
def kids:Ty->List Ty
 |.var _=>[]
 |.mt _=>[]
 |.con _ l=>l
 |.fn a b=>[a,b]
 |.all _ t=>[t]
def Cell4(w:World)(t:Ty)(A:Option Addr)(cap:Nat)(g o:Nat):Prop :=
 w.cell? ⟨g,o,none⟩=some (.int .i64 (kd t:Nat))/\w.cell? ⟨g,o+1,none⟩=some (.string (nmB t))/\w.cell? ⟨g,o+2,none⟩=some (.int .i64 (nn t:Nat)) /\
  w.cell? ⟨g,o+3,none⟩=some (.slice A (kids t).length cap)
mutual
def Args(S:Nat->Prop)(w:World):Ty->Option Addr->Prop
 |.var _,_=>True
 |.mt _,_=>True
 |.con _ l,A=>l≠[]->∃g,A=some ⟨g,0,none⟩/\S g/\RowT S w l g 0
 |.fn a b,A=>∃g,A=some ⟨g,0,none⟩/\S g/\(∃A1 c1,Cell4 w a A1 c1 g 0/\Args S w a A1)/\(∃A2 c2,Cell4 w b A2 c2 g 4/\Args S w b A2)
 |.all _ t,A=>∃g,A=some ⟨g,0,none⟩/\S g/\∃A1 c1,Cell4 w t A1 c1 g 0/\Args S w t A1
def RowT(S:Nat->Prop)(w:World):List Ty->Nat->Nat->Prop
 |[],_,_=>True
 |t::r,g,o=>(∃A c,Cell4 w t A c g o/\Args S w t A)/\RowT S w r g (o+4)
end
def RdV(S:Nat->Prop)(w:World)(t:Ty)(v:Value):Prop :=
 ∃A c,v=.agg #[.int .i64 (kd t:Nat),.string (nmB t),.int .i64 (nn t:Nat),.slice A (kids t).length c]/\Args S w t A
theorem zb3(S:Nat->Prop)(w:World)(t:Ty)(A:Option Addr):Args S w t A↔(kids t≠[]->∃g,A=some ⟨g,0,none⟩/\S g/\RowT S w (kids t) g 0):=by
 cases t with
 |var x=>rw[Args,kids];simp
 |mt n=>rw[Args,kids];simp
 |con c l=>rw[Args,kids]
 |fn a b =>
  rw[Args,kids]
  constructor
  ·rintro⟨g,h1,h2,h3,h4⟩ _
   exact⟨g,h1,h2,by rw[RowT,RowT,RowT];exact⟨h3,h4,trivial⟩⟩
  ·intro h
   obtain⟨g,h1,h2,h3⟩:=h (by simp);rw[RowT,RowT,RowT]at h3
   exact⟨g,h1,h2,h3.1,h3.2.1⟩
 |all x t =>
  rw[Args,kids]
  constructor
  ·rintro⟨g,h1,h2,h3⟩ _
   exact⟨g,h1,h2,by rw[RowT,RowT];exact⟨h3,trivial⟩⟩
  ·intro h
   obtain⟨g,h1,h2,h3⟩:=h (by simp);rw[RowT,RowT]at h3
   exact⟨g,h1,h2,h3.1⟩
theorem Cell4.keep {w w':World} {t:Ty} {A:Option Addr} {c g o:Nat}(h:Cell4 w t A c g o)(hk:w'.heap[g]?=w.heap[g]?):Cell4 w' t A c g o:=by
 have e:∀i,w'.cell? ⟨g,i,none⟩=w.cell? ⟨g,i,none⟩:=λi=>World.cell?_of_block (w:=w) (a:=⟨g,i,none⟩) hk;exact⟨(e _).trans h.1,(e _).trans h.2.1,(e _).trans h.2.2.1,(e _).trans h.2.2.2⟩
mutual
theorem Args.keep {S S':Nat->Prop} {w w':World}(hS:∀g,S g->S' g)(hk:∀g,S g->w'.heap[g]?=w.heap[g]?):(t:Ty)->∀A,Args S w t A->Args S' w' t A
 |.var x,A,_=>by rw[Args];trivial
 |.mt n,A,_=>by rw[Args];trivial
 |.con c l,A,h=>by
  rw[Args]at h ⊢
  intro hl;obtain⟨g,h1,h2,h3⟩:=h hl;exact⟨g,h1,hS g h2,RowT.keep hS hk l g 0 (hk g h2) h3⟩
 |.fn a b,A,h=>by
  rw[Args]at h ⊢
  obtain⟨g,h1,h2,⟨A1,c1,h3,h4⟩,⟨A2,c2,h5,h6⟩⟩:=h;exact⟨g,h1,hS g h2,⟨A1,c1,h3.keep (hk g h2),Args.keep hS hk a A1 h4⟩,⟨A2,c2,h5.keep (hk g h2),Args.keep hS hk b A2 h6⟩⟩
 |.all x t,A,h=>by
  rw[Args]at h ⊢
  obtain⟨g,h1,h2,A1,c1,h3,h4⟩:=h;exact⟨g,h1,hS g h2,A1,c1,h3.keep (hk g h2),Args.keep hS hk t A1 h4⟩
theorem RowT.keep {S S':Nat->Prop} {w w':World}(hS:∀g,S g->S' g)(hk:∀g,S g->w'.heap[g]?=w.heap[g]?):(l:List Ty)->∀g o,w'.heap[g]?=w.heap[g]?->RowT S w l g o->RowT S' w' l g o
 |[],_,_,_,_=>by rw[RowT];trivial
 |t::r,g,o,hg,h=>by
  rw[RowT]at h ⊢
  obtain⟨⟨A,c,h1,h2⟩,h3⟩:=h;exact⟨⟨A,c,h1.keep hg,Args.keep hS hk t A h2⟩,RowT.keep hS hk r g (o+4) hg h3⟩
end
theorem RdV.keep {S S':Nat->Prop} {w w':World} {t:Ty} {v:Value}(h:RdV S w t v)(hS:∀g,S g->S' g)(hk:∀g,S g->w'.heap[g]?=w.heap[g]?):RdV S' w' t v:=by
 obtain⟨A,c,rfl,ha⟩:=h;exact⟨A,c,rfl,Args.keep hS hk t A ha⟩
theorem RowT.at_ {S:Nat->Prop} {w:World} :(l:List Ty)->∀g o i (hi:i<l.length),RowT S w l g o->∃A c,Cell4 w l[i] A c g (o+i*4)/\Args S w l[i] A
 |[],_,_,i,hi,_=>absurd hi (by simp)
 |t::r,g,o,0,_,h=>by rw[RowT]at h;simpa using h.1
 |t::r,g,o,i+1,hi,h=>by
  rw[RowT]at h
  have:=RowT.at_ r g (o+4) i (by simpa using hi) h.2;rw[show o+4+i*4=o+(i+1)*4 by omega]at this
  simpa using this
theorem Args.kid {S:Nat->Prop} {w:World} {t:Ty} {A:Option Addr}(h:Args S w t A)(i:Nat)(hi:i<(kids t).length):∃g,A=some ⟨g,0,none⟩/\S g/\∃A1 c1,Cell4 w (kids t)[i] A1 c1 g (i*4)/\Args S w (kids t)[i] A1:=by
 obtain⟨g,h1,h2,h3⟩:=(zb3 S w t A).1 h (by intro e;rw[e]at hi;simp at hi);have:=RowT.at_ _ g 0 i hi h3;rw[Bo]at this
 exact⟨g,h1,h2,this⟩
def tyV(t:Ty)(A:Option Addr)(c:Nat):List Value:=[.int .i64 (kd t:Nat),.string (nmB t),.int .i64 (nn t:Nat),.slice A (kids t).length c]
theorem RowT.snoc {S:Nat->Prop} {w:World} :(l:List Ty)->∀g o t A c,RowT S w l g o->Cell4 w t A c g (o+l.length*4)->Args S w t A->RowT S w (l++[t]) g o
 |[],g,o,t,A,c,_,h2,h3=>by rw[AL,RowT,RowT];exact⟨⟨A,c,by simpa using h2,h3⟩,trivial⟩
 |u::r,g,o,t,A,c,h1,h2,h3=>by
  rw[RowT]at h1
  rw[AE,RowT]
  refine⟨h1.1,RowT.snoc r g (o+4) t A c h1.2 ?_ h3⟩;rw[show o+4+r.length*4=o+(u::r).length*4 by simp;omega]
  exact h2
def TyRow(S:Nat->Prop)(w:World):List Ty->List Value->Prop
 |[],vs=>vs=[]
 |t::r,vs=>∃A c rest,vs=tyV t A c++rest/\Args S w t A/\TyRow S w r rest
theorem TyRow.len {S:Nat->Prop} {w:World} :(l:List Ty)->∀vs,TyRow S w l vs->vs.length=l.length*4
 |[],vs,h=>by rw[TyRow]at h;simp[h]
 |t::r,vs,h=>by
  rw[TyRow]at h
  obtain⟨A,c,rest,rfl,_,h⟩:=h;have:=TyRow.len r rest h;simp[tyV,this];omega
theorem TyRow.snoc {S:Nat->Prop} {w:World} {t:Ty} {A:Option Addr}(c:Nat)(ha:Args S w t A):(l:List Ty)->∀vs,TyRow S w l vs->TyRow S w (l++[t]) (vs++tyV t A c)
 |[],vs,h=>by
  rw[TyRow]at h
  rw[AL,TyRow]
  exact⟨A,c,[],by simp[h],ha,by rw[TyRow]⟩
 |u::r,vs,h=>by
  rw[TyRow]at h
  obtain⟨A',c',rest,rfl,h1,h2⟩:=h;rw[AE,TyRow]
  exact⟨A',c',rest++tyV t A c,by simp,h1,TyRow.snoc c ha r rest h2⟩
theorem TyRow.keep {S S':Nat->Prop} {w w':World}(hS:∀g,S g->S' g)(hk:∀g,S g->w'.heap[g]?=w.heap[g]?):(l:List Ty)->∀vs,TyRow S w l vs->TyRow S' w' l vs
 |[],vs,h=>by rw[TyRow]at h ⊢;exact h
 |t::r,vs,h=>by
  rw[TyRow]at h ⊢
  obtain⟨A,c,rest,e,h1,h2⟩:=h;exact⟨A,c,rest,e,Args.keep hS hk t A h1,TyRow.keep hS hk r rest h2⟩
theorem TyRow.row {S:Nat->Prop} {w:World} {g:Nat} :(l:List Ty)->∀vs o,TyRow S w l vs->(∀j u,vs[j]?=some u->w.cell? ⟨g,o+j,none⟩=some u)->RowT S w l g o
 |[],_,_,_,_=>by rw[RowT];trivial
 |t::r,vs,o,h,hc=>by
  rw[TyRow]at h
  obtain⟨A,c,rest,rfl,h1,h2⟩:=h;rw[RowT]
  refine⟨⟨A,c,⟨hc 0 _ rfl,hc 1 _ rfl,hc 2 _ rfl,hc 3 _ rfl⟩,h1⟩,TyRow.row r rest (o+4) h2 λj u hu=>?_⟩;rw[show o+4+j=o+(4+j) by omega]
  exact hc (4+j) u (by rw[AW (by simp[tyV])];simpa[tyV] using hu)
theorem own_below {w w':World} {B e size n:Nat} {v:Value} {xs:List Value}(h:w.ownsRow B e size v n xs)(hb:Below w.heap.size w w'):w'.ownsRow B e size v n xs:=by
 refine⟨h.1,?_⟩;rcases h.2 with hn|⟨g,cap,cur,rfl,hg,kY,rest⟩
 ·exact .inl hn
 ·exact .inr ⟨g,cap,cur,rfl,hg,by rw[hb.block g (Aj.1 kY).1];exact kY,rest⟩
def Built(T:Nat->Prop)(B:Nat)(e:TypeId)(w:World)(l:List Ty)(v:Value):Prop :=
 ∃vs,w.ownsRow B e 4 v l.length vs/\TyRow (λg=>(T g\/B<=g/\g<w.heap.size)/\some g≠v.ownBlock) w l vs
theorem Built.nil(T:Nat->Prop)(B:Nat)(e:TypeId)(w:World):Built T B e w [] (.slice none 0 0):=⟨[],World.ownsRow_nil _ _ _ _,by rw[TyRow]⟩
theorem Built.below {T:Nat->Prop} {B:Nat} {e:TypeId} {w w':World} {l:List Ty} {v:Value}(h:Built T B e w l v)(hT:∀g,T g->g<w.heap.size)(hb:Below w.heap.size w w'):Built T B e w' l v:=by
 obtain⟨vs,h1,h2⟩:=h;refine⟨vs,own_below h1 hb,TyRow.keep ?_ ?_ l vs h2⟩
 ·rintro g ⟨h|h,h3⟩
  ·exact⟨.inl h,h3⟩
  ·exact⟨.inr ⟨h.1,As h.2 hb.size⟩,h3⟩
 ·rintro g ⟨h|h,h3⟩
  ·exact hb.block g (hT g h)
  ·exact hb.block g h.2
theorem Built.snoc {T:Nat->Prop} {B:Nat} {e:TypeId} {w w':World} {l:List Ty} {t:Ty} {v v':Value} {A:Option Addr} {c:Nat} {vs:List Value}
  (hT:∀g,T g->g<B)(hB:B<=w.heap.size)(aJ:TyRow (λg=>(T g\/B<=g/\g<w.heap.size)/\some g≠v.ownBlock) w l vs)
  (ha:Args (λg=>(T g\/B<=g/\g<w.heap.size)/\some g≠v.ownBlock) w t A)
  (ai:w'.ownsRow B e 4 v' (l.length+1) (vs++tyV t A c))(hg:w.grownBy w' v.ownBlock)(bF:v'.ownBlock=v.ownBlock\/v'.ownBlock=some w.heap.size):Built T B e w' (l++[t]) v':=by
 have aD:w.heap.size<=w'.heap.size:=hg.size;have hk:∀g,((T g\/B<=g/\g<w.heap.size)/\some g≠v.ownBlock)->w'.heap[g]?=w.heap[g]?:=λg h=>hg.block g (by rcases h.1 with h1|h1;have:=hT g h1;omega;exact h1.2) h.2;have hS:∀g,((T g\/B<=g/\g<w.heap.size)/\some g≠v.ownBlock)->((T g\/B<=g/\g<w'.heap.size)/\some g≠v'.ownBlock):=by
  rintro g ⟨h1,h2⟩;have ah:g<w.heap.size:=by rcases h1 with h1|h1;have:=hT g h1;omega;exact h1.2
  refine⟨?_,?_⟩
  ·rcases h1 with h1|h1
   ·exact .inl h1
   ·exact .inr ⟨h1.1,by omega⟩
  ·rcases bF with h|h
   ·rw[h];exact h2
   ·rw[h];intro e;injection e with e;omega
 refine⟨vs++tyV t A c,by rw[Ap];exact ai,TyRow.snoc c (Args.keep hS hk t A ha) l vs (TyRow.keep hS hk l vs aJ)⟩
theorem Built.next {T:Nat->Prop} {B:Nat} {e:TypeId} {w w1 w2 w3:World} {l:List Ty} {x:Ty} {v v':Value} {vs:List Value} {k z:Int} {s:ByteArray} {A:Option Addr} {m c:Nat}
  (hT:∀g,T g->g<B)(hB:B<=w.heap.size)(ai:w.ownsRow B e 4 v l.length vs)(aJ:TyRow (λg=>(T g\/B<=g/\g<w.heap.size)/\some g≠v.ownBlock) w l vs)
  (b1:Below w.heap.size w w1)(hr:RdV (λg=>T g\/w.heap.size<=g/\g<w1.heap.size) w1 x (.agg #[.int .i64 k,.string s,.int .i64 z,.slice A m c]))(b2:Below w1.heap.size w1 w2)
  (ho:w3.ownsRow B e 4 v' (l.length+1) (vs++[.int .i64 k,.string s,.int .i64 z,.slice A m c]))(hg:w2.grownBy w3 v.ownBlock)(bF:v'.ownBlock=v.ownBlock\/v'.ownBlock=some w2.heap.size):Built T B e w3 (l++[x]) v':=by
 obtain⟨A',c',hv,ha⟩:=hr;injection hv with hv;have hv:=Az Array.toList hv;simp only[BB,Value.int.injEq,Value.string.injEq,Value.slice.injEq,and_true,true_and]at hv;obtain⟨rfl,rfl,rfl,rfl,rfl,rfl⟩:=hv;have ah:=ai.lt;have s1:=b1.size;have s2:=b2.size;have yM:Below w.heap.size w w2:=b1.trans (b2.mono s1);refine Built.snoc (w:=w2) (c:=c) hT (by omega) (TyRow.keep (λg h=>?_) (λg h=>?_) l vs aJ) (Args.keep (λg h=>?_) (λg h=>?_) x A ha) ho hg bF
 ·refine⟨?_,h.2⟩
  rcases h.1 with h1|h1
  ·exact .inl h1
  ·exact .inr ⟨h1.1,by omega⟩
 ·exact yM.block g (by rcases h.1 with h1|h1;have:=hT g h1;omega;exact h1.2)
 ·rcases h with h1|h1
  ·refine⟨.inl h1,λe=>?_⟩
   have:=ah _ e.symm;have:=hT g h1;omega
  ·refine⟨.inr ⟨by omega,by omega⟩,λe=>?_⟩
   have:=ah _ e.symm;omega
 ·exact b2.block g (by rcases h with h1|h1;have:=hT g h1;omega;exact h1.2)
theorem Built.setCell {T:Nat->Prop} {B:Nat} {e:TypeId} {w:World} {l:List Ty} {v:Value}(h:Built T B e w l v) {p:Addr}(u:Value)(hp:p.block<B)(hT:¬T p.block):Built T B e (w.setCell p u) l v:=by
 obtain⟨vs,h1,h2⟩:=h;have ah:=h1.lt;have k1:∀g,(T g\/B<=g/\g<w.heap.size)/\some g≠v.ownBlock->(T g\/B<=g/\g<(w.setCell p u).heap.size)/\some g≠v.ownBlock:=by
  rintro g ⟨h3|h3,h4⟩
  ·exact⟨.inl h3,h4⟩
  ·exact⟨.inr ⟨h3.1,by simpa using h3.2⟩,h4⟩
 have k2:∀g,(T g\/B<=g/\g<w.heap.size)/\some g≠v.ownBlock->(w.setCell p u).heap[g]?=w.heap[g]?:=by
  rintro g ⟨h3,_⟩;refine Below.heap_setCell w p u g λe=>?_;rcases h3 with h3|h3
  ·exact hT (e▸h3)
  ·omega
 exact⟨vs,ownsRow_setCell_other h1 (λe=>by have:=ah _ e;omega) u,TyRow.keep k1 k2 l vs h2⟩
theorem Built.args {T:Nat->Prop} {B:Nat} {e:TypeId} {w:World} {t:Ty} {A:Option Addr} {n c:Nat}(h:Built T B e w (kids t) (.slice A n c)):n=(kids t).length/\Args (λg=>T g\/B<=g/\g<w.heap.size) w t A:=by
 obtain⟨vs,h1,h2⟩:=h;have hc:=λg hg=>h1.cells (g:=g) hg;have ah:=h1.lt;have hlen:=h2.len;rcases h1.2 with⟨h3,h0⟩|⟨g,cap,cur,h3,_⟩
 ·injection h3 with e1 e2 e3
  subst e1 e2 e3;have hk:kids t=[]:=by cases hk:kids t with|nil=>rfl|cons a b=>rw[hk]at h0;simp at h0
  exact⟨by rw[hk];rfl,(zb3 _ _ _ _).2 λh=>absurd hk h⟩
 ·injection h3 with e1 e2 e3
  subst e1 e2 e3;refine⟨rfl,(zb3 _ _ _ _).2 λh=>⟨g,rfl,.inr ⟨(ah g rfl).1,(ah g rfl).2⟩,RowT.keep (λ_ h=>h) (λ_ _=>rfl) _ _ _ rfl (TyRow.row (kids t) vs 0 (TyRow.keep (λ_ h=>h.1) (λ_ _=>rfl) _ _ h2) λj u hu=>?_)⟩⟩;have aW:(⟨g,0,none⟩:Addr).add j=⟨g,j,none⟩:=by unfold Addr.add;split <;> simp_all
  have:=hc g rfl j u hu;rw[aW]at this
  rw[Bo];exact this
def RowV(w:World)(v:Value)(l:List Value):Prop :=
 ∃A c,v=.slice A l.length c/\(0<l.length->∃g,A=some ⟨g,0,none⟩/\g<w.heap.size/\∀j u,l[j]?=some u->w.cell? ⟨g,j,none⟩=some u)
theorem RowV.of_own {w:World} {base n:Nat} {v:Value} {l:List Value} {e:TypeId}(h:w.ownsRow base e 1 v n l):RowV w v l:=by
 have hc:=λg hg=>h.cells (g:=g) hg;have ah:=h.lt;have hl:=h.1;rcases h.2 with⟨rfl,h0⟩|⟨g,cap,cur,rfl,_⟩
 ·exact⟨none,0,by rw[hl,h0],λhp=>by omega⟩
 ·refine⟨_,_,by rw[hl,CH],λ_=>⟨g,rfl,(ah g rfl).2,λj u hu=>?_⟩⟩
  have aW:(⟨g,0,none⟩:Addr).add j=⟨g,j,none⟩:=by unfold Addr.add;split <;> simp_all
  have:=hc g rfl j u hu;rwa [aW]at this
theorem RowV.keep {w w':World} {v:Value} {l:List Value}(h:RowV w v l)(hs:w.heap.size<=w'.heap.size)(hk:∀k,k<w.heap.size->w'.heap[k]?=w.heap[k]?):RowV w' v l:=by
 obtain⟨A,c,hv,hp⟩:=h;refine⟨A,c,hv,λh0=>?_⟩;obtain⟨g,hA,hg,hc⟩:=hp h0;exact⟨g,hA,by omega,λj u hu=>by rw[World.cell?_of_block (w:=w) (hk g hg)];exact hc j u hu⟩
theorem RowV.below {w w':World} {v:Value} {l:List Value}(h:RowV w v l)(hb:Below w.heap.size w w'):RowV w' v l:=h.keep hb.size hb.block
def strV(l:List (List UInt8)):List Value:=l.map λx=>.string ⟨x.toArray⟩
def intV(l:List Nat):List Value:=l.map λn=>.int .i64 (n:Nat)
end Go.Proofs.YtfafilmklhnngaaGreatDoor
namespace Go.Proofs.YtfafilmklhnngaaGreatDoor
namespace Tx
open Lx
abbrev Sb:=Nat->Dt
def ap(s:Sb)(d:Dt):Dt:=repD .fv s d
def apL(s:Sb)(l:List Dt):List Dt:=zaU .fv s l
theorem zbt(s:Sb)(x:Name):ap s (.fv x)=.fv x:=by unfold ap;rw[repD]
theorem zbL(s:Sb)(i:Nat):ap s (.bv i)=.bv i:=by unfold ap;rw[repD]
theorem zaz(s:Sb)(n:Nat):ap s (.mt n)=s n:=by unfold ap;rw[repD]
theorem za9(s:Sb)(c:Name)(l:List Dt):ap s (.con c l)=.con c (apL s l):=by unfold ap apL;rw[repD]
theorem zbp(s:Sb)(a b:Dt):ap s (.fn a b)=.fn (ap s a) (ap s b):=by unfold ap;rw[repD]
theorem zaJ(s:Sb)(t:Dt):ap s (.all t)=.all (ap s t):=by unfold ap;rw[repD]
theorem zbm(s:Sb):(l:List Dt)->apL s l=l.map (ap s)
 |[]=>by unfold apL;rw[zaU];rfl
 |t::r=>by
  have:=zbm s r;unfold apL at this ⊢;rw[zaU,this];rfl
theorem zaA(n:Nat):(l:List Dt)->(zbG n l↔∃d∈l,MtOcc n d)
 |[]=>by rw[zbG];simp
 |t::r=>by rw[zbG,zaA n r];simp
theorem Dt.ind {C:Dt->Prop}(hf:∀x,C (.fv x))(hb:∀i,C (.bv i))(hm:∀n,C (.mt n))(hc:∀c l,(∀d∈l,C d)->C (.con c l))(hn:∀a b,C a->C b->C (.fn a b))(ha:∀t,C t->C (.all t))(d:Dt):C d :=
 Dt.rec (motive_1:=C) (motive_2:=λl=>∀d∈l,C d) hf hb hm (λc l h=>hc c l h) (λa b h1 h2=>hn a b h1 h2) (λt h=>ha t h) (λd hd=>by cases hd) (λt r h1 h2 d hd=>by
  rcases An.1 hd with e|e
  ·rw[e];exact h1
  ·exact h2 d e) d
theorem zfi(s t:Sb)(d:Dt):ap s (ap t d)=ap (λn=>ap s (t n)) d:=by
 unfold ap;rw[zcN]
 have:(λx=>repD Dt.fv s (Dt.fv x))=Dt.fv:=funext λx=>by rw[repD]
 rw[this]
theorem zfO(s t:Sb)(d:Dt):(∀n,MtOcc n d->s n=t n)->ap s d=ap t d:=by
 induction d using Dt.ind with
 |hf x=>intro _;rw[zbt,zbt]
 |hb i=>intro _;rw[zbL,zbL]
 |hm n=>intro h;rw[zaz,zaz];exact h n (by rw[MtOcc])
 |hc c l ih =>
  intro h;rw[za9,za9,zbm,zbm,CJ λd hd=>ih d hd λn hn=>h n (by rw[MtOcc,zaA];exact⟨d,hd,hn⟩)]
 |hn a b iha ihb=>intro h;rw[zbp,zbp,iha λn hn=>h n (by rw[MtOcc];exact .inl hn),ihb λn hn=>h n (by rw[MtOcc];exact .inr hn)]
 |ha t ih=>intro h;rw[zaJ,zaJ,ih λn hn=>h n (by rw[MtOcc];exact hn)]
theorem zhY(s:Sb)(d:Dt)(h:∀n,MtOcc n d->s n=.mt n):ap s d=d:=zdX _ _ d (λ_ _=>rfl) h
theorem zcb(d:Dt):ap .mt d=d:=zhY _ d λ_ _=>rfl
theorem zdm(s:Sb)(n:Nat)(d:Dt):MtOcc n (ap s d)↔∃m,MtOcc m d/\MtOcc n (s m):=by
 induction d using Dt.ind with
 |hf x=>rw[zbt,MtOcc];simp[MtOcc]
 |hb i=>rw[zbL,MtOcc];simp[MtOcc]
 |hm j=>rw[zaz];simp[MtOcc]
 |hc c l ih =>
  rw[za9,MtOcc,zbm,zaA]
  constructor
  ·rintro⟨d,hd,hn⟩
   obtain⟨e,he,rfl⟩:=AM.1 hd;obtain⟨m,h1,h2⟩:=(ih e he).1 hn;exact⟨m,by rw[MtOcc,zaA];exact⟨e,he,h1⟩,h2⟩
  ·rintro⟨m,h1,h2⟩
   rw[MtOcc,zaA]at h1
   obtain⟨e,he,h1⟩:=h1;exact⟨ap s e,AM.2 ⟨e,he,rfl⟩,(ih e he).2 ⟨m,h1,h2⟩⟩
 |hn a b iha ihb =>
  rw[zbp,MtOcc,iha,ihb]
  constructor
  ·rintro(⟨m,h1,h2⟩|⟨m,h1,h2⟩)
   ·exact⟨m,by rw[MtOcc];exact .inl h1,h2⟩
   ·exact⟨m,by rw[MtOcc];exact .inr h1,h2⟩
  ·rintro⟨m,h1,h2⟩
   rw[MtOcc]at h1
   rcases h1 with h1|h1
   ·exact .inl ⟨m,h1,h2⟩
   ·exact .inr ⟨m,h1,h2⟩
 |ha t ih =>
  rw[zaJ,MtOcc,ih]
  constructor
  ·rintro⟨m,h1,h2⟩;exact⟨m,by rw[MtOcc];exact h1,h2⟩
  ·rintro⟨m,h1,h2⟩;rw[MtOcc]at h1;exact⟨m,h1,h2⟩
theorem ze3(k:Sb)(n:Nat)(d:Dt):ap k d=d->MtOcc n d->k n=.mt n:=by
 induction d using Dt.ind with
 |hf x=>intro _ h;rw[MtOcc]at h;exact h.elim
 |hb i=>intro _ h;rw[MtOcc]at h;exact h.elim
 |hm j=>intro h1 h2;rw[zaz]at h1;rw[MtOcc]at h2;rw[h2];exact h1
 |hc c l ih =>
  intro h1 h2;rw[za9,zbm]at h1
  injection h1 with _ h1;rw[MtOcc,zaA]at h2
  obtain⟨d,hd,h2⟩:=h2;refine ih d hd ?_ h2;obtain⟨i,hi,rfl⟩:=AS.1 hd;have:=Az (λm=>m[i]?) h1;simpa[AY,Ak hi] using this
 |hn a b iha ihb =>
  intro h1 h2;rw[zbp]at h1
  injection h1 with h3 h4;rw[MtOcc]at h2
  rcases h2 with h2|h2
  ·exact iha h3 h2
  ·exact ihb h4 h2
 |ha t ih =>
  intro h1 h2;rw[zaJ]at h1
  injection h1 with h1;rw[MtOcc]at h2
  exact ih h1 h2
mutual
def sz:Dt->Nat
 |.fv _=>1
 |.bv _=>1
 |.mt _=>1
 |.con _ l=>szL l+1
 |.fn a b=>sz a+sz b+1
 |.all t=>sz t+1
def szL:List Dt->Nat
 |[]=>0
 |t::r=>sz t+szL r
end
theorem zb0(d:Dt):1<=sz d:=by cases d <;> rw[sz] <;> omega
theorem zgT:(l:List Dt)->(d:Dt)->d∈l->sz d<=szL l
 |[],d,h=>by cases h
 |t::r,d,h=>by
  rw[szL]
  rcases An.1 h with e|e
  ·rw[e];omega
  ·have:=zgT r d e;omega
theorem zp7(s:Sb)(m:Nat)(d:Dt):MtOcc m d->sz (s m)<=sz (ap s d)/\(d≠.mt m->sz (s m)<sz (ap s d)):=by
 induction d using Dt.ind with
 |hf x=>intro h;rw[MtOcc]at h;exact h.elim
 |hb i=>intro h;rw[MtOcc]at h;exact h.elim
 |hm j=>intro h;rw[MtOcc]at h;subst h;rw[zaz];exact⟨Ai _,λh=>absurd rfl h⟩
 |hc c l ih =>
  intro h;rw[MtOcc,zaA]at h
  obtain⟨d,hd,h⟩:=h;have h1:=(ih d hd h).1;have h2:=zgT (l.map (ap s)) (ap s d) (AM.2 ⟨d,hd,rfl⟩);rw[za9,sz,zbm]
  exact⟨by omega,λ_=>by omega⟩
 |hn a b iha ihb =>
  intro h;rw[MtOcc]at h
  rw[zbp,sz]
  rcases h with h|h
  ·have:=(iha h).1;exact⟨by omega,λ_=>by omega⟩
  ·have:=(ihb h).1;exact⟨by omega,λ_=>by omega⟩
 |ha t ih =>
  intro h;rw[MtOcc]at h
  rw[zaJ,sz]
  have:=(ih h).1;exact⟨by omega,λ_=>by omega⟩
mutual
def za4:Dt->Bool
 |.con _ l=>ze4 l
 |.fn a b=>za4 a||za4 b
 |.all _=>true
 |_=>false
def ze4:List Dt->Bool
 |[]=>false
 |t::r=>za4 t||ze4 r
end
mutual
def bvD:Dt->Bool
 |.con _ l=>bvDL l
 |.fn a b=>bvD a||bvD b
 |.all t=>bvD t
 |.bv _=>true
 |_=>false
def bvDL:List Dt->Bool
 |[]=>false
 |t::r=>bvD t||bvDL r
end
theorem zcZ:(l:List Dt)->ze4 l=l.any za4
 |[]=>by rw[ze4];rfl
 |t::r=>by rw[ze4,zcZ r];rfl
theorem zeu:(l:List Dt)->bvDL l=l.any bvD
 |[]=>by rw[bvDL];rfl
 |t::r=>by rw[bvDL,zeu r];rfl
def Plain(d:Dt):Prop:=za4 d=false/\bvD d=false
theorem za5(n:Nat):Plain (.mt n):=⟨by rw[za4] <;> simp,by rw[bvD] <;> simp⟩
theorem zov(x:Name):Plain (.fv x):=⟨by rw[za4] <;> simp,by rw[bvD] <;> simp⟩
theorem zdE(c:Name)(l:List Dt):Plain (.con c l)↔∀d∈l,Plain d:=by
 unfold Plain;rw[za4,bvD,zcZ,zeu]
 simp only[List.any_eq_false,Bool.not_eq_true];exact⟨λh d hd=>⟨h.1 d hd,h.2 d hd⟩,λh=>⟨λd hd=>(h d hd).1,λd hd=>(h d hd).2⟩⟩
theorem plain_fn(a b:Dt):Plain (.fn a b)↔Plain a/\Plain b:=by
 unfold Plain;rw[za4,bvD,Bool.or_eq_false_iff,Bool.or_eq_false_iff]
 exact⟨λh=>⟨⟨h.1.1,h.2.1⟩,h.1.2,h.2.2⟩,λh=>⟨⟨h.1.1,h.2.1⟩,h.1.2,h.2.2⟩⟩
theorem zaK(t:Dt):¬Plain (.all t):=λh=>by have:=h.1;rw[za4]at this;cases this
theorem zaL(i:Nat):¬Plain (.bv i):=λh=>by have:=h.2;rw[bvD]at this;cases this
theorem zcu(s:Sb)(d:Dt):Plain (ap s d)↔Plain d/\∀m,MtOcc m d->Plain (s m):=by
 induction d using Dt.ind with
 |hf x=>rw[zbt];exact⟨λh=>⟨h,λm hm=>by rw[MtOcc]at hm;exact hm.elim⟩,λh=>h.1⟩
 |hb i=>rw[zbL];exact⟨λh=>absurd h (zaL i),λh=>h.1⟩
 |hm n=>rw[zaz];exact⟨λh=>⟨za5 n,λm hm=>by rw[MtOcc]at hm;rw[hm];exact h⟩,λh=>h.2 n (by rw[MtOcc])⟩
 |hc c l ih =>
  rw[za9,zbm,zdE,zdE]
  constructor
  ·intro h
   refine⟨λd hd=>((ih d hd).1 (h _ (AM.2 ⟨d,hd,rfl⟩))).1,λm hm=>?_⟩;rw[MtOcc,zaA]at hm
   obtain⟨d,hd,hm⟩:=hm;exact((ih d hd).1 (h _ (AM.2 ⟨d,hd,rfl⟩))).2 m hm
  ·intro h d hd
   obtain⟨e,he,rfl⟩:=AM.1 hd;exact(ih e he).2 ⟨h.1 e he,λm hm=>h.2 m (by rw[MtOcc,zaA];exact⟨e,he,hm⟩)⟩
 |hn a b iha ihb =>
  rw[zbp,plain_fn,plain_fn,iha,ihb]
  constructor
  ·rintro⟨⟨h1,h2⟩,h3,h4⟩
   refine⟨⟨h1,h3⟩,λm hm=>?_⟩;rw[MtOcc]at hm
   rcases hm with hm|hm
   ·exact h2 m hm
   ·exact h4 m hm
  ·rintro⟨⟨h1,h3⟩,h⟩
   exact⟨⟨h1,λm hm=>h m (by rw[MtOcc];exact .inl hm)⟩,h3,λm hm=>h m (by rw[MtOcc];exact .inr hm)⟩
 |ha t ih=>rw[zaJ];exact⟨λh=>absurd h (zaK _),λh=>absurd h.1 (zaK _)⟩
inductive Step1 where
 |skip
 |learn (m:Nat) (t:Dt)
 |push (l:List (Dt × Dt))
 |clash
def act:Dt->Dt->Step1
 |.mt m,.mt n=>if m=n then .skip else if n<m then .learn m (.mt n) else .learn n (.mt m)
 |.mt m,y=>.learn m y
 |x,.mt n=>.learn n x
 |.fv x,.fv y=>if x=y then .skip else .clash
 |.bv i,.bv j=>if i=j then .skip else .clash
 |.con c l,.con d r=>if c=d/\l.length=r.length then .push (l.zip r) else .clash
 |.fn a b,.fn c d=>.push [(a,c),(b,d)]
 |.all a,.all b=>.push [(a,b)]
 |_,_=>.clash
def bad(m:Nat)(t:Dt):Nat:=if m∈zaO t [] then 41 else if za4 t=true then 42 else if bvD t=true then 43 else 0
theorem zdn(m:Nat)(t:Dt):bad m t=0↔¬MtOcc m t/\Plain t:=by
 unfold bad Plain;have hm:m∈zaO t []↔MtOcc m t:=by rw[zbc];simp
 by_cases h1:MtOcc m t
 ·rw[Aq (hm.2 h1)];simp[h1]
 ·rw[Am (λh=>h1 (hm.1 h))]
  by_cases h2:za4 t=true
  ·simp[h2]
  ·by_cases h3:bvD t=true
   ·simp[h2,h3]
   ·simp[h1,h2,h3]
def unF:Nat->List (Dt × Dt)->Sb->Option (Nat ⊕ Sb)
 |0,_,_=>none
 |_+1,[],k=>some (.inr k)
 |f+1,(a,b)::r,k =>
  match act (ap k a) (ap k b) with
  |.skip=>unF f r k
  |.push l=>unF f (l++r) k
  |.clash=>some (.inl 40)
  |.learn m t=>if bad m t=0 then unF f r (λn=>ap (fil m t) (k n)) else some (.inl (bad m t))
theorem zow(f:Nat):∀E k o,unF f E k=some o->unF (f+1) E k=some o:=by
 induction f with
 |zero=>intro E k o h;rw[unF]at h;cases h
 |succ f ih =>
  intro E k o h;cases E with
  |nil=>rw[unF]at h ⊢;exact h
  |cons p r =>
   obtain⟨a,b⟩:=p;rw[unF]at h ⊢
   cases hq:act (ap k a) (ap k b) with
   |skip=>rw[hq]at h;exact ih _ _ _ h
   |push l=>rw[hq]at h;exact ih _ _ _ h
   |clash=>rw[hq]at h;exact h
   |learn m t =>
    rw[hq]at h
    simp only at h ⊢;by_cases hb:bad m t=0
    ·rw[Aq hb]at h ⊢;exact ih _ _ _ h
    ·rw[Am hb]at h ⊢;exact h
theorem zmO {f g:Nat} {E:List (Dt × Dt)} {k:Sb} {o:Nat ⊕ Sb}(h:unF f E k=some o)(hg:f<=g):unF g E k=some o:=by
 obtain⟨d,rfl⟩:∃d,g=f+d:=⟨g-f,by omega⟩;clear hg;induction d with
 |zero=>exact h
 |succ d ih=>exact zow _ _ _ _ ih
theorem zfj {f g:Nat} {E:List (Dt × Dt)} {k:Sb} {o p:Nat ⊕ Sb}(h:unF f E k=some o)(h':unF g E k=some p):o=p:=by
 have h1:=zmO h (Nat.le_max_left f g);have h2:=zmO h' (Nat.le_max_right f g);rw[h1]at h2
 injection h2
def Idem(k:Sb):Prop:=∀n,ap k (k n)=k n
theorem zcv:Idem .mt:=λn=>zaz _ n
theorem zba {k:Sb}(h:Idem k)(d:Dt):ap k (ap k d)=ap k d:=by
 rw[zfi]
 exact zfO _ _ d λn _=>h n
def upd(m:Nat)(t:Dt)(k:Sb):Sb:=λn=>ap (fil m t) (k n)
theorem zbi(m:Nat)(t:Dt)(k:Sb)(d:Dt):ap (upd m t k) d=ap (fil m t) (ap k d):=by rw[zfi];rfl
theorem zaX(m:Nat)(t:Dt):fil m t m=t:=by unfold fil;rw[Aq rfl]
theorem zaN(m:Nat)(t:Dt)(n:Nat)(h:n≠m):fil m t n=.mt n:=by unfold fil;rw[Am h]
theorem zfP(m:Nat)(t d:Dt)(h:¬MtOcc m d):ap (fil m t) d=d:=zhY _ d λn hn=>zaN m t n (λe=>h (e▸hn))
theorem zdo {k:Sb} {m:Nat} {t:Dt}(hk:Idem k)(ht:ap k t=t)(hm:¬MtOcc m t):Idem (upd m t k):=by
 intro n;rw[zbi]
 show ap (fil m t) (ap k (ap (fil m t) (k n)))=ap (fil m t) (k n);have h1:ap k (ap (fil m t) (k n))=ap (fil m t) (k n):=by
  refine zhY _ _ λj hj=>?_;obtain⟨i,hi,hj⟩:=(zdm _ _ _).1 hj;by_cases dD:i=m
  ·rw[dD,zaX]at hj
   exact ze3 k j t ht hj
  ·rw[zaN m t i dD,MtOcc]at hj
   rw[hj]
   exact ze3 k i (k n) (hk n) hi
 rw[h1]
 refine zfP m t _ λh=>?_;obtain⟨i,_,hj⟩:=(zdm _ _ _).1 h;by_cases dD:i=m
 ·rw[dD,zaX]at hj;exact hm hj
 ·rw[zaN m t i dD,MtOcc]at hj;exact dD hj.symm
theorem zcc {x y:Dt} {m:Nat} {t:Dt}(h:act x y=.learn m t):(x=.mt m/\t=y\/y=.mt m/\t=x)/\x≠y:=by
 cases x <;> cases y <;> simp[act]at h <;> try (obtain⟨rfl,rfl⟩:=h;simp;done)
 all_goals (split at h <;> try split at h) <;> simp_all
 all_goals (first|(obtain⟨rfl,rfl⟩:=h;simp;omega)|skip)
theorem zbU {x y:Dt} {l:List (Dt × Dt)}(h:act x y=.push l):(∃c u v,x=.con c u/\y=.con c v/\u.length=v.length/\l=u.zip v)\/(∃a b c d,x=.fn a b/\y=.fn c d/\l=[(a,c),(b,d)])\/∃a b,x=.all a/\y=.all b/\l=[(a,b)]:=by
 cases x <;> cases y <;> simp only[act,reduceCtorEq]at h
 case con.con c u d v =>
  split at h
  ·rename_i hc
   injection h with h;exact .inl ⟨c,u,v,rfl,by rw[hc.1],hc.2,h.symm⟩
  ·cases h
 case fn.fn a b c d=>injection h with h;exact .inr (.inl ⟨a,b,c,d,rfl,rfl,h.symm⟩)
 case all.all a b=>injection h with h;exact .inr (.inr ⟨a,b,rfl,rfl,h.symm⟩)
 all_goals (split at h <;> first|(cases h;done)|(split at h <;> cases h))
theorem zi7 {x y:Dt}(h:act x y=.skip):x=y:=by
 cases x <;> cases y <;> simp[act]at h
 all_goals (first|(split at h <;> simp_all;done)|(simp_all;done)|(split at h;simp_all;split at h <;> simp_all))
theorem zi8(x:Dt):act x x=.skip\/∃l,act x x=.push l/\∀p∈l,p.1=p.2:=by
 cases x with
 |fv x=>exact .inl (by simp[act])
 |bv i=>exact .inl (by simp[act])
 |mt n=>exact .inl (by simp[act])
 |con c l =>
  refine .inr ⟨l.zip l,by simp[act],λp hp=>?_⟩;obtain⟨i,hi,rfl⟩:=AS.1 hp;simp
 |fn a b=>exact .inr ⟨_,rfl,λp hp=>by simp at hp;rcases hp with rfl|rfl <;> rfl⟩
 |all a=>exact .inr ⟨_,rfl,λp hp=>by simp at hp;rw[hp]⟩
end Tx
namespace Tx
open Lx
def szE(k:Sb)(l:List (Dt × Dt)):Nat:=(l.map λp=>sz (ap k p.1)).sum
theorem zj8(k:Sb):szE k []=0:=rfl
theorem zbA(k:Sb)(p:Dt × Dt)(r:List (Dt × Dt)):szE k (p::r)=sz (ap k p.1)+szE k r:=by unfold szE;rw[AH,BY]
theorem zgU(k:Sb)(l r:List (Dt × Dt)):szE k (l++r)=szE k l+szE k r:=by unfold szE;rw[Bl,List.sum_append]
theorem zj9:(l:List Dt)->szL l=(l.map sz).sum
 |[]=>by rw[szL];rfl
 |t::r=>by rw[szL,zj9 r,AH,BY]
theorem zka {k:Sb} {c:Name} {l:List Dt}(h:ap k (.con c l)=.con c l):∀d∈l,ap k d=d:=by
 rw[za9,zbm]at h
 injection h with _ h;intro d hd;obtain⟨i,hi,rfl⟩:=AS.1 hd;have:=Az (λm=>m[i]?) h;simpa[AY,Ak hi] using this
theorem zmP {k:Sb} {a b:Dt}(h:ap k (.fn a b)=.fn a b):ap k a=a/\ap k b=b:=by
 rw[zbp]at h;injection h with h1 h2;exact⟨h1,h2⟩
theorem zkb {k:Sb} {a:Dt}(h:ap k (.all a)=.all a):ap k a=a:=by
 rw[zaJ]at h;injection h
theorem zev {k:Sb} {x y:Dt} {q:List (Dt × Dt)}(hx:ap k x=x)(hy:ap k y=y)(h:act x y=.push q):szE k q<sz x/\∀p∈q,ap k p.1=p.1/\ap k p.2=p.2:=by
 rcases zbU h with⟨c,u,v,rfl,rfl,hl,rfl⟩|⟨a,b,c,d,rfl,rfl,rfl⟩|⟨a,b,rfl,rfl,rfl⟩
 ·have h1:=zka hx
  have h2:=zka hy;refine⟨?_,λp hp=>⟨h1 _ (Bv hp).1,h2 _ (Bv hp).2⟩⟩;have e:szE k (u.zip v)=szL u:=by
   unfold szE;rw[zj9]
   have:(u.zip v).map (λp=>sz (ap k p.1))=((u.zip v).map Prod.fst).map (λd=>sz (ap k d)):=by rw[Cc];rfl
   rw[this,List.map_fst_zip (by omega)]
   exact Az List.sum (CJ λd hd=>by rw[h1 d hd])
  rw[e,sz];omega
 ·have h1:=zmP hx
  have h2:=zmP hy;refine⟨?_,λp hp=>?_⟩
  ·rw[zbA,zbA,zj8,h1.1,h1.2,sz];omega
  ·simp at hp
   rcases hp with rfl|rfl
   ·exact⟨h1.1,h2.1⟩
   ·exact⟨h1.2,h2.2⟩
 ·have h1:=zkb hx
  have h2:=zkb hy;refine⟨?_,λp hp=>?_⟩
  ·rw[zbA,zj8,h1,sz];omega
  ·simp at hp;rw[hp];exact⟨h1,h2⟩
theorem zox {k:Sb}(hk:Idem k)(N:Nat):∀(l:List (Dt × Dt)),(∀p∈l,ap k p.1=ap k p.2)->szE k l<=N->∀f r o,unF f (l++r) k=some o->∃g,g+l.length<=f/\unF g r k=some o:=by
 induction N with
 |zero =>
  intro l _ hs f r o h;cases l with
  |nil=>exact⟨f,Ai _,h⟩
  |cons p l=>rw[zbA]at hs;have:=zb0 (ap k p.1);omega
 |succ N ih =>
  intro l hl hs f r o h;cases l with
  |nil=>exact⟨f,Ai _,h⟩
  |cons p l =>
   obtain⟨a,b⟩:=p;cases f with
   |zero=>rw[unF]at h;cases h
   |succ f =>
    rw[zbA]at hs
    have hp:=zb0 (ap k a);have du:ap k a=ap k b:=hl (a,b) Ay;rw[AE,unF,<-du]at h
    have e9:∀p∈l,ap k p.1=ap k p.2:=λp hp=>hl p (Ar _ hp);rcases zi8 (ap k a) with hq|⟨q,hq,hqe⟩
    ·rw[hq]at h
     obtain⟨g,hg,ho⟩:=ih l e9 (by simp only at hs;omega) f r o h;exact⟨g,by rw[Ao];omega,ho⟩
    ·rw[hq]at h
     have hfx:=zba hk a;obtain⟨h1,h2⟩:=zev hfx hfx hq;simp only at h;rw[<-Bj]at h
     obtain⟨g,hg,ho⟩:=ih (q++l) (λp hp=>by
      rcases AA.1 hp with hp|hp
      ·rw[hqe p hp]
      ·exact e9 p hp) (by rw[zgU];simp only at hs;omega) f r o h
     rw[Ap]at hg
     exact⟨g,by rw[Ao];omega,ho⟩
theorem zoy {k:Sb}(hk:Idem k) {a b:Dt}(h:ap k a=ap k b) {f:Nat} {r:List (Dt × Dt)} {o:Nat ⊕ Sb}(ho:unF f ((a,b)::r) k=some o):∃g,g<f/\unF g r k=some o:=by
 obtain⟨g,hg,h⟩:=zox hk _ [(a,b)] (λp hp=>by simp at hp;rw[hp];exact h) (Ai _) f r o ho;exact⟨g,by simp at hg;omega,h⟩
def isFree(k:Sb)(n:Nat):Bool:=match k n with|.mt j=>j==n|_=>false
theorem zcl(k:Sb)(n:Nat):isFree k n=true↔k n=.mt n:=by
 unfold isFree;cases h:k n <;> simp
theorem zdN {α:Type}(p q:α->Bool)(m:α):(L:List α)->(∀n,q n=true->p n=true)->m∈L->p m=true->q m=false->(L.filter q).length<(L.filter p).length
 |[],_,h,_,_=>by cases h
 |a::r,pF,h,hp,hq=>by
  have hle:∀l:List α,(l.filter q).length<=(l.filter p).length:=λl=>by
   induction l with
   |nil=>simp
   |cons b r ih =>
    rw[List.filter_cons,List.filter_cons]
    by_cases hb:q b=true
    ·rw[Aq hb,Aq (pF b hb)];simp;exact ih
    ·rw[Am hb]
     split
     ·simp;omega
     ·exact ih
  rw[List.filter_cons,List.filter_cons]
  by_cases ha:a=m
  ·subst ha
   rw[Aq hp,Am (by rw[hq];simp)]
   have:=hle r;simp;omega
  ·have ih:=zdN p q m r pF (by rcases An.1 h with e|e;exact absurd e.symm ha;exact e) hp hq
   by_cases hb:q a=true
   ·rw[Aq hb,Aq (pF a hb)];simp;exact ih
   ·rw[Am hb]
    split
    ·simp;omega
    ·exact ih
theorem zbI {k:Sb}(hk:Idem k) {a b:Dt} {m:Nat} {t:Dt}(h:act (ap k a) (ap k b)=.learn m t):k m=.mt m/\ap k t=t/\(MtOcc m (ap k a)\/MtOcc m (ap k b))/\(∀n,MtOcc n t->MtOcc n (ap k a)\/MtOcc n (ap k b)):=by
 obtain⟨(⟨h1,rfl⟩|⟨h1,rfl⟩),_⟩:=zcc h
 ·refine⟨?_,zba hk b,.inl (by rw[h1,MtOcc]),λn hn=>.inr hn⟩
  have:=zba hk a;rw[h1,zaz]at this
  exact this
 ·refine⟨?_,zba hk a,.inr (by rw[h1,MtOcc]),λn hn=>.inl hn⟩
  have:=zba hk b;rw[h1,zaz]at this
  exact this
theorem zoz {k:Sb} {m n:Nat} {t:Dt}(ht:ap k t=t)(h:upd m t k n=.mt n):k n=.mt n:=by
 unfold upd at h;cases hk:k n with
 |mt j =>
  rw[hk,zaz]at h
  by_cases hj:j=m
  ·rw[hj,zaX]at h
   have h1:k n=.mt n:=ze3 k n t ht (by rw[h,MtOcc]);rw[hk]at h1
   exact h1
  ·rw[zaN m t j hj]at h;exact h
 |fv x=>rw[hk,zbt]at h;cases h
 |bv i=>rw[hk,zbL]at h;cases h
 |con c l=>rw[hk,za9]at h;cases h
 |fn a b=>rw[hk,zbp]at h;cases h
 |all a=>rw[hk,zaJ]at h;cases h
theorem zmQ(L:List Nat)(u:Nat):∀(N:Nat)(E:List (Dt × Dt))(k:Sb),Idem k->(∀p∈E,∀n,MtOcc n (ap k p.1)\/MtOcc n (ap k p.2)->n∈L)->(L.filter (isFree k)).length<=u->szE k E<=N->∃f o,unF f E k=some o:=by
 induction u with
 |zero =>
  intro N;induction N with
  |zero =>
   intro E k hk hL hu hs;cases E with
   |nil=>exact⟨1,_,rfl⟩
   |cons p r=>rw[zbA]at hs;have:=zb0 (ap k p.1);omega
  |succ N ih =>
   intro E k hk hL hu hs;cases E with
   |nil=>exact⟨1,_,rfl⟩
   |cons p r =>
    obtain⟨a,b⟩:=p;rw[zbA]at hs
    have hp:=zb0 (ap k a);have hr:∀p∈r,∀n,MtOcc n (ap k p.1)\/MtOcc n (ap k p.2)->n∈L:=λp hp=>hL p (Ar _ hp);have du:=hL (a,b) Ay;cases hq:act (ap k a) (ap k b) with
    |skip =>
     obtain⟨f,o,h⟩:=ih r k hk hr hu (by simp only at hs;omega);exact⟨f+1,o,by rw[unF,hq];exact h⟩
    |clash=>exact⟨1,_,by rw[unF,hq]⟩
    |push q =>
     obtain⟨h1,h2⟩:=zev (zba hk a) (zba hk b) hq;obtain⟨f,o,h⟩:=ih (q++r) k hk (λp hp n hn=>by
      rcases AA.1 hp with hp|hp
      ·rw[(h2 p hp).1,(h2 p hp).2]at hn
       refine du n ?_;rcases zbU hq with⟨c,u,v,e1,e2,_,rfl⟩|⟨c,d,c',d',e1,e2,rfl⟩|⟨c,d,e1,e2,rfl⟩
       ·simp only[e1,e2,MtOcc,zaA]
        rcases hn with hn|hn
        ·exact .inl ⟨_,(Bv hp).1,hn⟩
        ·exact .inr ⟨_,(Bv hp).2,hn⟩
       ·simp only[e1,e2,MtOcc]
        simp at hp;rcases hp with rfl|rfl
        ·rcases hn with hn|hn
         ·exact .inl (.inl hn)
         ·exact .inr (.inl hn)
        ·rcases hn with hn|hn
         ·exact .inl (.inr hn)
         ·exact .inr (.inr hn)
       ·simp only[e1,e2,MtOcc]
        simp at hp;rw[hp]at hn
        exact hn
      ·exact hr p hp n hn) hu (by rw[zgU];simp only at hs;omega)
     exact⟨f+1,o,by rw[unF,hq];exact h⟩
    |learn m t =>
     obtain⟨h1,_,h3,_⟩:=zbI hk hq;have:m∈L.filter (isFree k):=Ca.2 ⟨du m h3,(zcl k m).2 h1⟩;have:=List.length_pos_of_mem this;omega
 |succ u ihu =>
  intro N;induction N with
  |zero =>
   intro E k hk hL hu hs;cases E with
   |nil=>exact⟨1,_,rfl⟩
   |cons p r=>rw[zbA]at hs;have:=zb0 (ap k p.1);omega
  |succ N ih =>
   intro E k hk hL hu hs;cases E with
   |nil=>exact⟨1,_,rfl⟩
   |cons p r =>
    obtain⟨a,b⟩:=p;rw[zbA]at hs
    have hp:=zb0 (ap k a);have hr:∀p∈r,∀n,MtOcc n (ap k p.1)\/MtOcc n (ap k p.2)->n∈L:=λp hp=>hL p (Ar _ hp);have du:=hL (a,b) Ay;cases hq:act (ap k a) (ap k b) with
    |skip =>
     obtain⟨f,o,h⟩:=ih r k hk hr hu (by simp only at hs;omega);exact⟨f+1,o,by rw[unF,hq];exact h⟩
    |clash=>exact⟨1,_,by rw[unF,hq]⟩
    |push q =>
     obtain⟨h1,h2⟩:=zev (zba hk a) (zba hk b) hq;obtain⟨f,o,h⟩:=ih (q++r) k hk (λp hp n hn=>by
      rcases AA.1 hp with hp|hp
      ·rw[(h2 p hp).1,(h2 p hp).2]at hn
       refine du n ?_;rcases zbU hq with⟨c,u,v,e1,e2,_,rfl⟩|⟨c,d,c',d',e1,e2,rfl⟩|⟨c,d,e1,e2,rfl⟩
       ·simp only[e1,e2,MtOcc,zaA]
        rcases hn with hn|hn
        ·exact .inl ⟨_,(Bv hp).1,hn⟩
        ·exact .inr ⟨_,(Bv hp).2,hn⟩
       ·simp only[e1,e2,MtOcc]
        simp at hp;rcases hp with rfl|rfl
        ·rcases hn with hn|hn
         ·exact .inl (.inl hn)
         ·exact .inr (.inl hn)
        ·rcases hn with hn|hn
         ·exact .inl (.inr hn)
         ·exact .inr (.inr hn)
       ·simp only[e1,e2,MtOcc]
        simp at hp;rw[hp]at hn
        exact hn
      ·exact hr p hp n hn) hu (by rw[zgU];simp only at hs;omega)
     exact⟨f+1,o,by rw[unF,hq];exact h⟩
    |learn m t =>
     obtain⟨h1,h2,h3,h4⟩:=zbI hk hq;by_cases hb:bad m t=0
     ·have ho:=((zdn m t).1 hb).1
      have ah:(L.filter (isFree (upd m t k))).length<(L.filter (isFree k)).length:=by
       refine zdN _ _ m L (λn hn=>(zcl k n).2 (zoz h2 ((zcl _ n).1 hn))) (du m h3) ((zcl k m).2 h1) ?_;rw[AG]
       intro hf;have:=(zcl _ m).1 hf;unfold upd at this;rw[h1,zaz,zaX]at this
       exact ho (by rw[this,MtOcc])
      obtain⟨f,o,h⟩:=ihu (szE (upd m t k) r) r (upd m t k) (zdo hk h2 ho) (λp hp n hn=>by
       rw[zbi,zbi,zdm,zdm]at hn
       rcases hn with⟨j,hj,hn⟩|⟨j,hj,hn⟩
       ·by_cases hjm:j=m
        ·rw[hjm,zaX]at hn;exact du n (h4 n hn)
        ·rw[zaN m t j hjm,MtOcc]at hn;rw[hn];exact hr p hp j (.inl hj)
       ·by_cases hjm:j=m
        ·rw[hjm,zaX]at hn;exact du n (h4 n hn)
        ·rw[zaN m t j hjm,MtOcc]at hn;rw[hn];exact hr p hp j (.inr hj)) (by omega) (Ai _)
      exact⟨f+1,o,by rw[unF,hq];simp only;rw[Aq hb];exact h⟩
     ·exact⟨1,_,by rw[unF,hq];simp only;rw[Am hb]⟩
def Absorbs(s k:Sb):Prop:=∀n,ap s (k n)=s n
theorem Absorbs.ap {s k:Sb}(h:Absorbs s k)(d:Dt):ap s (ap k d)=ap s d:=by
 rw[zfi];exact zfO _ _ d λn _=>h n
theorem zd1 {s k:Sb} {m:Nat} {t:Dt}(h:Absorbs s (upd m t k))(hm:k m=.mt m):Absorbs s k/\s m=Tx.ap s t:=by
 have h1:s m=Tx.ap s t:=by
  have:=h m;unfold upd at this;rw[hm,zaz,zaX]at this
  exact this.symm
 refine⟨λn=>?_,h1⟩;have:=h n;unfold upd at this;rw[zfi,zfO _ s (k n) (λj _=>?_)]at this
 ·exact this
 ·by_cases hj:j=m
  ·rw[hj,zaX];exact h1.symm
  ·rw[zaN m t j hj,zaz]
theorem zpI {s:Sb} {x y:Dt} {l:List (Dt × Dt)}(h:act x y=.push l):(∀p∈l,ap s p.1=ap s p.2)↔ap s x=ap s y:=by
 rcases zbU h with⟨c,u,v,rfl,rfl,hl,rfl⟩|⟨a,b,c,d,rfl,rfl,rfl⟩|⟨a,b,rfl,rfl,rfl⟩
 ·rw[za9,za9,zbm,zbm]
  constructor
  ·intro h
   have:u.map (ap s)=v.map (ap s):=by
    refine CC (by simpa using hl) λi h1 h2=>?_;simp only[AR]at h1 h2;rw[Cn,Cn]
    exact h (u[i],v[i]) (AS.2 ⟨i,by rw[List.length_zip];omega,by rw[List.getElem_zip]⟩)
   rw[this]
  ·intro h p hp
   injection h with _ h;obtain⟨i,hi,rfl⟩:=AS.1 hp;rw[List.getElem_zip]
   rw[List.length_zip]at hi
   have:=Az (λm=>m[i]?) h;simpa[AY,Ak (show i<u.length by omega),Ak (show i<v.length by omega)] using this
 ·rw[zbp,zbp]
  constructor
  ·intro h;rw[h (a,c) (by simp),h (b,d) (by simp)]
  ·intro h p hp
   injection h with h1 h2;simp at hp;rcases hp with rfl|rfl
   ·exact h1
   ·exact h2
 ·rw[zaJ,zaJ]
  constructor
  ·intro h;rw[h (a,b) (by simp)]
  ·intro h p hp
   injection h with h1;simp at hp;rw[hp]
   exact h1
theorem zmR(f:Nat):∀(E:List (Dt × Dt))(k k':Sb),unF f E k=some (.inr k')->Idem k->(∀n,Plain (k n))->Idem k'/\(∀n,Plain (k' n))/\Absorbs k' k/\∀p∈E,ap k' p.1=ap k' p.2:=by
 induction f with
 |zero=>intro E k k' h;rw[unF]at h;cases h
 |succ f ih =>
  intro E k k' h hk hp;cases E with
  |nil =>
   rw[unF]at h
   injection h with h;injection h with h;subst h;exact⟨hk,hp,hk,λp hp=>by cases hp⟩
  |cons p r =>
   obtain⟨a,b⟩:=p;rw[unF]at h
   cases hq:act (ap k a) (ap k b) with
   |skip =>
    rw[hq]at h
    obtain⟨h1,h2,h3,h4⟩:=ih r k k' h hk hp;refine⟨h1,h2,h3,λp hp=>?_⟩;rcases An.1 hp with e|e
    ·rw[e];show ap k' a=ap k' b;rw[<-h3.ap a,<-h3.ap b,zi7 hq]
    ·exact h4 p e
   |clash=>rw[hq]at h;injection h with h;cases h
   |push l =>
    rw[hq]at h
    obtain⟨h1,h2,h3,h4⟩:=ih (l++r) k k' h hk hp;refine⟨h1,h2,h3,λp hp=>?_⟩;rcases An.1 hp with e|e
    ·rw[e];show ap k' a=ap k' b;rw[<-h3.ap a,<-h3.ap b]
     exact(zpI hq).1 λp hp=>h4 p (By _ hp)
    ·exact h4 p (Bh _ e)
   |learn m t =>
    rw[hq]at h
    simp only at h;by_cases hb:bad m t=0
    ·rw[Aq hb]at h
     obtain⟨e1,e2,_,_⟩:=zbI hk hq;obtain⟨ho,cS⟩:=(zdn m t).1 hb;obtain⟨h1,h2,h3,h4⟩:=ih r (upd m t k) k' h (zdo hk e2 ho) (λn=>by
      unfold upd;rw[zcu]
      refine⟨hp n,λj _=>?_⟩;by_cases hj:j=m
      ·rw[hj,zaX];exact cS
      ·rw[zaN m t j hj];exact za5 j)
     obtain⟨h5,h6⟩:=zd1 h3 e1;refine⟨h1,h2,h5,λp hp=>?_⟩;rcases An.1 hp with e|e
     ·rw[e];show ap k' a=ap k' b;rw[<-h5.ap a,<-h5.ap b]
      obtain⟨(⟨g1,g2⟩|⟨g1,g2⟩),_⟩:=zcc hq
      ·rw[g1,zaz,h6,g2]
      ·rw[g1,zaz,h6,g2]
     ·exact h4 p e
    ·rw[Am hb]at h;injection h with h;cases h
end Tx
end Go.Proofs.YtfafilmklhnngaaGreatDoor
