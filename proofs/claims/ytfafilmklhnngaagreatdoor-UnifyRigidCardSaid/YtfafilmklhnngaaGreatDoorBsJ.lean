import Derived.Test.YtfafilmklhnngaaGreatDoorBsH
import Derived.IntWalk
set_option maxHeartbeats 12800000
namespace Go.Proofs.YtfafilmklhnngaaGreatDoor
open Go.RowKit Lx
set_option maxRecDepth 100000
theorem zk7(s:ByteArray)(w:World):Calls Tryz.prog 139 #[.string s] w λe w'=>e=.returned (.func (.func 176) #[] #[.pointer (some ⟨w.heap.size+1,0,none⟩),.pointer (some ⟨w.heap.size,0,none⟩)]) /\
   w'=(w.alloc (.cells #[.string s] 9)).alloc (.cells #[.int .i64 0] 3):=by
 have iZ:∀(fn:Fn) (first cap:Array Value) (w:World),(Instr.makeFunc fn first cap).run Tryz.prog w=.ok (.func fn first cap) w:=λ_ _ _ _=>rfl;go_in
 go_wp2
 go_ret
 exact⟨rfl,rfl⟩
theorem zk8(w:World)(ba nq:Nat)(t3 t30:TypeId)(x u v0 v1 v2 z0 z1 z2:Value)(ha:w.heap[ba]?=some (.cells #[x] t3 (0,0))):(((((((w.alloc (.cells #[z0,z1,z2] t30)).drewN nq).setCell ⟨ba,0,none⟩ u).setCell ⟨w.heap.size,0,none⟩ v0).setCell ⟨w.heap.size,1,none⟩ v1).setCell ⟨w.heap.size,2,none⟩ v2).heap[w.heap.size]?=some (.cells #[v0,v1,v2] t30 (0,0))) /\
  (((((((w.alloc (.cells #[z0,z1,z2] t30)).drewN nq).setCell ⟨ba,0,none⟩ u).setCell ⟨w.heap.size,0,none⟩ v0).setCell ⟨w.heap.size,1,none⟩ v1).setCell ⟨w.heap.size,2,none⟩ v2).heap[ba]?=some (.cells #[u] t3 (0,0))) /\
  w.grownBy ((((((w.alloc (.cells #[z0,z1,z2] t30)).drewN nq).setCell ⟨ba,0,none⟩ u).setCell ⟨w.heap.size,0,none⟩ v0).setCell ⟨w.heap.size,1,none⟩ v1).setCell ⟨w.heap.size,2,none⟩ v2) (some ba):=by
 have af:=lt_of_block ha;have n0:((w.alloc (.cells #[z0,z1,z2] t30)).drewN nq).heap[w.heap.size]?=some (.cells #[z0,z1,z2] t30 (0,0)):=BZ w _;have a0:((w.alloc (.cells #[z0,z1,z2] t30)).drewN nq).heap[ba]?=some (.cells #[x] t3 (0,0)):=(BX w _ ba af).trans ha;have n1:=(heap_setCell_other _ ⟨ba,0,none⟩ w.heap.size u (by simp;omega)).trans n0;have a1:=one_setCell (u:=u) a0;have n2:=Cl _ w.heap.size 0 _ t30 v0 n1;have a2:=(heap_setCell_other _ ⟨w.heap.size,0,none⟩ ba v0 (by simp;omega)).trans a1;have n3:=Cl _ w.heap.size 1 _ t30 v1 n2;have a3:=(heap_setCell_other _ ⟨w.heap.size,1,none⟩ ba v1 (by simp;omega)).trans a2;have n4:=Cl _ w.heap.size 2 _ t30 v2 n3;have a4:=(heap_setCell_other _ ⟨w.heap.size,2,none⟩ ba v2 (by simp;omega)).trans a3;refine⟨n4,a4,⟨rfl,rfl,rfl,?_,?_⟩⟩
 ·simp[World.setCell]
 ·intro k hk ai
  have ai:k≠ba:=λe=>ai (by rw[e]);rw[heap_setCell_other _ _ _ _ (by simp;omega),heap_setCell_other _ _ _ _ (by simp;omega),heap_setCell_other _ _ _ _ (by simp;omega),heap_setCell_other _ _ _ _ (by simpa using ai)]
  exact BX w _ k hk
theorem zoi(s:ByteArray)(i b n k ba bs:Nat)(w:World)(hs:s.size<=maxLen)(hi:i<=s.size)(bp:bs<ba)
  (ha:w.heap[ba]?=some (.cells #[.int .i64 i] 3 (0,0)))(hb:w.heap[bs]?=some (.cells #[.string s] 9 (0,0)))
  (hB:A_ false (s.data.toList.drop i)=b)(hN:first (s.data.toList.drop (i+b))=(k,n))(rr:i+b<=s.size)(iX:i+b+n<=s.size):Calls Tryz.prog 176 #[.pointer (some ⟨ba,0,none⟩),.pointer (some ⟨bs,0,none⟩)] w λe w'=>e=.returned (.agg #[.int .i64 k,.string (s.extract (i+b) (i+b+n)),.int .i64 ((i:Int)+b)])/\w.grownBy w' (some ba)/\w'.heap[ba]?=some (.cells #[.int .i64 ((i:Int)+b+n)] 3 (0,0)):=by
 have ca:=cell_of_one ha;have cb:=cell_of_one hb;have bD:=lt_of_block ha;have yZ:=lt_of_block hb;have fa:=free_of_one ha;have hA:=EP ha;have hBx:=EP hb;clear ha hb;have hz:=VJ s i;have PB:∀w:World,Calls Tryz.prog 177 #[.string (s.extract i s.size)] w λe w'=>e=.returned (.int .i64 b)/\w'=w:=by
  intro w;have:=zj2 (s.extract i s.size) w (by omega);rw[QR,hB]at this;exact this.mono λe w' h=>⟨h.1,h.2.symm⟩
 clear hz;have hz:=VJ s (i+b);have PF:∀w:World,Calls Tryz.prog 178 #[.string (s.extract (i+b) s.size)] w λe w'=>e=.returned (.tuple #[.int .i64 k,.int .i64 n])/\w=w':=by
  intro w;have:=zmg (s.extract (i+b) s.size) w (by omega);rw[QR,hN]at this;exact this
 clear hz hB hN;unfold maxLen at hs;go_in;go_wp2_with fail;have YX:IntKind.i64.wrap ((i:Int)+(b:Int))=(i:Int)+b:=by exact IntWalk.i64_in _ (by omega)
 go_quiet ((go_at_call 177;exact Calls.quiet_of_same (PB _)))
 clear YX;go_wp2_with (go_at_call 178;refine(PF _).mono ?_;rintro e w' ⟨rfl,rfl⟩);have HW:=zk8 w ba nq 3 176 _ (.int .i64 ((i:Int)+b+n)) (.int .i64 k) (.string (s.extract (i+b) (i+b+n))) (.int .i64 ((i:Int)+b)) (.int .i64 0) (.string ⟨#[]⟩) (.int .i64 0) hA.o;exact Ce (CW rfl _ _ w.heap.size 176 _ (0,0) _ rfl HW.1 Tryz.underlying176 rfl (by kernel_rfl)) rfl ⟨rfl,HW.2.2,HW.2.1⟩
def Ks(t:Tok):List Value:=[.int .i64 t.kind,.string ⟨t.text.toArray⟩,.int .i64 t.at_]
def JR(ts:List Tok):List Value:=ts.flatMap Ks
theorem zgF(ts:List Tok)(t:Tok):JR (ts++[t])=JR ts++Ks t:=by
 simp[JR]
def JY(l:List UInt8):List Tok × Nat × Nat :=
 if 4000<l.length then([],0,2) else match lex l with
 |.ok ts=>(ts,0,0)
 |.error a=>([],a,10)
def Step(s:ByteArray)(i p q k:Nat):Prop:=i<=p/\p<=q/\q<=s.size/\p=i+A_ false (s.data.toList.drop i)/\first (s.data.toList.drop p)=(k,q-p)
theorem U9(s:ByteArray)(i:Nat)(hi:i<=s.size):∃p q k,Step s i p q k:=by
 have h1:=zmh false (s.data.toList.drop i);have h2:=ziN (s.data.toList.drop (i+A_ false (s.data.toList.drop i)));have hz:=Dc s;rw[Dk]at h1 h2;refine⟨_,i+A_ false (s.data.toList.drop i)+(first (s.data.toList.drop (i+A_ false (s.data.toList.drop i)))).2,(first (s.data.toList.drop (i+A_ false (s.data.toList.drop i)))).1,by omega,by omega,by omega,rfl,?_⟩;rw[Dv]
def Gz(s:ByteArray)(i:Nat)(ts:List Tok):Prop:=lex s.data.toList=(sc i (s.data.toList.drop i)).map (ts++·)/\ts.length<=i
theorem zfZ(s:ByteArray):Gz s 0 []:=by
 refine⟨?_,BU _⟩;rw[UZ,DR];cases sc 0 s.data.toList <;> rfl
theorem zgG(s:ByteArray)(i p q k:Nat)(ts:List Tok)(hk:Gz s i ts)(aW:Step s i p q k)(h:¬p<s.size):lex s.data.toList=.ok ts:=by
 obtain⟨_,_,_,h4,_⟩:=aW;have hz:=Dc s;rw[hk.1,PT,Ch]
 ·show Except.ok (ts++[])=_
  rw[CJ]
 ·rw[Ef,<-h4,CH (by omega)]
theorem zks(s:ByteArray)(p:Nat)(h:p<s.size):s.data.toList.drop p≠[]:=by
 rw[w_ s p h];simp
theorem zhI(s:ByteArray)(i p q:Nat)(ts:List Tok)(hk:Gz s i ts)(aW:Step s i p q 0)(h:p<s.size):lex s.data.toList=.error p:=by
 obtain⟨_,_,_,h4,h5⟩:=aW;rw[hk.1,PT,Ef,<-h4,Cg (zks s p h),h5,Ch rfl];rfl
theorem zgH(s:ByteArray)(i p q k:Nat)(ts:List Tok)(hk:Gz s i ts)(aW:Step s i p q k)(h:p<s.size)(h0:k≠0):i<q/\Gz s q (ts++[⟨k,(s.data.toList.drop p).take (q-p),p⟩]):=by
 obtain⟨h1,h2,h3,h4,h5⟩:=aW;have hp:=OD (s.data.toList.drop p) (by rw[h5];exact h0);rw[h5]at hp;have hq:i<q:=by omega
 refine⟨hq,?_,by have:=hk.2;simp;omega⟩;rw[hk.1,PT i,Ef,<-h4,Cg (zks s p h),h5,Cg h0,Ef,show p+(q-p)=q by omega];cases sc q (s.data.toList.drop q) with
 |error a=>rfl
 |ok us=>show Except.ok _=Except.ok _;simp
theorem zfj(s:ByteArray)(p q k:Nat):Ks ⟨k,(s.data.toList.drop p).take (q-p),p⟩=[.int .i64 k,.string (s.extract p q),.int .i64 p]:=by
 unfold Ks;rw[Lib.extract_eq]
theorem zhJ(s:ByteArray)(i p q k ba bs:Nat)(w:World)(hs:s.size<=maxLen)(aW:Step s i p q k)(bp:bs<ba)
  (ha:w.heap[ba]?=some (.cells #[.int .i64 i] 3 (0,0)))(hb:w.heap[bs]?=some (.cells #[.string s] 9 (0,0))):Calls Tryz.prog 176 #[.pointer (some ⟨ba,0,none⟩),.pointer (some ⟨bs,0,none⟩)] w λe w'=>e=.returned (.agg #[.int .i64 k,.string (s.extract p q),.int .i64 p])/\w.grownBy w' (some ba)/\w'.heap[ba]?=some (.cells #[.int .i64 q] 3 (0,0)):=by
 obtain⟨h1,h2,h3,h4,h5⟩:=aW;obtain⟨b,rfl⟩:∃b,p=i+b:=⟨p-i,by omega⟩;obtain⟨n,rfl⟩:∃n,q=i+b+n:=⟨q-(i+b),by omega⟩;rw[Dv]at h5;refine(zoi s i b n k ba bs w hs (by omega) bp ha hb (by omega) h5 (by omega) h3).mono ?_;rintro e w' ⟨rfl,hg,hh⟩;refine⟨by simp,hg,?_⟩;rw[hh];simp
def ar(w:World)(g:Nat)(t:TypeId)(cs:Array Value):Prop:=w.heap[g]?=some (.cells cs t (0,0))
section
variable {w w':World} {g:Nat} {t:TypeId} {cs:Array Value}
theorem ar.lt(h:ar w g t cs):g<w.heap.size:=lt_of_block h
theorem ar.cell(h:ar w g t cs)(i:Nat):w.cell? ⟨g,i,none⟩=cs[i]?:=cell_of_row w g i cs t (0,0) h
theorem ar.frozen(h:ar w g t cs)(i:Nat):w.frozen? ⟨g,i,none⟩=false:=frozen_of_row w g i cs t h
theorem ar.alloc(h:ar w g t cs)(o:Obj):ar (w.alloc o) g t cs:=(BX w o g h.lt).trans h
theorem ar.drew(h:ar w g t cs):ar w.drew g t cs:=h
theorem ar.drewN(h:ar w g t cs)(n:Nat):ar (w.drewN n) g t cs:=h
theorem ar.I8(h:ar w g t cs) {p:Addr}(hp:g≠p.block)(u:Value):ar (w.setCell p u) g t cs:=(B8 w p u g hp).trans h
theorem ar.grown {row:Option Nat}(h:ar w g t cs)(hb:w.grownBy w' row)(hg:some g≠row):ar w' g t cs:=(hb.block g h.lt hg).trans h
theorem ar.below {B:Nat}(h:ar w g t cs)(hb:Below B w w')(hg:g<B):ar w' g t cs:=(hb.block g hg).trans h
theorem ar.Gw {g':Nat} {t':TypeId} {P':Array Value}(h:ar w g t cs)(h':ar w g' t' P')(ai:t≠t'):g≠g':=by
 rintro rfl;unfold ar at h h';rw[h]at h';injection h' with h';injection h' with _ ht;exact ai ht
theorem VT {base:Nat} {e:TypeId} {size n:Nat} {v:Value} {xs:List Value}(h:w.ownsRow base e size v n xs)(hg:ar w g t cs)(ai:e≠t):some g≠v.ownBlock:=by
 rcases h.2 with⟨rfl,_⟩|⟨g',cap,cur,rfl,_,hh,_⟩
 ·simp[Value.ownBlock]
 ·intro he
  have:g=g':=by simpa[Value.ownBlock] using he
  subst this;exact ar.Gw (t:=e) hh hg ai rfl
end
end Go.Proofs.YtfafilmklhnngaaGreatDoor
namespace Go.Proofs.YtfafilmklhnngaaGreatDoor
namespace Lx
theorem zoj(p:UInt8->Bool)(l:List UInt8)(h:∀c∈l,p c=true):span p l=l.length:=by
 induction l with
 |nil=>rfl
 |cons c r ih =>
  rw[span,Ch (h c Cs),ih (λd hd=>h d (Cf _ hd))];rfl
theorem zmk(c:UInt8)(h:isLet c=true):(65<=c.toNat/\c.toNat<=90)\/(97<=c.toNat/\c.toNat<=122):=by
 simp[isLet,GK]at h;omega
theorem zml(c:UInt8)(h:f_ c=true):48<=c.toNat/\c.toNat<=57:=by
 simp[f_]at h;omega
end Lx
namespace Tx
open Lx
inductive Ty where
 |var (x:List UInt8)
 |mt (n:Nat)
 |h_ (c:List UInt8) (args:List Ty)
 |fn (a b:Ty)
 |all (x:List UInt8) (t:Ty)
def isKey(t:Tok)(s:List UInt8):Bool:=t.kind==3&&t.text==s
def Ft(t:Tok)(s:List UInt8):Bool:=t.kind==6&&t.text==s
def ub:List UInt8:=[102,111,114,97,108,108]
def atomic(t:Tok):Bool:=t.kind==1||t.kind==5||t.kind==2||t.text==[40]
def vars:List Tok->List (List UInt8) × List Tok
 |[]=>([],[])
 |t::r=>if t.kind=1 then(t.text::(vars r).1,(vars r).2) else([],t::r)
def numOf(l:List UInt8):Nat:=l.foldl (λn c=>10*n+(c.toNat-48)) 0
def G5(xs:List (List UInt8))(t:Ty):Ty:=xs.foldr Ty.all t
def Ht(p:Tok->Bool):List Tok->Option (List Tok)
 |[]=>none
 |t::r=>if p t then some r else none
mutual
def read:Nat->List Tok->Option (Ty × List Tok)
 |0,_=>none
 |f+1,l =>
  match Ht (isKey · ub) l with
  |some r =>
   if(vars r).1=[] then none
   else match Ht (Ft · [46]) (vars r).2 with
    |none=>none
    |some r2=>(read f r2).map λx=>(G5 (vars r).1 x.1,x.2)
  |none =>
   match app f l with
   |none=>none
   |some (a,r) =>
    match Ht (Ft · [45,62]) r with
    |none=>some (a,r)
    |some r2=>(read f r2).map λx=>(.fn a x.1,x.2)
def app:Nat->List Tok->Option (Ty × List Tok)
 |0,_=>none
 |f+1,l =>
  match l with
  |[]=>none
  |t::r=>if t.kind=2 then(args f r).map λx=>(.h_ t.text x.1,x.2) else atom f (t::r)
def args:Nat->List Tok->Option (List Ty × List Tok)
 |0,_=>none
 |f+1,l =>
  match l with
  |[]=>some ([],[])
  |t::r =>
   if atomic t then
    match atom f (t::r) with
    |none=>none
    |some (x,r2)=>(args f r2).map λy=>(x::y.1,y.2)
   else some ([],t::r)
def atom:Nat->List Tok->Option (Ty × List Tok)
 |0,_=>none
 |f+1,l =>
  match l with
  |[]=>none
  |t::r =>
   if t.kind=1 then some (.var t.text,r)
   else if t.kind=2 then some (.h_ t.text [],r)
   else if t.kind=5 then some (.mt (numOf (t.text.drop 1)),r)
   else if t.text=[40] then
    match read f r with
    |none=>none
    |some (x,r2)=>(Ht (Ft · [41]) r2).map λr3=>(x,r3)
   else none
end
def FH(l:List Tok):Nat:=4*l.length+4
mutual
def Ty.depth:Ty->Nat
 |.var _=>1
 |.mt _=>1
 |.h_ _ l=>Kl l+1
 |.fn a b=>max a.depth b.depth+1
 |.all _ t=>t.depth+1
def Kl:List Ty->Nat
 |[]=>0
 |t::r=>max t.depth (Kl r)
end
def parse(s:List UInt8):Except Nat Ty :=
 match JY s with
 |(ts,_,0) =>
  match read (FH ts) ts with
  |some (t,[])=>if 50<t.depth then .error 3 else .ok t
  |_=>.error 20
 |(_,_,e)=>.error e
def digit(n:Nat):UInt8:=(48+n % 10).toUInt8
def Gh:Nat->Nat->List UInt8
 |0,_=>[]
 |f+1,n=>if n<10 then[digit n] else Gh f (n / 10)++[digit n]
def dec(n:Nat):List UInt8:=Gh 20 n
def Ty.LL:Ty->Bool
 |.fn _ _=>true
 |.all _ _=>true
 |_=>false
def Ty.ON:Ty->Bool
 |.fn _ _=>true
 |.all _ _=>true
 |.h_ _ (_::_)=>true
 |_=>false
mutual
def Ty.print:Ty->List UInt8
 |.var x=>x
 |.mt n=>63::dec n
 |.h_ c l=>c++ID l
 |.fn a b=>(if a.LL then 40::(a.print++[41]) else a.print)++[32,45,62,32]++b.print
 |.all x t=>ub++32::x++J3 t
def ID:List Ty->List UInt8
 |[]=>[]
 |t::r=>(if t.ON then 32::40::(t.print++[41]) else 32::t.print)++ID r
def J3:Ty->List UInt8
 |.all y t=>32::y++J3 t
 |.var x=>[46,32]++x
 |.mt n=>[46,32]++(63::dec n)
 |.h_ c l=>[46,32]++(c++ID l)
 |.fn a b=>[46,32]++((if a.LL then 40::(a.print++[41]) else a.print)++[32,45,62,32]++b.print)
end
theorem SH(y:List UInt8)(t:Ty):J3 (.all y t)=32::y++J3 t:=by rw[J3]
theorem Rc(t:Ty)(h:∀y u,t≠.all y u):J3 t=[46,32]++t.print:=by
 cases t with
 |all y u=>exact absurd rfl (h y u)
 |var x=>rw[J3,Ty.print]
 |mt n=>rw[J3,Ty.print]
 |h_ c l=>rw[J3,Ty.print]
 |fn a b=>rw[J3,Ty.print]
def FJ {α:Type} [DecidableEq α](x:α)(l:List α):List α:=if x∈l then l else l++[x]
mutual
def Ty.FU(bound:List (List UInt8)):Ty->List (List UInt8)->List (List UInt8)
 |.var x,out=>if x∈bound then out else FJ x out
 |.mt _,out=>out
 |.h_ _ l,out=>NU bound l out
 |.fn a b,out=>b.FU bound (a.FU bound out)
 |.all x t,out=>t.FU (bound++[x]) out
def NU(bound:List (List UInt8)):List Ty->List (List UInt8)->List (List UInt8)
 |[],out=>out
 |t::r,out=>NU bound r (t.FU bound out)
end
def Ty.free(t:Ty):List (List UInt8):=t.FU [] []
mutual
def Ty.z_:Ty->List Nat->List Nat
 |.var _,out=>out
 |.mt n,out=>FJ n out
 |.h_ _ l,out=>Md l out
 |.fn a b,out=>b.z_ (a.z_ out)
 |.all _ t,out=>t.z_ out
def Md:List Ty->List Nat->List Nat
 |[],out=>out
 |t::r,out=>Md r (t.z_ out)
end
def Ty.RA(t:Ty):List Nat:=t.z_ []
mutual
def Ty.r_:Ty->Bool
 |.var _=>false
 |.mt _=>false
 |.h_ _ l=>IU l
 |.fn a b=>a.r_||b.r_
 |.all _ _=>true
def IU:List Ty->Bool
 |[]=>false
 |t::r=>t.r_||IU r
end
end Tx
namespace Tx
open Lx
theorem Q7(n:Nat):(digit n).toNat=48+n % 10:=by
 unfold digit;rw[Nat.toUInt8_eq,UInt8.toNat_ofNat'];omega
theorem zgY(l:List UInt8)(c:UInt8):numOf (l++[c])=10*numOf l+(c.toNat-48):=by
 simp[numOf]
theorem zgZ(f n:Nat)(h:n<10 ^ f):numOf (Gh f n)=n:=by
 induction f generalizing n with
 |zero=>simp at h;subst h;rfl
 |succ f ih =>
  rw[Gh];split
  ·show 10*0+((digit n).toNat-48)=n
   rw[Q7];omega
  ·rw[zgY,ih (n / 10) (by rw[EN]at h;omega),Q7]
   omega
end Tx
namespace Lx
def Mf(m:Bool)(c:UInt8):Bool:=if c=10 then false else if c=35 then true else m
def rm:Bool->List UInt8->Bool
 |m,[]=>m
 |m,c::r=>rm (Mf m c) r
def Re:Bool->List UInt8->Prop
 |_,[]=>True
 |m,c::r=>(Mf m c=true\/c=32\/c=9\/c=10)/\Re (Mf m c) r
theorem zri(m:Bool)(l:List UInt8):Re m (l.take (A_ m l))/\(A_ m l<l.length->rm m (l.take (A_ m l))=false):=by
 induction l generalizing m with
 |nil=>simp[A_,Re]
 |cons c r ih =>
  cases m with
  |true =>
   have e:A_ true (c::r)=A_ (c != 10) r+1:=rfl;have hs:Mf true c=(c != 10):=by
    unfold Mf;by_cases h:c=10
    ·simp[h]
    ·have h2:(c != 10)=true:=by simpa using h
     rw[Cg h,h2];split <;> rfl
   rw[e,CX];obtain⟨h1,h2⟩:=ih (c != 10);refine⟨⟨?_,by rw[hs];exact h1⟩,λhl=>?_⟩
   ·by_cases h:c=10
    ·exact .inr (.inr (.inr h))
    ·left;rw[hs];simpa using h
   ·show rm (Mf true c) _=false
    rw[hs];exact h2 (by simpa using hl)
  |false =>
   by_cases hb:c=32\/c=9\/c=10
   ·have e:A_ false (c::r)=A_ false r+1:=by rw[A_,Ch hb]
    have hs:Mf false c=false:=by
     unfold Mf;rcases hb with h|h|h <;> rw[h] <;> decide
    rw[e,CX];obtain⟨h1,h2⟩:=ih false;refine⟨⟨.inr hb,by rw[hs];exact h1⟩,λhl=>?_⟩;show rm (Mf false c) _=false;rw[hs];exact h2 (by simpa using hl)
   ·by_cases eh:c=35
    ·have e:A_ false (c::r)=A_ true r+1:=by rw[A_,Cg hb,Ch eh]
     have hs:Mf false c=true:=by rw[eh];decide
     rw[e,CX];obtain⟨h1,h2⟩:=ih true;refine⟨⟨.inl hs,by rw[hs];exact h1⟩,λhl=>?_⟩;show rm (Mf false c) _=false;rw[hs];exact h2 (by simpa using hl)
    ·have e:A_ false (c::r)=0:=by rw[A_,Cg hb,Cg eh]
     rw[e];exact⟨trivial,λ_=>rfl⟩
def Rn(l:List UInt8):Nat->List Tok->Prop
 |f,[]=>f<=l.length/\Re false (l.drop f)
 |f,t::r=>f<=t.at_/\t.text≠[]/\t.at_+t.text.length<=l.length/\(l.drop t.at_).take t.text.length=t.text /\
   Re false ((l.drop f).take (t.at_-f))/\rm false ((l.drop f).take (t.at_-f))=false/\Rn l (t.at_+t.text.length) r
theorem zrj(L:List UInt8)(n:Nat):∀(i:Nat)(ts:List Tok),L.length-i<=n->i<=L.length->sc i (L.drop i)=.ok ts->Rn L i ts:=by
 induction n with
 |zero =>
  intro i ts hn hi h;have hl:L.drop i=[]:=CH (by omega);rw[hl,sc]at h;injection h with h;subst h;exact⟨hi,by rw[hl];trivial⟩
 |succ n ih =>
  intro i ts hn hi h;obtain⟨aU,bZ⟩:=zri false (L.drop i);have a8:=zmh false (L.drop i);rw[PT,Ef]at h;split at h
  ·rename_i h0
   injection h with h;subst h;refine⟨hi,?_⟩;have h1:=List.drop_eq_nil_iff.1 h0;rw[Cq (by rw[Dk];omega)]at aU
   exact aU
  ·rename_i h0
   split at h
   ·cases h
   ·rename_i h1
    have hp:=OD _ h1;rw[Dk]at hp a8 bZ;have af:i+A_ false (L.drop i)<L.length:=by
     rcases Eb (i+A_ false (L.drop i)) L.length with h|h
     ·exact h
     ·exact absurd (CH h) h0
    rw[Ef]at h;cases hx:sc (i+A_ false (L.drop i)+(first (L.drop (i+A_ false (L.drop i)))).2) (L.drop (i+A_ false (L.drop i)+(first (L.drop (i+A_ false (L.drop i)))).2)) with
    |error e=>rw[hx]at h;cases h
    |ok us =>
     rw[hx]at h;have h:Except.ok (_::us)=Except.ok ts:=h;injection h with h;subst h;have hlen:((L.drop (i+A_ false (L.drop i))).take (first (L.drop (i+A_ false (L.drop i)))).2).length=(first (L.drop (i+A_ false (L.drop i)))).2:=by
      rw[DH,Dk];omega
     refine⟨by simp,?_,?_,?_,?_,?_,?_⟩
     ·intro e
      have e2:=Cp List.length e;rw[hlen]at e2;simp at e2;omega
     ·simp only[hlen];omega
     ·simp only[hlen]
     ·simp only[Dv];exact aU
     ·simp only[Dv];exact bZ (by omega)
     ·simp only[hlen]
      exact ih _ us (by omega) (by omega) hx
theorem zkq(l:List UInt8)(ts:List Tok)(h:lex l=.ok ts):Rn l 0 ts :=
 zrj l l.length 0 ts (by omega) (by omega) (by rw[DR,<-UZ];exact h)
end Lx
namespace Lx
theorem VH(p:UInt8->Bool)(l:List UInt8)(n:Nat)(h:span p l=n):span p (l.take n)=n:=by
 induction l generalizing n with
 |nil=>simp[span]at h ⊢;omega
 |cons c r ih =>
  rw[span]at h;by_cases hp:p c=true
  ·rw[Ch hp]at h
   obtain⟨m,rfl⟩:∃m,n=m+1:=⟨n-1,by omega⟩;rw[CX,span,Ch hp,ih m (by omega)]
  ·rw[Cg hp]at h
   subst h;rfl
theorem zfY(l:List UInt8)(n:Nat)(h:number l=(4,n)):number (l.take n)=(4,n):=by
 have hb:Fe l=false:=by
  cases hx:Fe l with
  |false=>rfl
  |true=>unfold number at h;rw[Ch hx]at h;simp at h
 unfold number at h;rw[hb,Cg (by simp)]at h;have hs:span f_ l=n:=by injection h
 have hn:n≠0:=by intro e;subst e;simp[Fe,hs]at hb
 have hh:(l.take n).headD 0=l.headD 0:=by
  cases l with
  |nil=>simp
  |cons c r=>obtain⟨m,rfl⟩:∃m,n=m+1:=⟨n-1,by omega⟩;rfl
 have aV:Fe (l.take n)=Fe l:=by unfold Fe;rw[VH _ _ _ hs,hs,hh]
 unfold number;rw[aV,hb,Cg (by simp),VH _ _ _ hs]
theorem zk6(r:List UInt8)(k n:Nat)(h:first r=(k,n))(hk:k≠0):first (r.take n)=(k,n):=by
 have hp:=OD r (by rw[h];exact hk);rw[h]at hp;simp only at hp;cases r with
 |nil=>simp[first]at h;omega
 |cons c r =>
  obtain⟨m,rfl⟩:∃m,n=m+1:=⟨n-1,by omega⟩;rw[CX,first];rw[first]at h;have e:c::r.take m=(c::r).take (m+1):=rfl;by_cases h1:isLet c=true
  ·rw[Ch h1]at h ⊢
   unfold word at h ⊢;by_cases hs:16<span G7 (c::r)
   ·rw[Ch hs]at h;injection h with h _;omega
   ·rw[Cg hs]at h
    injection h with ha hb;have ht:=VH G7 (c::r) (m+1) hb;rw[e,ht,Cg (by omega),List.take_take,Nat.min_self,<-ha,hb]
  ·rw[Cg h1]at h ⊢
   by_cases h2:f_ c=true
   ·rw[Ch h2]at h ⊢
    have fi:number (c::r)=(4,m+1):=by
     rcases KV (c::r) with e|⟨e,_,_⟩
     ·rw[e]at h;injection h with h _;omega
     ·rw[e]at h ⊢;injection h with _ hb;rw[hb]
    rw[fi]at h;rw[e,zfY _ _ fi];exact h
   ·rw[Cg h2]at h ⊢
    by_cases h3:c=63
    ·rw[Ch h3]at h ⊢
     unfold JZ at h ⊢;rw[show(c::r).drop 1=r from rfl]at h;rw[show(c::r.take m).drop 1=r.take m from rfl];by_cases h0:(number r).2=0
     ·rw[Ch h0]at h;injection h with h _;omega
     ·rw[Cg h0]at h
      injection h with ha hb;have hm:(number r).2=m:=by omega
      have fi:number r=(4,m):=by
       rcases KV r with e|⟨e,_,_⟩
       ·rw[e]at h0;exact absurd rfl h0
       ·rw[e]at hm ⊢;rw[<-hm]
      rw[zfY _ _ fi,Cg (by rw[<-hm];exact h0),<-ha];simp;omega
    ·rw[Cg h3]at h ⊢
     unfold sign at h ⊢;by_cases Ni:(pre [45,62] (c::r)||pre [124,62] (c::r))=true
     ·rw[Ch Ni]at h
      injection h with ha hb;obtain rfl:m=1:=by omega
      have hq:(pre [45,62] (c::r.take 1)||pre [124,62] (c::r.take 1))=true:=by
       cases r with
       |nil=>simp[pre,List.isPrefixOf]at Ni
       |cons x r=>simpa[pre,List.isPrefixOf] using Ni
      rw[Ch hq,<-ha]
     ·rw[Cg Ni]at h
      by_cases hs:(c::r).headD 0∈Ik
      ·rw[Ch hs]at h
       injection h with ha hb;obtain rfl:m=0:=by omega
       rw[CK,Cg (by simp[pre,List.isPrefixOf]),Ch (by simpa using hs),<-ha]
      ·rw[Cg hs]at h;injection h with h _;omega
def Good(t:Tok):Prop:=t.text≠[]/\first t.text=(t.kind,t.text.length)/\t.kind≠0
theorem zqr(n:Nat):∀(i:Nat)(l:List UInt8)(ts:List Tok),l.length<=n->sc i l=.ok ts->∀t∈ts,Good t:=by
 induction n with
 |zero =>
  intro i l ts hn h t ht;have:l=[]:=Cn (by omega);subst this;injection h with h;subst h;cases ht
 |succ n ih =>
  intro i l ts hn h t ht;rw[PT]at h;split at h
  ·injection h with h;subst h;cases ht
  ·rename_i h0
   split at h
   ·cases h
   ·rename_i h1
    have hp:=OD _ h1;cases hx:sc (i+A_ false l+(first (l.drop (A_ false l))).2) ((l.drop (A_ false l)).drop (first (l.drop (A_ false l))).2) with
    |error e=>rw[hx]at h;cases h
    |ok us =>
     rw[hx]at h;have h:Except.ok (_::us)=Except.ok ts:=h;injection h with h;subst h;rcases Cd.1 ht with rfl|ht
     ·have hlen:((l.drop (A_ false l)).take (first (l.drop (A_ false l))).2).length=(first (l.drop (A_ false l))).2:=by
       rw[DH];omega
      refine⟨?_,?_,h1⟩
      ·intro e
       have e2:=Cp List.length e;rw[hlen]at e2;simp at e2;omega
      ·simp only[hlen]
       exact zk6 _ _ _ rfl h1
     ·exact ih _ _ us (by simp only[Dk]at hp ⊢;omega) hx t ht
theorem ziM(l:List UInt8)(ts:List Tok)(h:lex l=.ok ts):∀t∈ts,Good t:=zqr l.length 0 l ts (BU _) (by rw[<-UZ];exact h)
end Lx
namespace Tx
open Lx
def Gd(k:Nat)(s:List UInt8):Prop:=s≠[]/\first s=(k,s.length)/\k≠0
inductive Nm:Ty->Prop
 |var (x):Gd 1 x->Nm (.var x)
 |mt (n):n<=999999->Nm (.mt n)
 |h_ (c l):Gd 2 c->(∀t∈l,Nm t)->Nm (.h_ c l)
 |fn (a b):Nm a->Nm b->Nm (.fn a b)
 |all (x t):Gd 1 x->Nm t->Nm (.all x t)
theorem zge(n:Nat):f_ (digit n)=true:=by
 have:=Q7 n;simp[f_];omega
theorem zpo(f n:Nat):∀d∈Gh f n,f_ d=true:=by
 induction f generalizing n with
 |zero=>intro d h;simp[Gh]at h
 |succ f ih =>
  intro d h;rw[Gh]at h;split at h
  ·simp at h;subst h;exact zge n
  ·rw[Cr]at h
   rcases h with h|h
   ·exact ih _ d h
   ·simp at h;subst h;exact zge n
theorem Sl(f g n:Nat)(hg:n<10 ^ g)(h1:1<=g):(Gh f n).length<=g:=by
 induction f generalizing n g with
 |zero=>simp[Gh]
 |succ f ih =>
  rw[Gh];split
  ·simpa using h1
  ·rename_i hn
   obtain⟨g,rfl⟩:∃k,g=k+1:=⟨g-1,by omega⟩;have oW:1<=g:=by
    rcases Nat.eq_zero_or_pos g with e|e
    ·subst e;simp at hg;omega
    ·exact e
   have:=ih g (n / 10) (by rw[EN]at hg;omega) oW;simp;omega
end Tx
namespace Tx
open Lx
mutual
def Ty.size:Ty->Nat
 |.var _=>1
 |.mt _=>1
 |.h_ _ l=>q_ l+1
 |.fn a b=>a.size+b.size+1
 |.all _ t=>t.size+1
def q_:List Ty->Nat
 |[]=>0
 |t::r=>t.size+q_ r
end
def E_(l:List Tok):Prop:=∀t∈l,Lx.Good t
theorem E_.tail {t:Tok} {l:List Tok}(h:E_ (t::l)):E_ l:=λx hx=>h x (Cf _ hx)
theorem E_.head {t:Tok} {l:List Tok}(h:E_ (t::l)):Lx.Good t:=h t Cs
theorem Sn(p:Tok->Bool)(l r:List Tok)(h:Ht p l=some r):∃t,l=t::r/\p t=true:=by
 cases l with
 |nil=>simp[Ht]at h
 |cons t l =>
  rw[Ht]at h;split at h
  ·rename_i hp
   injection h with h;exact⟨t,by rw[h],hp⟩
  ·cases h
theorem znn(l:List Tok)(h:E_ l):(∀x∈(vars l).1,Gd 1 x)/\E_ (vars l).2/\(vars l).1.length+(vars l).2.length=l.length:=by
 induction l with
 |nil=>exact⟨λx hx=>by simp[vars]at hx,λx hx=>by simp[vars]at hx,rfl⟩
 |cons t r ih =>
  obtain⟨i1,i2,i3⟩:=ih h.tail;rw[vars];by_cases hk:t.kind=1
  ·rw[Ch hk]
   refine⟨λx hx=>?_,i2,by simp;omega⟩;rcases Cd.1 hx with rfl|hx
   ·have:=h.head
    rw[Lx.Good,hk]at this;exact⟨this.1,this.2.1,by omega⟩
   ·exact i1 x hx
  ·rw[Cg hk]
   exact⟨λx hx=>by simp at hx,h,by simp⟩
theorem zju(l:List UInt8)(h:∀d∈l,f_ d=true):numOf l<10 ^ l.length:=by
 have key:∀(l:List UInt8) (a:Nat),(∀d∈l,f_ d=true)->l.foldl (λn c=>10*n+(c.toNat-48)) a<(a+1)*10 ^ l.length:=by
  intro l;induction l with
  |nil=>intro a _;simp
  |cons c r ih =>
   intro a h;have hc:=zml c (h c Cs);have:=ih (10*a+(c.toNat-48)) (λd hd=>h d (Cf _ hd));rw[Ep,Ca,EN];refine Ci this ?_;rw[Nat.mul_comm (10 ^ r.length) 10,<-Nat.mul_assoc];exact Nat.mul_le_mul_right _ (by omega)
 have:=key l 0 h;simpa[numOf] using this
theorem zif(p:UInt8->Bool)(l:List UInt8)(h:span p l=l.length):∀d∈l,p d=true:=by
 induction l with
 |nil=>intro d hd;cases hd
 |cons c r ih =>
  rw[span]at h;by_cases hp:p c=true
  ·rw[Ch hp]at h
   intro d hd;rcases Cd.1 hd with rfl|hd
   ·exact hp
   ·exact ih (by simpa using h) d hd
  ·rw[Cg hp]at h;simp at h
theorem zpn(t:Tok)(h:Lx.Good t)(hk:t.kind=5):numOf (t.text.drop 1)<=999999:=by
 obtain⟨h1,h2,_⟩:=h;rw[hk]at h2;cases hx:t.text with
 |nil=>exact absurd hx h1
 |cons c r =>
  rw[hx]at h2;show numOf r<=999999;rw[first]at h2;split at h2
  ·exfalso
   unfold word at h2;split at h2
   ·injection h2 with a _;omega
   ·injection h2 with a _
    unfold o_ at a;split at a
    ·omega
    ·split at a <;> omega
  ·split at h2
   ·exfalso
    rcases KV (c::r) with e|⟨e,_,_⟩ <;> rw[e]at h2 <;> injection h2 with a _ <;> omega
   ·split at h2
    ·unfold JZ at h2
     split at h2
     ·injection h2 with a _;omega
     ·rename_i hn
      injection h2 with _ b;rw[show(c::r).drop 1=r from rfl]at b hn
      rcases KV r with e|⟨e,_,h6⟩
      ·rw[e]at hn;exact absurd rfl hn
      ·rw[e]at b
       simp at b;have hs:span f_ r=r.length:=by omega
       have:=zju r (zif f_ r hs);have:(10:Nat) ^ r.length<=10 ^ 6:=EC (by omega) (by omega);omega
    ·exfalso
     unfold sign at h2;split at h2
     ·injection h2 with a _;omega
     ·split at h2
      ·injection h2 with a _;omega
      ·injection h2 with a _;omega
theorem zq0(xs:List (List UInt8))(t:Ty)(hx:∀x∈xs,Gd 1 x)(ht:Nm t):Nm (G5 xs t):=by
 induction xs with
 |nil=>exact ht
 |cons x xs ih=>exact .all x _ (hx x Cs) (ih λy hy=>hx y (Cf _ hy))
theorem zno(xs:List (List UInt8))(t:Ty):(G5 xs t).size=xs.length+t.size:=by
 induction xs with
 |nil=>simp[G5]
 |cons x xs ih =>
  show(Ty.all x (G5 xs t)).size=_;rw[Ty.size,ih,Ca];omega
theorem Qq(f:Nat):(∀l t r,E_ l->read f l=some (t,r)->Nm t/\E_ r/\t.size+r.length<=l.length) /\
  (∀l t r,E_ l->app f l=some (t,r)->Nm t/\E_ r/\t.size+r.length<=l.length) /\
  (∀l ts r,E_ l->args f l=some (ts,r)->(∀t∈ts,Nm t)/\E_ r/\q_ ts+r.length<=l.length) /\
  (∀l t r,E_ l->atom f l=some (t,r)->Nm t/\E_ r/\t.size+r.length<=l.length):=by
 induction f with
 |zero=>exact⟨(λ_ _ _ _ h=>by simp[read]at h),(λ_ _ _ _ h=>by simp[app]at h),(λ_ _ _ _ h=>by simp[args]at h),(λ_ _ _ _ h=>by simp[atom]at h)⟩
 |succ f ih =>
  obtain⟨i1,i2,i3,i4⟩:=ih;refine⟨λl t r hg h=>?_,λl t r hg h=>?_,λl ts r hg h=>?_,λl t r hg h=>?_⟩
  ·rw[read]at h
   cases he:Ht (isKey · ub) l with
   |some r1 =>
    rw[he]at h;simp only at h;obtain⟨t0,rfl,_⟩:=Sn _ _ _ he;obtain⟨v1,v2,v3⟩:=znn r1 hg.tail;split at h
    ·cases h
    ·cases OM:Ht (Ft · [46]) (vars r1).2 with
     |none=>rw[OM]at h;cases h
     |some r2 =>
      rw[OM]at h;simp only at h;obtain⟨t1,e1,_⟩:=Sn _ _ _ OM;rw[e1]at v2 v3;cases hr:read f r2 with
      |none=>rw[hr]at h;cases h
      |some x =>
       obtain⟨u,r3⟩:=x;rw[hr]at h;simp only[DJ,Dj,DE]at h;obtain⟨rfl,rfl⟩:=h;obtain⟨a,b,c⟩:=i1 r2 u r3 v2.tail hr;refine⟨zq0 _ _ v1 a,b,?_⟩;rw[zno];simp only[Ca]at v3 ⊢;omega
   |none =>
    rw[he]at h;simp only at h;cases ha:app f l with
    |none=>rw[ha]at h;cases h
    |some x =>
     obtain⟨u,r1⟩:=x;rw[ha]at h;simp only at h;obtain⟨a,b,c⟩:=i2 l u r1 hg ha;cases OM:Ht (Ft · [45,62]) r1 with
     |none =>
      rw[OM]at h;simp only[Dj,DE]at h;obtain⟨rfl,rfl⟩:=h;exact⟨a,b,c⟩
     |some r2 =>
      rw[OM]at h;simp only at h;obtain⟨t1,rfl,_⟩:=Sn _ _ _ OM;cases hr:read f r2 with
      |none=>rw[hr]at h;cases h
      |some x =>
       obtain⟨v,r3⟩:=x;rw[hr]at h;simp only[DJ,Dj,DE]at h;obtain⟨rfl,rfl⟩:=h;obtain⟨a2,b2,c2⟩:=i1 r2 v r3 b.tail hr;refine⟨.fn _ _ a a2,b2,?_⟩;rw[Ty.size];simp only[Ca]at c;omega
  ·cases l with
   |nil=>rw[app]at h;cases h
   |cons t0 l =>
    rw[app]at h;split at h
    ·rename_i hk
     cases ha:args f l with
     |none=>rw[ha]at h;cases h
     |some x =>
      obtain⟨us,r1⟩:=x;rw[ha]at h;simp only[DJ,Dj,DE]at h;obtain⟨rfl,rfl⟩:=h;obtain⟨a,b,c⟩:=i3 l us r1 hg.tail ha;have oV:=hg.head;rw[Lx.Good,hk]at oV;refine⟨.h_ _ _ ⟨oV.1,oV.2.1,by omega⟩ a,b,?_⟩;rw[Ty.size];simp only[Ca];omega
    ·exact i4 _ _ _ hg h
  ·cases l with
   |nil =>
    rw[args]at h;simp only[Dj,DE]at h;obtain⟨rfl,rfl⟩:=h;exact⟨(λt ht=>by cases ht),hg,by simp[q_]⟩
   |cons t0 l =>
    rw[args]at h;split at h
    ·cases ha:atom f (t0::l) with
     |none=>rw[ha]at h;cases h
     |some x =>
      obtain⟨u,r1⟩:=x;rw[ha]at h;simp only at h;obtain⟨a,b,c⟩:=i4 _ u r1 hg ha;cases hb:args f r1 with
      |none=>rw[hb]at h;cases h
      |some y =>
       obtain⟨us,r2⟩:=y;rw[hb]at h;simp only[DJ,Dj,DE]at h;obtain⟨rfl,rfl⟩:=h;obtain⟨a2,b2,c2⟩:=i3 _ us r2 b hb;refine⟨λt ht=>?_,b2,?_⟩
       ·rcases Cd.1 ht with rfl|ht
        ·exact a
        ·exact a2 t ht
       ·rw[q_];omega
    ·simp only[Dj,DE]at h
     obtain⟨rfl,rfl⟩:=h;exact⟨(λt ht=>by cases ht),hg,by simp[q_]⟩
  ·cases l with
   |nil=>rw[atom]at h;cases h
   |cons t0 l =>
    rw[atom]at h;have oV:=hg.head;split at h
    ·rename_i hk
     simp only[Dj,DE]at h;obtain⟨rfl,rfl⟩:=h;rw[Lx.Good,hk]at oV;exact⟨.var _ ⟨oV.1,oV.2.1,by omega⟩,hg.tail,by rw[Ty.size];simp;omega⟩
    ·split at h
     ·rename_i hk
      simp only[Dj,DE]at h;obtain⟨rfl,rfl⟩:=h;rw[Lx.Good,hk]at oV;exact⟨.h_ _ _ ⟨oV.1,oV.2.1,by omega⟩ (λt ht=>by cases ht),hg.tail,by rw[Ty.size,q_];simp;omega⟩
     ·split at h
      ·rename_i hk
       simp only[Dj,DE]at h;obtain⟨rfl,rfl⟩:=h;exact⟨.mt _ (zpn t0 oV hk),hg.tail,by rw[Ty.size];simp;omega⟩
      ·split at h
       ·cases hr:read f l with
        |none=>rw[hr]at h;cases h
        |some x =>
         obtain⟨u,r1⟩:=x;rw[hr]at h;simp only at h;obtain⟨a,b,c⟩:=i1 l u r1 hg.tail hr;cases he:Ht (Ft · [41]) r1 with
         |none=>rw[he]at h;cases h
         |some r2 =>
          rw[he]at h;simp only[DJ,Dj,DE]at h;obtain⟨rfl,rfl⟩:=h;obtain⟨t1,rfl,_⟩:=Sn _ _ _ he;refine⟨a,b.tail,?_⟩;simp only[Ca]at c ⊢;omega
       ·cases h
theorem Sm(s:List UInt8)(t:Ty)(h:parse s=.ok t):Nm t/\t.depth<=50/\t.size<=s.length/\s.length<=4000:=by
 unfold parse at h;split at h
 ·rename_i ts _ hs
  split at h
  ·rename_i u hr
   split at h
   ·cases h
   ·rename_i hd
    injection h with h;subst h;have hl:s.length<=4000:=by
     rcases Eb 4000 s.length with h4|h4
     ·unfold JY at hs;rw[Ch h4]at hs;injection hs with _ hs;injection hs with _ hs;omega
     ·exact h4
    have hx:lex s=.ok ts:=by
     unfold JY at hs;rw[Cg (by omega)]at hs;cases hl:lex s with
     |error a=>rw[hl]at hs;injection hs with _ hs;injection hs with _ hs;omega
     |ok us=>rw[hl]at hs;injection hs with hs _;rw[hs]
    obtain⟨a,_,c⟩:=(Qq _).1 ts _ [] (λt ht=>ziM s ts hx t ht) hr;have hlen:ts.length<=s.length:=by
     have hc:=zkq s ts hx;have key:∀(ts:List Tok) (f:Nat),Rn s f ts->f+ts.length<=s.length:=by
      intro ts;induction ts with
      |nil=>intro f h;exact h.1
      |cons x r ih =>
       intro f h;obtain⟨h1,h2,_,_,_,_,h7⟩:=h;have:=ih _ h7;have:0<x.text.length:=List.length_pos_iff.2 h2;simp only[Ca];omega
     have:=key ts 0 hc;omega
    simp only[CR,Nat.add_zero]at c;exact⟨a,by omega,by omega,hl⟩
  ·cases h
 ·cases h
end Tx
namespace Tx
open Lx
abbrev Name:=List UInt8
inductive Dt where
 |fv (x:Name)
 |bv (i:Nat)
 |mt (n:Nat)
 |h_ (c:Name) (l:List Dt)
 |fn (a b:Dt)
 |all (t:Dt)
def idx(x:Name):List Name->Option Nat
 |[]=>none
 |y::r=>if x=y then some 0 else(idx x r).map (· + 1)
mutual
def db(env:List Name):Ty->Dt
 |.var x=>match idx x env with|some i=>.bv i|none=>.fv x
 |.mt n=>.mt n
 |.h_ c l=>.h_ c (Fz env l)
 |.fn a b=>.fn (db env a) (db env b)
 |.all x t=>.all (db (x::env) t)
def Fz(env:List Name):List Ty->List Dt
 |[]=>[]
 |t::r=>db env t::Fz env r
end
def nm(letter:UInt8)(k:Nat):Name:=letter::dec k
def KF(letter:UInt8)(but:List Name):Nat->Nat->Nat
 |0,k=>k
 |f+1,k=>if nm letter k∈but then KF letter but f (k+1) else k
def FY(letter:UInt8)(but:List Name)(k:Nat):Nat:=KF letter but (but.length+1) k
mutual
def Gf(c:UInt8)(but:List Name)(xs ys:List Name):Ty->Nat->Ty × Nat
 |.var x,k=>(match idx x xs with|some i=>.var (ys.getD i [])|none=>.var x,k)
 |.mt n,k=>(.mt n,k)
 |.h_ d l,k=>(.h_ d (MH c but xs ys l k).1,(MH c but xs ys l k).2)
 |.fn a b,k=>(.fn (Gf c but xs ys a k).1 (Gf c but xs ys b (Gf c but xs ys a k).2).1,(Gf c but xs ys b (Gf c but xs ys a k).2).2)
 |.all x t,k=>(.all (nm c (FY c but k)) (Gf c but (x::xs) (nm c (FY c but k)::ys) t (FY c but k+1)).1,(Gf c but (x::xs) (nm c (FY c but k)::ys) t (FY c but k+1)).2)
def MH(c:UInt8)(but:List Name)(xs ys:List Name):List Ty->Nat->List Ty × Nat
 |[],k=>([],k)
 |t::r,k=>((Gf c but xs ys t k).1::(MH c but xs ys r (Gf c but xs ys t k).2).1,(MH c but xs ys r (Gf c but xs ys t k).2).2)
end
mutual
def G9(c:UInt8)(but:List Name)(ys:List Name):Dt->Nat->Ty × Nat
 |.fv x,k=>(.var x,k)
 |.bv i,k=>(.var (ys.getD i []),k)
 |.mt n,k=>(.mt n,k)
 |.h_ d l,k=>(.h_ d (Ll c but ys l k).1,(Ll c but ys l k).2)
 |.fn a b,k=>(.fn (G9 c but ys a k).1 (G9 c but ys b (G9 c but ys a k).2).1,(G9 c but ys b (G9 c but ys a k).2).2)
 |.all t,k=>(.all (nm c (FY c but k)) (G9 c but (nm c (FY c but k)::ys) t (FY c but k+1)).1,(G9 c but (nm c (FY c but k)::ys) t (FY c but k+1)).2)
def Ll(c:UInt8)(but:List Name)(ys:List Name):List Dt->Nat->List Ty × Nat
 |[],k=>([],k)
 |t::r,k=>((G9 c but ys t k).1::(Ll c but ys r (G9 c but ys t k).2).1,(Ll c but ys r (G9 c but ys t k).2).2)
end
mutual
theorem Qs(c:UInt8)(but xs ys:List Name):(t:Ty)->∀k,Gf c but xs ys t k=G9 c but ys (db xs t) k
 |.var x,k=>by
  rw[Gf,db];cases idx x xs with
  |none=>rw[G9]
  |some i=>rw[G9]
 |.mt n,k=>by rw[Gf,db,G9]
 |.h_ d l,k=>by rw[Gf,db,G9,zjq c but xs ys l k]
 |.fn a b,k=>by rw[Gf,db,G9,Qs c but xs ys a k,Qs c but xs ys b]
 |.all x t,k=>by rw[Gf,db,G9,Qs c but (x::xs) _ t]
theorem zjq(c:UInt8)(but xs ys:List Name):(l:List Ty)->∀k,MH c but xs ys l k=Ll c but ys (Fz xs l) k
 |[],k=>by rw[MH,Fz,Ll]
 |t::r,k=>by rw[MH,Fz,Ll,Qs c but xs ys t k,zjq c but xs ys r]
end
mutual
def GC:Dt->List Name->List Name
 |.fv x,out=>FJ x out
 |.bv _,out=>out
 |.mt _,out=>out
 |.h_ _ l,out=>Ln l out
 |.fn a b,out=>GC b (GC a out)
 |.all t,out=>GC t out
def Ln:List Dt->List Name->List Name
 |[],out=>out
 |t::r,out=>Ln r (GC t out)
end
mutual
def Jg:Dt->List Nat->List Nat
 |.fv _,out=>out
 |.bv _,out=>out
 |.mt n,out=>FJ n out
 |.h_ _ l,out=>NR l out
 |.fn a b,out=>Jg b (Jg a out)
 |.all t,out=>Jg t out
def NR:List Dt->List Nat->List Nat
 |[],out=>out
 |t::r,out=>NR r (Jg t out)
end
theorem Sp(x:Name)(l:List Name):idx x l=none↔x∉l:=by
 induction l with
 |nil=>simp[idx]
 |cons y r ih =>
  rw[idx];by_cases h:x=y
  ·simp[h]
  ·rw[Cg h,Option.map_eq_none_iff,ih]
   simp[h]
mutual
theorem NQ(env bound:List Name)(hm:∀x,x∈bound↔x∈env):(t:Ty)->∀out,t.FU bound out=GC (db env t) out
 |.var x,out=>by
  rw[Ty.FU,db];cases h:idx x env with
  |none=>rw[Cg (λe=>(Sp x env).1 h ((hm x).1 e)),GC]
  |some i =>
   rw[Ch,GC];exact(hm x).2 (El λhn=>by rw[(Sp x env).2 hn]at h;cases h)
 |.mt n,out=>by rw[Ty.FU,db,GC]
 |.h_ d l,out=>by rw[Ty.FU,db,GC,zjr env bound hm l]
 |.fn a b,out=>by rw[Ty.FU,db,GC,NQ env bound hm a,NQ env bound hm b]
 |.all x t,out=>by
  rw[Ty.FU,db,GC,NQ (x::env) (bound++[x]) (λy=>by simp[hm y];exact Or.comm) t]
theorem zjr(env bound:List Name)(hm:∀x,x∈bound↔x∈env):(l:List Ty)->∀out,NU bound l out=Ln (Fz env l) out
 |[],out=>by rw[NU,Fz,Ln]
 |t::r,out=>by rw[NU,Fz,Ln,NQ env bound hm t,zjr env bound hm r]
end
mutual
theorem QG(env:List Name):(t:Ty)->∀out,t.z_ out=Jg (db env t) out
 |.var x,out=>by
  rw[Ty.z_,db];cases idx x env <;> rw[Jg]
 |.mt n,out=>by rw[Ty.z_,db,Jg]
 |.h_ d l,out=>by rw[Ty.z_,db,Jg,zie env l]
 |.fn a b,out=>by rw[Ty.z_,db,Jg,QG env a,QG env b]
 |.all x t,out=>by rw[Ty.z_,db,Jg,QG (x::env) t]
theorem zie(env:List Name):(l:List Ty)->∀out,Md l out=NR (Fz env l) out
 |[],out=>by rw[Md,Fz,NR]
 |t::r,out=>by rw[Md,Fz,NR,QG env t,zie env r]
end
theorem zqY(j k:Nat)(hj:j<10 ^ 20)(hk:k<10 ^ 20)(h:dec j=dec k):j=k:=by
 have a:=zgZ 20 j hj;have b:=zgZ 20 k hk;unfold dec at h;rw[h]at a;omega
theorem znk(c:UInt8)(j k:Nat)(hj:j<10 ^ 20)(hk:k<10 ^ 20)(h:nm c j=nm c k):j=k:=by
 unfold nm at h;injection h with _ h;exact zqY j k hj hk h
theorem znl {α:Type} [DecidableEq α](l m:List α)(hn:l.Nodup)(hs:∀x∈l,x∈m):l.length<=m.length:=by
 induction l generalizing m with
 |nil=>simp
 |cons x r ih =>
  have hx:=hs x Cs;have hlen:=List.length_erase_of_mem hx;have yC:0<m.length:=List.length_pos_of_mem hx;rw[CO]at hn;have:=ih (m.erase x) hn.2 (λy hy=>by
   refine(List.mem_erase_of_ne ?_).2 (hs y (Cf _ hy));intro e;subst e;exact hn.1 hy)
  simp only[Ca];omega
theorem zpl(c:UInt8)(but:List Name)(f k:Nat):k<=KF c but f k/\KF c but f k<=k+f:=by
 induction f generalizing k with
 |zero=>simp[KF]
 |succ f ih =>
  rw[KF];split
  ·have:=ih (k+1);omega
  ·omega
theorem znm(c:UInt8)(but:List Name)(f k:Nat)(hb:k+f<10 ^ 20)(h:nm c (KF c but f k)∈but):∀j,k<=j->j<k+f->nm c j∈but:=by
 induction f generalizing k with
 |zero=>intro j h1 h2;omega
 |succ f ih =>
  rw[KF]at h;split at h
  ·rename_i hm
   intro j h1 h2;by_cases e:j=k
   ·subst e;exact hm
   ·exact ih (k+1) (by omega) h j (by omega) (by omega)
  ·rename_i hm;exact absurd h hm
theorem MX(c:UInt8)(but:List Name)(k:Nat)(hb:k+but.length+1<10 ^ 20):nm c (FY c but k)∉but/\k<=FY c but k/\FY c but k<=k+but.length:=by
 have hge:=zpl c but (but.length+1) k;have key:∀(f:Nat),k+f<10 ^ 20->(∀j,k<=j->j<k+f->nm c j∈but)->f<=but.length:=by
  intro f hf aK;have hn:((List.range f).map λj=>nm c (k+j)).Nodup:=by
   rw[List.nodup_iff_pairwise_ne,List.pairwise_map];refine List.Pairwise.imp_of_mem ?_ List.pairwise_lt_range;intro a b ha hb bp e;have ha:=Ew.1 ha;have hb:=Ew.1 hb;have:=znk c _ _ (by omega) (by omega) e;omega
  have:=znl _ but hn (λx hx=>by
   obtain⟨j,hj,rfl⟩:=Ct.1 hx;have hj:=Ew.1 hj;exact aK _ (by omega) (by omega))
  simpa using this
 have qV:nm c (FY c but k)∉but:=by
  intro h;have:=key (but.length+1) (by omega) (znm c but _ k (by omega) h);omega
 refine⟨qV,hge.1,?_⟩;rcases Eb (k+but.length) (FY c but k) with h|h
 ·exfalso
  have hk:FY c but k=k+but.length+1:=by unfold FY at h ⊢;omega
  have aK:∀j,k<=j->j<k+(but.length+1)->nm c j∈but:=by
   have step:∀(f k:Nat),KF c but f k=k+f->∀j,k<=j->j<k+f->nm c j∈but:=by
    intro f;induction f with
    |zero=>intro k _ j h1 h2;omega
    |succ f ih =>
     intro k h j h1 h2;rw[KF]at h;split at h
     ·rename_i hm
      by_cases e:j=k
      ·subst e;exact hm
      ·exact ih (k+1) (by omega) j (by omega) (by omega)
     ·omega
   exact step _ k (by unfold FY at hk;omega)
  have:=key (but.length+1) (by omega) aK;omega
 ·exact h
end Tx
namespace Tx
open Lx
mutual
def Fv:Dt->Nat
 |.fv _=>0
 |.bv _=>0
 |.mt _=>0
 |.h_ _ l=>JH l
 |.fn a b=>Fv a+Fv b
 |.all t=>Fv t+1
def JH:List Dt->Nat
 |[]=>0
 |t::r=>Fv t+JH r
end
mutual
def JI:Nat->Dt->Prop
 |_,.fv _=>True
 |n,.bv i=>i<n
 |_,.mt _=>True
 |n,.h_ _ l=>Kc n l
 |n,.fn a b=>JI n a/\JI n b
 |n,.all t=>JI (n+1) t
def Kc:Nat->List Dt->Prop
 |_,[]=>True
 |n,t::r=>JI n t/\Kc n r
end
theorem Qg(x:Name)(l:List Name)(i:Nat)(h:idx x l=some i):i<l.length:=by
 induction l generalizing i with
 |nil=>simp[idx]at h
 |cons y r ih =>
  rw[idx]at h;by_cases e:x=y
  ·rw[Ch e]at h;injection h with h;simp;omega
  ·rw[Cg e]at h
   cases hr:idx x r with
   |none=>rw[hr]at h;cases h
   |some j=>rw[hr]at h;simp at h;have:=ih j hr;simp;omega
theorem zjm(l:List Name)(i:Nat)(h:i<l.length):l.getD i []∈l:=by
 rw[List.getD,BY h];exact CS h
mutual
theorem Pw(env:List Name):(t:Ty)->JI env.length (db env t)
 |.var x=>by
  rw[db];cases h:idx x env with
  |none=>rw[JI];trivial
  |some i=>rw[JI];exact Qg x env i h
 |.mt n=>by rw[db,JI];trivial
 |.h_ d l=>by rw[db,JI];exact zkJ env l
 |.fn a b=>by rw[db,JI];exact⟨Pw env a,Pw env b⟩
 |.all x t=>by rw[db,JI];exact Pw (x::env) t
theorem zkJ(env:List Name):(l:List Ty)->Kc env.length (Fz env l)
 |[]=>by rw[Fz,Kc];trivial
 |t::r=>by rw[Fz,Kc];exact⟨Pw env t,zkJ env r⟩
end
theorem zjn(x y:Name)(l:List Name):y∈FJ x l↔y=x\/y∈l:=by
 unfold FJ;split
 ·rename_i h
  constructor
  ·exact .inr
  ·rintro(rfl|h2)
   ·exact h
   ·exact h2
 ·simp;exact Or.comm
mutual
theorem PW(c:UInt8)(but:List Name):(d:Dt)->∀ys k,k+(Fv d+1)*(but.length+1)<10 ^ 20->k<=(G9 c but ys d k).2/\(G9 c but ys d k).2<=k+Fv d*(but.length+1)
 |.fv _,ys,k,_=>by rw[G9];simp[Fv]
 |.bv _,ys,k,_=>by rw[G9];simp[Fv]
 |.mt _,ys,k,_=>by rw[G9];simp[Fv]
 |.h_ _ l,ys,k,h=>by rw[G9,Fv];rw[Fv]at h;exact zic c but l ys k h
 |.fn a b,ys,k,h=>by
  rw[G9,Fv];rw[Fv]at h;have e:(Fv a+Fv b+1)*(but.length+1)=Fv a*(but.length+1)+(Fv b+1)*(but.length+1):=by rw[<-Cy,DN]
  have e2:(Fv a+Fv b)*(but.length+1)=Fv a*(but.length+1)+Fv b*(but.length+1):=Cy ..;have e3:(Fv b+1)*(but.length+1)=Fv b*(but.length+1)+(but.length+1):=by rw[Cy,Da]
  have e4:(Fv a+1)*(but.length+1)=Fv a*(but.length+1)+(but.length+1):=by rw[Cy,Da]
  obtain⟨a1,a2⟩:=PW c but a ys k (by omega);obtain⟨b1,b2⟩:=PW c but b ys (G9 c but ys a k).2 (by omega);simp only;omega
 |.all t,ys,k,h=>by
  rw[G9,Fv];rw[Fv]at h;have e4:(Fv t+1+1)*(but.length+1)=Fv t*(but.length+1)+(but.length+1)+(but.length+1):=by rw[Cy,Cy,Da]
  have e5:(Fv t+1)*(but.length+1)=Fv t*(but.length+1)+(but.length+1):=by rw[Cy,Da]
  obtain⟨_,n1,n2⟩:=MX c but k (by omega);obtain⟨a1,a2⟩:=PW c but t (nm c (FY c but k)::ys) (FY c but k+1) (by omega);simp only;omega
theorem zic(c:UInt8)(but:List Name):(l:List Dt)->∀ys k,k+(JH l+1)*(but.length+1)<10 ^ 20->k<=(Ll c but ys l k).2/\(Ll c but ys l k).2<=k+JH l*(but.length+1)
 |[],ys,k,_=>by rw[Ll];simp[JH]
 |t::r,ys,k,h=>by
  rw[Ll,JH];rw[JH]at h;have e:(Fv t+JH r+1)*(but.length+1)=Fv t*(but.length+1)+(JH r+1)*(but.length+1):=by rw[<-Cy,DN]
  have e2:(Fv t+JH r)*(but.length+1)=Fv t*(but.length+1)+JH r*(but.length+1):=Cy ..;have e3:(JH r+1)*(but.length+1)=JH r*(but.length+1)+(but.length+1):=by rw[Cy,Da]
  have e4:(Fv t+1)*(but.length+1)=Fv t*(but.length+1)+(but.length+1):=by rw[Cy,Da]
  obtain⟨a1,a2⟩:=PW c but t ys k (by omega);obtain⟨b1,b2⟩:=zic c but r ys (G9 c but ys t k).2 (by omega);simp only;omega
end
def UQ(d:Dt):Ty:=(G9 120 (GC d []) [] d 0).1
def Ty.Fa(t:Ty):Ty:=(Gf 120 t.free [] [] t 0).1
theorem zpi(t:Ty):t.Fa=UQ (db [] t):=by
 unfold Ty.Fa UQ Ty.free;rw[Qs,NQ [] [] (λ_=>Iff.rfl)]
def Small(d:Dt):Prop:=(Fv d+1)*((GC d []).length+1)<10 ^ 15
mutual
def FD:Dt->Prop
 |.fv x=>Gd 1 x
 |.bv _=>True
 |.mt n=>n<=999999
 |.h_ c l=>Gd 2 c/\H' l
 |.fn a b=>FD a/\FD b
 |.all t=>FD t
def H':List Dt->Prop
 |[]=>True
 |t::r=>FD t/\H' r
end
mutual
theorem Om(env:List Name):(t:Ty)->Nm t->FD (db env t)
 |.var x,h=>by
  cases h with
  |var _ hx =>
   rw[db];cases idx x env with
   |none=>rw[FD];exact hx
   |some i=>rw[FD];trivial
 |.mt n,h=>by cases h with|mt _ hn=>rw[db,FD];exact hn
 |.h_ c l,h=>by cases h with|h_ _ _ hc hl=>rw[db,FD];exact⟨hc,zni env l hl⟩
 |.fn a b,h=>by cases h with|fn _ _ ha hb=>rw[db,FD];exact⟨Om env a ha,Om env b hb⟩
 |.all x t,h=>by cases h with|all _ _ hx ht=>rw[db,FD];exact Om (x::env) t ht
theorem zni(env:List Name):(l:List Ty)->(∀t∈l,Nm t)->H' (Fz env l)
 |[],_=>by rw[Fz,H'];trivial
 |t::r,h=>by rw[Fz,H'];exact⟨Om env t (h t Cs),zni env r (λu hu=>h u (Cf _ hu))⟩
end
theorem UL(k:Nat)(h:k<10 ^ 15):Gd 1 (nm 120 k):=by
 have hl:(dec k).length<=15:=Sl 20 15 k h (by omega);have hd:∀d∈(120:UInt8)::dec k,G7 d=true:=by
  intro d hd;rcases Cd.1 hd with rfl|hd
  ·decide
  ·simp[G7,zpo 20 k d hd]
 have hsp:=zoj G7 _ hd;refine⟨by simp[nm],?_,by omega⟩;unfold nm;rw[first,Ch (by decide),word,hsp,Cg (by simp;omega),List.take_length];have hk:o_ (120::dec k)=1:=by
  unfold o_;rw[Cg (by simp[keys]),Cg (by simp only[List.headD_cons];decide)]
 rw[hk]
mutual
theorem QH(but:List Name):(d:Dt)->∀ys k,FD d->JI ys.length d->(∀y∈ys,Gd 1 y)->k+(Fv d+1)*(but.length+1)<10 ^ 15->Nm (G9 120 but ys d k).1
 |.fv x,ys,k,h,_,_,_=>by rw[G9];rw[FD]at h;exact .var x h
 |.bv i,ys,k,_,hc,hy,_=>by
  rw[G9];rw[JI]at hc;exact .var _ (hy _ (zjm ys i hc))
 |.mt n,ys,k,h,_,_,_=>by rw[G9];rw[FD]at h;exact .mt n h
 |.h_ c l,ys,k,h,hc,hy,hb=>by
  rw[G9];rw[FD]at h;rw[JI]at hc;rw[Fv]at hb;exact .h_ c _ h.1 (zid but l ys k h.2 hc hy hb)
 |.fn a b,ys,k,h,hc,hy,hb=>by
  rw[G9];rw[FD]at h;rw[JI]at hc;rw[Fv]at hb;have e:(Fv a+Fv b+1)*(but.length+1)=Fv a*(but.length+1)+(Fv b+1)*(but.length+1):=by rw[<-Cy,DN]
  have e3:(Fv b+1)*(but.length+1)=Fv b*(but.length+1)+(but.length+1):=by rw[Cy,Da]
  have e4:(Fv a+1)*(but.length+1)=Fv a*(but.length+1)+(but.length+1):=by rw[Cy,Da]
  obtain⟨a1,a2⟩:=PW 120 but a ys k (by omega);exact .fn _ _ (QH but a ys k h.1 hc.1 hy (by omega)) (QH but b ys _ h.2 hc.2 hy (by omega))
 |.all t,ys,k,h,hc,hy,hb=>by
  rw[G9];rw[FD]at h;rw[JI]at hc;rw[Fv]at hb;have e4:(Fv t+1+1)*(but.length+1)=Fv t*(but.length+1)+(but.length+1)+(but.length+1):=by rw[Cy,Cy,Da]
  have e5:(Fv t+1)*(but.length+1)=Fv t*(but.length+1)+(but.length+1):=by rw[Cy,Da]
  obtain⟨_,n1,n2⟩:=MX 120 but k (by omega);have hg:=UL (FY 120 but k) (by omega);refine .all _ _ hg (QH but t _ _ h hc (λy mq=>?_) (by omega));rcases Cd.1 mq with rfl|mq
  ·exact hg
  ·exact hy y mq
theorem zid(but:List Name):(l:List Dt)->∀ys k,H' l->Kc ys.length l->(∀y∈ys,Gd 1 y)->k+(JH l+1)*(but.length+1)<10 ^ 15->∀t∈(Ll 120 but ys l k).1,Nm t
 |[],ys,k,_,_,_,_=>by rw[Ll];intro t ht;cases ht
 |t::r,ys,k,h,hc,hy,hb=>by
  rw[Ll];rw[H']at h;rw[Kc]at hc;rw[JH]at hb;have e:(Fv t+JH r+1)*(but.length+1)=Fv t*(but.length+1)+(JH r+1)*(but.length+1):=by rw[<-Cy,DN]
  have e3:(JH r+1)*(but.length+1)=JH r*(but.length+1)+(but.length+1):=by rw[Cy,Da]
  have e4:(Fv t+1)*(but.length+1)=Fv t*(but.length+1)+(but.length+1):=by rw[Cy,Da]
  obtain⟨a1,a2⟩:=PW 120 but t ys k (by omega);intro u hu;rcases Cd.1 hu with rfl|hu
  ·exact QH but t ys k h.1 hc.1 hy (by omega)
  ·exact zid but r ys _ h.2 hc.2 hy (by omega) u hu
end
theorem znj(d:Dt)(hn:FD d)(hc:JI 0 d)(hs:Small d):Nm (UQ d) :=
 QH _ d [] 0 hn hc (λ_ h=>(CI h).elim) (by unfold Small at hs;omega)
mutual
theorem Rb(env:List Name):(t:Ty)->Fv (db env t)<=t.size
 |.var x=>by rw[db];cases idx x env <;> simp[Fv,Ty.size]
 |.mt n=>by rw[db];simp[Fv,Ty.size]
 |.h_ c l=>by rw[db,Fv,Ty.size];have:=zfa env l;omega
 |.fn a b=>by rw[db,Fv,Ty.size];have:=Rb env a;have:=Rb env b;omega
 |.all x t=>by rw[db,Fv,Ty.size];have:=Rb (x::env) t;omega
theorem zfa(env:List Name):(l:List Ty)->JH (Fz env l)<=q_ l
 |[]=>by rw[Fz];simp[JH,q_]
 |t::r=>by rw[Fz,JH,q_];have:=Rb env t;have:=zfa env r;omega
end
theorem zpj(x:Name)(l:List Name):(FJ x l).length<=l.length+1:=by
 unfold FJ;split <;> simp
mutual
theorem NV(env:List Name):(t:Ty)->∀out,(GC (db env t) out).length<=out.length+t.size
 |.var x,out=>by
  rw[db];cases idx x env with
  |none=>rw[GC,Ty.size];exact zpj x out
  |some i=>rw[GC,Ty.size];omega
 |.mt n,out=>by rw[db,GC];omega
 |.h_ c l,out=>by rw[db,GC,Ty.size];have:=zfb env l out;omega
 |.fn a b,out=>by rw[db,GC,Ty.size];have:=NV env a out;have:=NV env b (GC (db env a) out);omega
 |.all x t,out=>by rw[db,GC,Ty.size];have:=NV (x::env) t out;omega
theorem zfb(env:List Name):(l:List Ty)->∀out,(Ln (Fz env l) out).length<=out.length+q_ l
 |[],out=>by rw[Fz,Ln,q_];omega
 |t::r,out=>by rw[Fz,Ln,q_];have:=NV env t out;have:=zfb env r (GC (db env t) out);omega
end
theorem zpk(t:Ty)(h:t.size<=1000000):Small (db [] t):=by
 unfold Small;have h1:=Rb [] t;have h2:=NV [] t [];simp only[CR,Dm]at h2;have:(Fv (db [] t)+1)*((GC (db [] t) []).length+1)<=1000001*1000001:=Ek (by omega) (by omega);omega
end Tx
namespace Tx
open Lx
mutual
def Bx(f:Name->Dt)(g:Nat->Dt):Dt->Dt
 |.fv x=>f x
 |.bv i=>.bv i
 |.mt n=>g n
 |.h_ c l=>.h_ c (JF f g l)
 |.fn a b=>.fn (Bx f g a) (Bx f g b)
 |.all t=>.all (Bx f g t)
def JF(f:Name->Dt)(g:Nat->Dt):List Dt->List Dt
 |[]=>[]
 |t::r=>Bx f g t::JF f g r
end
mutual
def k_(x:Name):Dt->Prop
 |.fv y=>x=y
 |.bv _=>False
 |.mt _=>False
 |.h_ _ l=>Ko x l
 |.fn a b=>k_ x a\/k_ x b
 |.all t=>k_ x t
def Ko(x:Name):List Dt->Prop
 |[]=>False
 |t::r=>k_ x t\/Ko x r
end
mutual
def a_(n:Nat):Dt->Prop
 |.fv _=>False
 |.bv _=>False
 |.mt m=>n=m
 |.h_ _ l=>Lm n l
 |.fn a b=>a_ n a\/a_ n b
 |.all t=>a_ n t
def Lm(n:Nat):List Dt->Prop
 |[]=>False
 |t::r=>a_ n t\/Lm n r
end
mutual
theorem NY(x:Name):(d:Dt)->∀out,x∈GC d out↔x∈out\/k_ x d
 |.fv y,out=>by rw[GC,zjn,k_];exact Or.comm
 |.bv _,out=>by rw[GC,k_];simp
 |.mt _,out=>by rw[GC,k_];simp
 |.h_ _ l,out=>by rw[GC,k_];exact zg0 x l out
 |.fn a b,out=>by rw[GC,k_,NY x b,NY x a,or_assoc]
 |.all t,out=>by rw[GC,k_];exact NY x t out
theorem zg0(x:Name):(l:List Dt)->∀out,x∈Ln l out↔x∈out\/Ko x l
 |[],out=>by rw[Ln,Ko];simp
 |t::r,out=>by rw[Ln,Ko,zg0 x r,NY x t,or_assoc]
end
theorem zpm(x y:Nat)(l:List Nat):y∈FJ x l↔y=x\/y∈l:=by
 unfold FJ;split
 ·rename_i h
  constructor
  ·exact .inr
  ·rintro(rfl|h2)
   ·exact h
   ·exact h2
 ·simp;exact Or.comm
mutual
theorem MI(n:Nat):(d:Dt)->∀out,n∈Jg d out↔n∈out\/a_ n d
 |.fv y,out=>by rw[Jg,a_];simp
 |.bv _,out=>by rw[Jg,a_];simp
 |.mt m,out=>by rw[Jg,zpm,a_];exact Or.comm
 |.h_ _ l,out=>by rw[Jg,a_];exact zgd n l out
 |.fn a b,out=>by rw[Jg,a_,MI n b,MI n a,or_assoc]
 |.all t,out=>by rw[Jg,a_];exact MI n t out
theorem zgd(n:Nat):(l:List Dt)->∀out,n∈NR l out↔n∈out\/Lm n l
 |[],out=>by rw[NR,Lm];simp
 |t::r,out=>by rw[NR,Lm,zgd n r,MI n t,or_assoc]
end
mutual
theorem Qr(f:Name->Dt)(g:Nat->Dt):(d:Dt)->(∀x,k_ x d->f x=.fv x)->(∀n,a_ n d->g n=.mt n)->Bx f g d=d
 |.fv x,hf,_=>by rw[Bx];exact hf x (by rw[k_])
 |.bv _,_,_=>by rw[Bx]
 |.mt n,_,hg=>by rw[Bx];exact hg n (by rw[a_])
 |.h_ c l,hf,hg=>by rw[Bx,zjs f g l (λx h=>hf x (by rw[k_];exact h)) (λn h=>hg n (by rw[a_];exact h))]
 |.fn a b,hf,hg=>by
  rw[Bx,Qr f g a (λx h=>hf x (by rw[k_];exact .inl h)) (λn h=>hg n (by rw[a_];exact .inl h)),
   Qr f g b (λx h=>hf x (by rw[k_];exact .inr h)) (λn h=>hg n (by rw[a_];exact .inr h))]
 |.all t,hf,hg=>by rw[Bx,Qr f g t (λx h=>hf x (by rw[k_];exact h)) (λn h=>hg n (by rw[a_];exact h))]
theorem zjs(f:Name->Dt)(g:Nat->Dt):(l:List Dt)->(∀x,Ko x l->f x=.fv x)->(∀n,Lm n l->g n=.mt n)->JF f g l=l
 |[],_,_=>by rw[JF]
 |t::r,hf,hg=>by
  rw[JF,Qr f g t (λx h=>hf x (by rw[Ko];exact .inl h)) (λn h=>hg n (by rw[Lm];exact .inl h)),
   zjs f g r (λx h=>hf x (by rw[Ko];exact .inr h)) (λn h=>hg n (by rw[Lm];exact .inr h))]
end
mutual
theorem Q6(f f':Name->Dt)(g g':Nat->Dt):(d:Dt)->Bx f g (Bx f' g' d)=Bx (λx=>Bx f g (f' x)) (λn=>Bx f g (g' n)) d
 |.fv x=>by rw[Bx,Bx]
 |.bv _=>by rw[Bx,Bx,Bx]
 |.mt n=>by rw[Bx,Bx]
 |.h_ c l=>by rw[Bx,Bx,Bx,zg1 f f' g g' l]
 |.fn a b=>by rw[Bx,Bx,Bx,Q6 f f' g g' a,Q6 f f' g g' b]
 |.all t=>by rw[Bx,Bx,Bx,Q6 f f' g g' t]
theorem zg1(f f':Name->Dt)(g g':Nat->Dt):(l:List Dt)->JF f g (JF f' g' l)=JF (λx=>Bx f g (f' x)) (λn=>Bx f g (g' n)) l
 |[]=>by rw[JF,JF,JF]
 |t::r=>by rw[JF,JF,JF,Q6 f f' g g' t,zg1 f f' g g' r]
end
def sub(a:Name)(U:Dt)(x:Name):Dt:=if x=a then U else .fv x
def IF(m:Nat)(U:Dt)(n:Nat):Dt:=if n=m then U else .mt n
theorem zqZ(x:Name)(l m:List Name)(h:x∉m):idx x (l++m)=idx x l:=by
 induction l with
 |nil=>exact(Sp x m).2 h
 |cons y r ih=>rw[Co,idx,idx,ih]
mutual
theorem Qf(env:List Name):(u:Ty)->∀loc,(∀x,k_ x (db loc u)->x∉env)->db (loc++env) u=db loc u
 |.var x,loc,h=>by
  rw[db,db];cases hi:idx x loc with
  |none =>
   have hx:x∉env:=h x (by rw[db,hi,k_]);rw[zqZ x loc env hx,hi]
  |some i =>
   have key:∀(l:List Name) (i:Nat),idx x l=some i->idx x (l++env)=some i:=by
    intro l;induction l with
    |nil=>intro i h;simp[idx]at h
    |cons y r ih =>
     intro i h;rw[Co,idx];rw[idx]at h;by_cases e:x=y
     ·rw[Ch e]at h ⊢;exact h
     ·rw[Cg e]at h ⊢
      cases hr:idx x r with
      |none=>rw[hr]at h;cases h
      |some j=>rw[hr]at h;rw[ih j hr];exact h
   rw[key loc i hi]
 |.mt n,loc,_=>by rw[db,db]
 |.h_ c l,loc,h=>by rw[db,db,zkK env l loc (λx hx=>h x (by rw[db,k_];exact hx))]
 |.fn a b,loc,h=>by
  rw[db,db,Qf env a loc (λx hx=>h x (by rw[db,k_];exact .inl hx)),Qf env b loc (λx hx=>h x (by rw[db,k_];exact .inr hx))]
 |.all x t,loc,h=>by
  rw[db,db];have:=Qf env t (x::loc) (λy hy=>h y (by rw[db,k_];exact hy));rw[Co]at this;rw[this]
theorem zkK(env:List Name):(l:List Ty)->∀loc,(∀x,Ko x (Fz loc l)->x∉env)->Fz (loc++env) l=Fz loc l
 |[],loc,_=>by rw[Fz,Fz]
 |t::r,loc,h=>by
  rw[Fz,Fz,Qf env t loc (λx hx=>h x (by rw[Fz,Ko];exact .inl hx)),zkK env r loc (λx hx=>h x (by rw[Fz,Ko];exact .inr hx))]
end
theorem zjt(env:List Name)(u:Ty)(h:∀x,k_ x (db [] u)->x∉env):db env u=db [] u:=Qf env u [] h
end Tx
end Go.Proofs.YtfafilmklhnngaaGreatDoor
namespace Go.Proofs.YtfafilmklhnngaaGreatDoor
open Go.RowKit Lx Tx
def kd:Ty->Nat
 |.var _=>1
 |.mt _=>2
 |.h_ _ _=>3
 |.fn _ _=>4
 |.all _ _=>5
def ER:Ty->ByteArray
 |.var x=>⟨x.toArray⟩
 |.mt _=>⟨#[]⟩
 |.h_ c _=>⟨c.toArray⟩
 |.fn _ _=>⟨#[]⟩
 |.all x _=>⟨x.toArray⟩
def nn:Ty->Nat
 |.mt n=>n
 |_=>0
def kids:Ty->List Ty
 |.var _=>[]
 |.mt _=>[]
 |.h_ _ l=>l
 |.fn a b=>[a,b]
 |.all _ t=>[t]
def F7(w:World)(t:Ty)(A:Option Addr)(cap:Nat)(g o:Nat):Prop :=
 w.cell? ⟨g,o,none⟩=some (.int .i64 (kd t:Nat))/\w.cell? ⟨g,o+1,none⟩=some (.string (ER t))/\w.cell? ⟨g,o+2,none⟩=some (.int .i64 (nn t:Nat)) /\
  w.cell? ⟨g,o+3,none⟩=some (.slice A (kids t).length cap)
mutual
def j_(S:Nat->Prop)(w:World):Ty->Option Addr->Prop
 |.var _,_=>True
 |.mt _,_=>True
 |.h_ _ l,A=>l≠[]->∃g,A=some ⟨g,0,none⟩/\S g/\ur S w l g 0
 |.fn a b,A=>∃g,A=some ⟨g,0,none⟩/\S g/\(∃A1 c1,F7 w a A1 c1 g 0/\j_ S w a A1)/\(∃A2 c2,F7 w b A2 c2 g 4/\j_ S w b A2)
 |.all _ t,A=>∃g,A=some ⟨g,0,none⟩/\S g/\∃A1 c1,F7 w t A1 c1 g 0/\j_ S w t A1
def ur(S:Nat->Prop)(w:World):List Ty->Nat->Nat->Prop
 |[],_,_=>True
 |t::r,g,o=>(∃A c,F7 w t A c g o/\j_ S w t A)/\ur S w r g (o+4)
end
def nc(S:Nat->Prop)(w:World)(t:Ty)(v:Value):Prop :=
 ∃A c,v=.agg #[.int .i64 (kd t:Nat),.string (ER t),.int .i64 (nn t:Nat),.slice A (kids t).length c]/\j_ S w t A
theorem M5(S:Nat->Prop)(w:World)(t:Ty)(A:Option Addr):j_ S w t A↔(kids t≠[]->∃g,A=some ⟨g,0,none⟩/\S g/\ur S w (kids t) g 0):=by
 cases t with
 |var x=>rw[j_,kids];simp
 |mt n=>rw[j_,kids];simp
 |h_ c l=>rw[j_,kids]
 |fn a b =>
  rw[j_,kids];constructor
  ·rintro⟨g,h1,h2,h3,h4⟩ _
   exact⟨g,h1,h2,by rw[ur,ur,ur];exact⟨h3,h4,trivial⟩⟩
  ·intro h
   obtain⟨g,h1,h2,h3⟩:=h (by simp);rw[ur,ur,ur]at h3;exact⟨g,h1,h2,h3.1,h3.2.1⟩
 |all x t =>
  rw[j_,kids];constructor
  ·rintro⟨g,h1,h2,h3⟩ _
   exact⟨g,h1,h2,by rw[ur,ur];exact⟨h3,trivial⟩⟩
  ·intro h
   obtain⟨g,h1,h2,h3⟩:=h (by simp);rw[ur,ur]at h3;exact⟨g,h1,h2,h3.1⟩
theorem F7.al {w w':World} {t:Ty} {A:Option Addr} {c g o:Nat}(h:F7 w t A c g o)(hk:w'.heap[g]?=w.heap[g]?):F7 w' t A c g o:=by
 have e:∀i,w'.cell? ⟨g,i,none⟩=w.cell? ⟨g,i,none⟩:=λi=>Ck (w:=w) (a:=⟨g,i,none⟩) hk;exact⟨(e _).trans h.1,(e _).trans h.2.1,(e _).trans h.2.2.1,(e _).trans h.2.2.2⟩
mutual
theorem j_.al {S S':Nat->Prop} {w w':World}(hS:∀g,S g->S' g)(hk:∀g,S g->w'.heap[g]?=w.heap[g]?):(t:Ty)->∀A,j_ S w t A->j_ S' w' t A
 |.var x,A,_=>by rw[j_];trivial
 |.mt n,A,_=>by rw[j_];trivial
 |.h_ c l,A,h=>by
  rw[j_]at h ⊢;intro hl;obtain⟨g,h1,h2,h3⟩:=h hl;exact⟨g,h1,hS g h2,ur.al hS hk l g 0 (hk g h2) h3⟩
 |.fn a b,A,h=>by
  rw[j_]at h ⊢;obtain⟨g,h1,h2,⟨A1,c1,h3,h4⟩,⟨A2,c2,h5,h6⟩⟩:=h;exact⟨g,h1,hS g h2,⟨A1,c1,h3.al (hk g h2),j_.al hS hk a A1 h4⟩,⟨A2,c2,h5.al (hk g h2),j_.al hS hk b A2 h6⟩⟩
 |.all x t,A,h=>by
  rw[j_]at h ⊢;obtain⟨g,h1,h2,A1,c1,h3,h4⟩:=h;exact⟨g,h1,hS g h2,A1,c1,h3.al (hk g h2),j_.al hS hk t A1 h4⟩
theorem ur.al {S S':Nat->Prop} {w w':World}(hS:∀g,S g->S' g)(hk:∀g,S g->w'.heap[g]?=w.heap[g]?):(l:List Ty)->∀g o,w'.heap[g]?=w.heap[g]?->ur S w l g o->ur S' w' l g o
 |[],_,_,_,_=>by rw[ur];trivial
 |t::r,g,o,hg,h=>by
  rw[ur]at h ⊢;obtain⟨⟨A,c,h1,h2⟩,h3⟩:=h;exact⟨⟨A,c,h1.al hg,j_.al hS hk t A h2⟩,ur.al hS hk r g (o+4) hg h3⟩
end
theorem nc.al {S S':Nat->Prop} {w w':World} {t:Ty} {v:Value}(h:nc S w t v)(hS:∀g,S g->S' g)(hk:∀g,S g->w'.heap[g]?=w.heap[g]?):nc S' w' t v:=by
 obtain⟨A,c,rfl,ha⟩:=h;exact⟨A,c,rfl,j_.al hS hk t A ha⟩
theorem ur.at_ {S:Nat->Prop} {w:World} :(l:List Ty)->∀g o i (hi:i<l.length),ur S w l g o->∃A c,F7 w l[i] A c g (o+i*4)/\j_ S w l[i] A
 |[],_,_,i,hi,_=>absurd hi (by simp)
 |t::r,g,o,0,_,h=>by rw[ur]at h;simpa using h.1
 |t::r,g,o,i+1,hi,h=>by
  rw[ur]at h;have:=ur.at_ r g (o+4) i (by simpa using hi) h.2;rw[show o+4+i*4=o+(i+1)*4 by omega]at this;simpa using this
theorem j_.Hm {S:Nat->Prop} {w:World} {t:Ty} {A:Option Addr}(h:j_ S w t A)(i:Nat)(hi:i<(kids t).length):∃g,A=some ⟨g,0,none⟩/\S g/\∃A1 c1,F7 w (kids t)[i] A1 c1 g (i*4)/\j_ S w (kids t)[i] A1:=by
 obtain⟨g,h1,h2,h3⟩:=(M5 S w t A).1 h (by intro e;rw[e]at hi;simp at hi);have:=ur.at_ _ g 0 i hi h3;rw[Dm]at this;exact⟨g,h1,h2,this⟩
def Hx(t:Ty)(A:Option Addr)(c:Nat):List Value:=[.int .i64 (kd t:Nat),.string (ER t),.int .i64 (nn t:Nat),.slice A (kids t).length c]
theorem ur.snoc {S:Nat->Prop} {w:World} :(l:List Ty)->∀g o t A c,ur S w l g o->F7 w t A c g (o+l.length*4)->j_ S w t A->ur S w (l++[t]) g o
 |[],g,o,t,A,c,_,h2,h3=>by rw[Cu,ur,ur];exact⟨⟨A,c,by simpa using h2,h3⟩,trivial⟩
 |u::r,g,o,t,A,c,h1,h2,h3=>by
  rw[ur]at h1;rw[Co,ur];refine⟨h1.1,ur.snoc r g (o+4) t A c h1.2 ?_ h3⟩;rw[show o+4+r.length*4=o+(u::r).length*4 by simp;omega];exact h2
def fs(S:Nat->Prop)(w:World):List Ty->List Value->Prop
 |[],vs=>vs=[]
 |t::r,vs=>∃A c rest,vs=Hx t A c++rest/\j_ S w t A/\fs S w r rest
theorem fs.len {S:Nat->Prop} {w:World} :(l:List Ty)->∀vs,fs S w l vs->vs.length=l.length*4
 |[],vs,h=>by rw[fs]at h;simp[h]
 |t::r,vs,h=>by
  rw[fs]at h;obtain⟨A,c,rest,rfl,_,h⟩:=h;have:=fs.len r rest h;simp[Hx,this];omega
theorem fs.snoc {S:Nat->Prop} {w:World} {t:Ty} {A:Option Addr}(c:Nat)(ha:j_ S w t A):(l:List Ty)->∀vs,fs S w l vs->fs S w (l++[t]) (vs++Hx t A c)
 |[],vs,h=>by
  rw[fs]at h;rw[Cu,fs];exact⟨A,c,[],by simp[h],ha,by rw[fs]⟩
 |u::r,vs,h=>by
  rw[fs]at h;obtain⟨A',c',rest,rfl,h1,h2⟩:=h;rw[Co,fs];exact⟨A',c',rest++Hx t A c,by simp,h1,fs.snoc c ha r rest h2⟩
theorem fs.al {S S':Nat->Prop} {w w':World}(hS:∀g,S g->S' g)(hk:∀g,S g->w'.heap[g]?=w.heap[g]?):(l:List Ty)->∀vs,fs S w l vs->fs S' w' l vs
 |[],vs,h=>by rw[fs]at h ⊢;exact h
 |t::r,vs,h=>by
  rw[fs]at h ⊢;obtain⟨A,c,rest,e,h1,h2⟩:=h;exact⟨A,c,rest,e,j_.al hS hk t A h1,fs.al hS hk r rest h2⟩
theorem fs.row {S:Nat->Prop} {w:World} {g:Nat} :(l:List Ty)->∀vs o,fs S w l vs->(∀j u,vs[j]?=some u->w.cell? ⟨g,o+j,none⟩=some u)->ur S w l g o
 |[],_,_,_,_=>by rw[ur];trivial
 |t::r,vs,o,h,hc=>by
  rw[fs]at h;obtain⟨A,c,rest,rfl,h1,h2⟩:=h;rw[ur];refine⟨⟨A,c,⟨hc 0 _ rfl,hc 1 _ rfl,hc 2 _ rfl,hc 3 _ rfl⟩,h1⟩,fs.row r rest (o+4) h2 λj u hu=>?_⟩;rw[show o+4+j=o+(4+j) by omega];exact hc (4+j) u (by rw[Db (by simp[Hx])];simpa[Hx] using hu)
theorem FN {w w':World} {B e size n:Nat} {v:Value} {xs:List Value}(h:w.ownsRow B e size v n xs)(hb:Below w.heap.size w w'):w'.ownsRow B e size v n xs:=by
 refine⟨h.1,?_⟩;rcases h.2 with hn|⟨g,cap,cur,rfl,hg,lS,rest⟩
 ·exact .inl hn
 ·exact .inr ⟨g,cap,cur,rfl,hg,by rw[hb.block g (BV.1 lS).1];exact lS,rest⟩
def EU(T:Nat->Prop)(B:Nat)(e:TypeId)(w:World)(l:List Ty)(v:Value):Prop :=
 ∃vs,w.ownsRow B e 4 v l.length vs/\fs (λg=>(T g\/B<=g/\g<w.heap.size)/\some g≠v.ownBlock) w l vs
theorem EU.nil(T:Nat->Prop)(B:Nat)(e:TypeId)(w:World):EU T B e w [] (.slice none 0 0):=⟨[],CM _ _ _ _,by rw[fs]⟩
theorem EU.below {T:Nat->Prop} {B:Nat} {e:TypeId} {w w':World} {l:List Ty} {v:Value}(h:EU T B e w l v)(hT:∀g,T g->g<w.heap.size)(hb:Below w.heap.size w w'):EU T B e w' l v:=by
 obtain⟨vs,h1,h2⟩:=h;refine⟨vs,FN h1 hb,fs.al ?_ ?_ l vs h2⟩
 ·rintro g ⟨h|h,h3⟩
  ·exact⟨.inl h,h3⟩
  ·exact⟨.inr ⟨h.1,Ci h.2 hb.size⟩,h3⟩
 ·rintro g ⟨h|h,h3⟩
  ·exact hb.block g (hT g h)
  ·exact hb.block g h.2
theorem EU.snoc {T:Nat->Prop} {B:Nat} {e:TypeId} {w w':World} {l:List Ty} {t:Ty} {v v':Value} {A:Option Addr} {c:Nat} {vs:List Value}
  (hT:∀g,T g->g<B)(hB:B<=w.heap.size)(aE:fs (λg=>(T g\/B<=g/\g<w.heap.size)/\some g≠v.ownBlock) w l vs)
  (ha:j_ (λg=>(T g\/B<=g/\g<w.heap.size)/\some g≠v.ownBlock) w t A)
  (aj:w'.ownsRow B e 4 v' (l.length+1) (vs++Hx t A c))(hg:w.grownBy w' v.ownBlock)(bz:v'.ownBlock=v.ownBlock\/v'.ownBlock=some w.heap.size):EU T B e w' (l++[t]) v':=by
 have aA:w.heap.size<=w'.heap.size:=hg.size;have hk:∀g,((T g\/B<=g/\g<w.heap.size)/\some g≠v.ownBlock)->w'.heap[g]?=w.heap[g]?:=λg h=>hg.block g (by rcases h.1 with h1|h1;have:=hT g h1;omega;exact h1.2) h.2;have hS:∀g,((T g\/B<=g/\g<w.heap.size)/\some g≠v.ownBlock)->((T g\/B<=g/\g<w'.heap.size)/\some g≠v'.ownBlock):=by
  rintro g ⟨h1,h2⟩;have af:g<w.heap.size:=by rcases h1 with h1|h1;have:=hT g h1;omega;exact h1.2
  refine⟨?_,?_⟩
  ·rcases h1 with h1|h1
   ·exact .inl h1
   ·exact .inr ⟨h1.1,by omega⟩
  ·rcases bz with h|h
   ·rw[h];exact h2
   ·rw[h];intro e;injection e with e;omega
 refine⟨vs++Hx t A c,by rw[Cb];exact aj,fs.snoc c (j_.al hS hk t A ha) l vs (fs.al hS hk l vs aE)⟩
theorem EU.next {T:Nat->Prop} {B:Nat} {e:TypeId} {w w1 w2 w3:World} {l:List Ty} {x:Ty} {v v':Value} {vs:List Value} {k z:Int} {s:ByteArray} {A:Option Addr} {m c:Nat}
  (hT:∀g,T g->g<B)(hB:B<=w.heap.size)(aj:w.ownsRow B e 4 v l.length vs)(aE:fs (λg=>(T g\/B<=g/\g<w.heap.size)/\some g≠v.ownBlock) w l vs)
  (b1:Below w.heap.size w w1)(hr:nc (λg=>T g\/w.heap.size<=g/\g<w1.heap.size) w1 x (.agg #[.int .i64 k,.string s,.int .i64 z,.slice A m c]))(b2:Below w1.heap.size w1 w2)
  (ho:w3.ownsRow B e 4 v' (l.length+1) (vs++[.int .i64 k,.string s,.int .i64 z,.slice A m c]))(hg:w2.grownBy w3 v.ownBlock)(bz:v'.ownBlock=v.ownBlock\/v'.ownBlock=some w2.heap.size):EU T B e w3 (l++[x]) v':=by
 obtain⟨A',c',hv,ha⟩:=hr;injection hv with hv;have hv:=Cp Array.toList hv;simp only[DF,Value.int.injEq,Value.string.injEq,Value.slice.injEq,and_true,true_and]at hv;obtain⟨rfl,rfl,rfl,rfl,rfl,rfl⟩:=hv;have af:=aj.lt;have s1:=b1.size;have s2:=b2.size;have b12:Below w.heap.size w w2:=b1.trans (b2.mono s1);refine EU.snoc (w:=w2) (c:=c) hT (by omega) (fs.al (λg h=>?_) (λg h=>?_) l vs aE) (j_.al (λg h=>?_) (λg h=>?_) x A ha) ho hg bz
 ·refine⟨?_,h.2⟩
  rcases h.1 with h1|h1
  ·exact .inl h1
  ·exact .inr ⟨h1.1,by omega⟩
 ·exact b12.block g (by rcases h.1 with h1|h1;have:=hT g h1;omega;exact h1.2)
 ·rcases h with h1|h1
  ·refine⟨.inl h1,λe=>?_⟩
   have:=af _ e.symm;have:=hT g h1;omega
  ·refine⟨.inr ⟨by omega,by omega⟩,λe=>?_⟩
   have:=af _ e.symm;omega
 ·exact b2.block g (by rcases h with h1|h1;have:=hT g h1;omega;exact h1.2)
theorem EU.setCell {T:Nat->Prop} {B:Nat} {e:TypeId} {w:World} {l:List Ty} {v:Value}(h:EU T B e w l v) {p:Addr}(u:Value)(hp:p.block<B)(hT:¬T p.block):EU T B e (w.setCell p u) l v:=by
 obtain⟨vs,h1,h2⟩:=h;have af:=h1.lt;have k1:∀g,(T g\/B<=g/\g<w.heap.size)/\some g≠v.ownBlock->(T g\/B<=g/\g<(w.setCell p u).heap.size)/\some g≠v.ownBlock:=by
  rintro g ⟨h3|h3,h4⟩
  ·exact⟨.inl h3,h4⟩
  ·exact⟨.inr ⟨h3.1,by simpa using h3.2⟩,h4⟩
 have k2:∀g,(T g\/B<=g/\g<w.heap.size)/\some g≠v.ownBlock->(w.setCell p u).heap[g]?=w.heap[g]?:=by
  rintro g ⟨h3,_⟩;refine B8 w p u g λe=>?_;rcases h3 with h3|h3
  ·exact hT (e▸h3)
  ·omega
 exact⟨vs,ownsRow_setCell_other h1 (λe=>by have:=af _ e;omega) u,fs.al k1 k2 l vs h2⟩
theorem EU.args {T:Nat->Prop} {B:Nat} {e:TypeId} {w:World} {t:Ty} {A:Option Addr} {n c:Nat}(h:EU T B e w (kids t) (.slice A n c)):n=(kids t).length/\j_ (λg=>T g\/B<=g/\g<w.heap.size) w t A:=by
 obtain⟨vs,h1,h2⟩:=h;have hc:=λg hg=>h1.cells (g:=g) hg;have af:=h1.lt;have hlen:=h2.len;rcases h1.2 with⟨h3,h0⟩|⟨g,cap,cur,h3,_⟩
 ·injection h3 with e1 e2 e3
  subst e1 e2 e3;have hk:kids t=[]:=by cases hk:kids t with|nil=>rfl|cons a b=>rw[hk]at h0;simp at h0
  exact⟨by rw[hk];rfl,(M5 _ _ _ _).2 λh=>absurd hk h⟩
 ·injection h3 with e1 e2 e3
  subst e1 e2 e3;refine⟨rfl,(M5 _ _ _ _).2 λh=>⟨g,rfl,.inr ⟨(af g rfl).1,(af g rfl).2⟩,ur.al (λ_ h=>h) (λ_ _=>rfl) _ _ _ rfl (fs.row (kids t) vs 0 (fs.al (λ_ h=>h.1) (λ_ _=>rfl) _ _ h2) λj u hu=>?_)⟩⟩;have aN:(⟨g,0,none⟩:Addr).add j=⟨g,j,none⟩:=by unfold Addr.add;split <;> simp_all
  have:=hc g rfl j u hu;rw[aN]at this;rw[Dm];exact this
def IJ(w:World)(v:Value)(l:List Value):Prop :=
 ∃A c,v=.slice A l.length c/\(0<l.length->∃g,A=some ⟨g,0,none⟩/\g<w.heap.size/\∀j u,l[j]?=some u->w.cell? ⟨g,j,none⟩=some u)
theorem IJ.Jy {w:World} {base n:Nat} {v:Value} {l:List Value} {e:TypeId}(h:w.ownsRow base e 1 v n l):IJ w v l:=by
 have hc:=λg hg=>h.cells (g:=g) hg;have af:=h.lt;have hl:=h.1;rcases h.2 with⟨rfl,h0⟩|⟨g,cap,cur,rfl,_⟩
 ·exact⟨none,0,by rw[hl,h0],λhp=>by omega⟩
 ·refine⟨_,_,by rw[hl,Nat.mul_one],λ_=>⟨g,rfl,(af g rfl).2,λj u hu=>?_⟩⟩
  have aN:(⟨g,0,none⟩:Addr).add j=⟨g,j,none⟩:=by unfold Addr.add;split <;> simp_all
  have:=hc g rfl j u hu;rwa [aN]at this
theorem IJ.al {w w':World} {v:Value} {l:List Value}(h:IJ w v l)(hs:w.heap.size<=w'.heap.size)(hk:∀k,k<w.heap.size->w'.heap[k]?=w.heap[k]?):IJ w' v l:=by
 obtain⟨A,c,hv,hp⟩:=h;refine⟨A,c,hv,λh0=>?_⟩;obtain⟨g,hA,hg,hc⟩:=hp h0;exact⟨g,hA,by omega,λj u hu=>by rw[Ck (w:=w) (hk g hg)];exact hc j u hu⟩
theorem IJ.below {w w':World} {v:Value} {l:List Value}(h:IJ w v l)(hb:Below w.heap.size w w'):IJ w' v l:=h.al hb.size hb.block
def FQ(l:List (List UInt8)):List Value:=l.map λx=>.string ⟨x.toArray⟩
def Jo(l:List Nat):List Value:=l.map λn=>.int .i64 (n:Nat)
end Go.Proofs.YtfafilmklhnngaaGreatDoor
namespace Go.Proofs.YtfafilmklhnngaaGreatDoor
namespace Tx
open Lx
abbrev Sb:=Nat->Dt
def ap(s:Sb)(d:Dt):Dt:=Bx .fv s d
def N_(s:Sb)(l:List Dt):List Dt:=JF .fv s l
theorem JK(s:Sb)(x:Name):ap s (.fv x)=.fv x:=by unfold ap;rw[Bx]
theorem JX(s:Sb)(i:Nat):ap s (.bv i)=.bv i:=by unfold ap;rw[Bx]
theorem Ge(s:Sb)(n:Nat):ap s (.mt n)=s n:=by unfold ap;rw[Bx]
theorem Jj(s:Sb)(c:Name)(l:List Dt):ap s (.h_ c l)=.h_ c (N_ s l):=by unfold ap N_;rw[Bx]
theorem JJ(s:Sb)(a b:Dt):ap s (.fn a b)=.fn (ap s a) (ap s b):=by unfold ap;rw[Bx]
theorem Iw(s:Sb)(t:Dt):ap s (.all t)=.all (ap s t):=by unfold ap;rw[Bx]
theorem KL(s:Sb):(l:List Dt)->N_ s l=l.map (ap s)
 |[]=>by unfold N_;rw[JF];rfl
 |t::r=>by
  have:=KL s r;unfold N_ at this ⊢;rw[JF,this];rfl
theorem J2(n:Nat):(l:List Dt)->(Lm n l↔∃d∈l,a_ n d)
 |[]=>by rw[Lm];simp
 |t::r=>by rw[Lm,J2 n r];simp
theorem Dt.ind {C:Dt->Prop}(hf:∀x,C (.fv x))(hb:∀i,C (.bv i))(hm:∀n,C (.mt n))(hc:∀c l,(∀d∈l,C d)->C (.h_ c l))(hn:∀a b,C a->C b->C (.fn a b))(ha:∀t,C t->C (.all t))(d:Dt):C d :=
 Dt.rec (motive_1:=C) (motive_2:=λl=>∀d∈l,C d) hf hb hm (λc l h=>hc c l h) (λa b h1 h2=>hn a b h1 h2) (λt h=>ha t h) (λd hd=>by cases hd) (λt r h1 h2 d hd=>by
  rcases Cd.1 hd with e|e
  ·rw[e];exact h1
  ·exact h2 d e) d
theorem Qn(s t:Sb)(d:Dt):ap s (ap t d)=ap (λn=>ap s (t n)) d:=by
 unfold ap;rw[Q6];have:(λx=>Bx Dt.fv s (Dt.fv x))=Dt.fv:=funext λx=>by rw[Bx]
 rw[this]
theorem Si(s t:Sb)(d:Dt):(∀n,a_ n d->s n=t n)->ap s d=ap t d:=by
 induction d using Dt.ind with
 |hf x=>intro _;rw[JK,JK]
 |hb i=>intro _;rw[JX,JX]
 |hm n=>intro h;rw[Ge,Ge];exact h n (by rw[a_])
 |hc c l ih =>
  intro h;rw[Jj,Jj,KL,KL,Ed λd hd=>ih d hd λn hn=>h n (by rw[a_,J2];exact⟨d,hd,hn⟩)]
 |hn a b dC dR=>intro h;rw[JJ,JJ,dC λn hn=>h n (by rw[a_];exact .inl hn),dR λn hn=>h n (by rw[a_];exact .inr hn)]
 |ha t ih=>intro h;rw[Iw,Iw,ih λn hn=>h n (by rw[a_];exact hn)]
theorem UN(s:Sb)(d:Dt)(h:∀n,a_ n d->s n=.mt n):ap s d=d:=Qr _ _ d (λ_ _=>rfl) h
theorem ML(d:Dt):ap .mt d=d:=UN _ d λ_ _=>rfl
theorem Pu(s:Sb)(n:Nat)(d:Dt):a_ n (ap s d)↔∃m,a_ m d/\a_ n (s m):=by
 induction d using Dt.ind with
 |hf x=>rw[JK,a_];simp[a_]
 |hb i=>rw[JX,a_];simp[a_]
 |hm j=>rw[Ge];simp[a_]
 |hc c l ih =>
  rw[Jj,a_,KL,J2];constructor
  ·rintro⟨d,hd,hn⟩
   obtain⟨e,he,rfl⟩:=Ct.1 hd;obtain⟨m,h1,h2⟩:=(ih e he).1 hn;exact⟨m,by rw[a_,J2];exact⟨e,he,h1⟩,h2⟩
  ·rintro⟨m,h1,h2⟩
   rw[a_,J2]at h1;obtain⟨e,he,h1⟩:=h1;exact⟨ap s e,Ct.2 ⟨e,he,rfl⟩,(ih e he).2 ⟨m,h1,h2⟩⟩
 |hn a b dC dR =>
  rw[JJ,a_,dC,dR];constructor
  ·rintro(⟨m,h1,h2⟩|⟨m,h1,h2⟩)
   ·exact⟨m,by rw[a_];exact .inl h1,h2⟩
   ·exact⟨m,by rw[a_];exact .inr h1,h2⟩
  ·rintro⟨m,h1,h2⟩
   rw[a_]at h1;rcases h1 with h1|h1
   ·exact .inl ⟨m,h1,h2⟩
   ·exact .inr ⟨m,h1,h2⟩
 |ha t ih =>
  rw[Iw,a_,ih];constructor
  ·rintro⟨m,h1,h2⟩;exact⟨m,by rw[a_];exact h1,h2⟩
  ·rintro⟨m,h1,h2⟩;rw[a_]at h1;exact⟨m,h1,h2⟩
theorem VO(k:Sb)(n:Nat)(d:Dt):ap k d=d->a_ n d->k n=.mt n:=by
 induction d using Dt.ind with
 |hf x=>intro _ h;rw[a_]at h;exact h.elim
 |hb i=>intro _ h;rw[a_]at h;exact h.elim
 |hm j=>intro h1 h2;rw[Ge]at h1;rw[a_]at h2;rw[h2];exact h1
 |hc c l ih =>
  intro h1 h2;rw[Jj,KL]at h1;injection h1 with _ h1;rw[a_,J2]at h2
  obtain⟨d,hd,h2⟩:=h2;refine ih d hd ?_ h2;obtain⟨i,hi,rfl⟩:=CN.1 hd;have:=Cp (λm=>m[i]?) h1;simpa[CT,BY hi] using this
 |hn a b dC dR =>
  intro h1 h2;rw[JJ]at h1;injection h1 with h3 h4;rw[a_]at h2
  rcases h2 with h2|h2
  ·exact dC h3 h2
  ·exact dR h4 h2
 |ha t ih =>
  intro h1 h2;rw[Iw]at h1;injection h1 with h1;rw[a_]at h2
  exact ih h1 h2
mutual
def sz:Dt->Nat
 |.fv _=>1
 |.bv _=>1
 |.mt _=>1
 |.h_ _ l=>Ic l+1
 |.fn a b=>sz a+sz b+1
 |.all t=>sz t+1
def Ic:List Dt->Nat
 |[]=>0
 |t::r=>sz t+Ic r
end
theorem MF(d:Dt):1<=sz d:=by cases d <;> rw[sz] <;> omega
theorem Ve:(l:List Dt)->(d:Dt)->d∈l->sz d<=Ic l
 |[],d,h=>by cases h
 |t::r,d,h=>by
  rw[Ic];rcases Cd.1 h with e|e
  ·rw[e];omega
  ·have:=Ve r d e;omega
theorem znN(s:Sb)(m:Nat)(d:Dt):a_ m d->sz (s m)<=sz (ap s d)/\(d≠.mt m->sz (s m)<sz (ap s d)):=by
 induction d using Dt.ind with
 |hf x=>intro h;rw[a_]at h;exact h.elim
 |hb i=>intro h;rw[a_]at h;exact h.elim
 |hm j=>intro h;rw[a_]at h;subst h;rw[Ge];exact⟨BU _,λh=>absurd rfl h⟩
 |hc c l ih =>
  intro h;rw[a_,J2]at h;obtain⟨d,hd,h⟩:=h;have h1:=(ih d hd h).1;have h2:=Ve (l.map (ap s)) (ap s d) (Ct.2 ⟨d,hd,rfl⟩);rw[Jj,sz,KL];exact⟨by omega,λ_=>by omega⟩
 |hn a b dC dR =>
  intro h;rw[a_]at h;rw[JJ,sz];rcases h with h|h
  ·have:=(dC h).1;exact⟨by omega,λ_=>by omega⟩
  ·have:=(dR h).1;exact⟨by omega,λ_=>by omega⟩
 |ha t ih =>
  intro h;rw[a_]at h;rw[Iw,sz];have:=(ih h).1;exact⟨by omega,λ_=>by omega⟩
mutual
def ET:Dt->Bool
 |.h_ _ l=>Hh l
 |.fn a b=>ET a||ET b
 |.all _=>true
 |_=>false
def Hh:List Dt->Bool
 |[]=>false
 |t::r=>ET t||Hh r
end
mutual
def Ji:Dt->Bool
 |.h_ _ l=>Mp l
 |.fn a b=>Ji a||Ji b
 |.all t=>Ji t
 |.bv _=>true
 |_=>false
def Mp:List Dt->Bool
 |[]=>false
 |t::r=>Ji t||Mp r
end
theorem QU:(l:List Dt)->Hh l=l.any ET
 |[]=>by rw[Hh];rfl
 |t::r=>by rw[Hh,QU r];rfl
theorem Sh:(l:List Dt)->Mp l=l.any Ji
 |[]=>by rw[Mp];rfl
 |t::r=>by rw[Mp,Sh r];rfl
def Plain(d:Dt):Prop:=ET d=false/\Ji d=false
theorem Jk(n:Nat):Plain (.mt n):=⟨by rw[ET] <;> simp,by rw[Ji] <;> simp⟩
theorem zjN(x:Name):Plain (.fv x):=⟨by rw[ET] <;> simp,by rw[Ji] <;> simp⟩
theorem PJ(c:Name)(l:List Dt):Plain (.h_ c l)↔∀d∈l,Plain d:=by
 unfold Plain;rw[ET,Ji,QU,Sh];simp only[List.any_eq_false,Bool.not_eq_true];exact⟨λh d hd=>⟨h.1 d hd,h.2 d hd⟩,λh=>⟨λd hd=>(h d hd).1,λd hd=>(h d hd).2⟩⟩
theorem plain_fn(a b:Dt):Plain (.fn a b)↔Plain a/\Plain b:=by
 unfold Plain;rw[ET,Ji,DV,DV];exact⟨λh=>⟨⟨h.1.1,h.2.1⟩,h.1.2,h.2.2⟩,λh=>⟨⟨h.1.1,h.2.1⟩,h.1.2,h.2.2⟩⟩
theorem LY(t:Dt):¬Plain (.all t):=λh=>by have:=h.1;rw[ET]at this;cases this
theorem LG(i:Nat):¬Plain (.bv i):=λh=>by have:=h.2;rw[Ji]at this;cases this
theorem Ou(s:Sb)(d:Dt):Plain (ap s d)↔Plain d/\∀m,a_ m d->Plain (s m):=by
 induction d using Dt.ind with
 |hf x=>rw[JK];exact⟨λh=>⟨h,λm hm=>by rw[a_]at hm;exact hm.elim⟩,λh=>h.1⟩
 |hb i=>rw[JX];exact⟨λh=>absurd h (LG i),λh=>h.1⟩
 |hm n=>rw[Ge];exact⟨λh=>⟨Jk n,λm hm=>by rw[a_]at hm;rw[hm];exact h⟩,λh=>h.2 n (by rw[a_])⟩
 |hc c l ih =>
  rw[Jj,KL,PJ,PJ];constructor
  ·intro h
   refine⟨λd hd=>((ih d hd).1 (h _ (Ct.2 ⟨d,hd,rfl⟩))).1,λm hm=>?_⟩;rw[a_,J2]at hm;obtain⟨d,hd,hm⟩:=hm;exact((ih d hd).1 (h _ (Ct.2 ⟨d,hd,rfl⟩))).2 m hm
  ·intro h d hd
   obtain⟨e,he,rfl⟩:=Ct.1 hd;exact(ih e he).2 ⟨h.1 e he,λm hm=>h.2 m (by rw[a_,J2];exact⟨e,he,hm⟩)⟩
 |hn a b dC dR =>
  rw[JJ,plain_fn,plain_fn,dC,dR];constructor
  ·rintro⟨⟨h1,h2⟩,h3,h4⟩
   refine⟨⟨h1,h3⟩,λm hm=>?_⟩;rw[a_]at hm;rcases hm with hm|hm
   ·exact h2 m hm
   ·exact h4 m hm
  ·rintro⟨⟨h1,h3⟩,h⟩
   exact⟨⟨h1,λm hm=>h m (by rw[a_];exact .inl hm)⟩,h3,λm hm=>h m (by rw[a_];exact .inr hm)⟩
 |ha t ih=>rw[Iw];exact⟨λh=>absurd h (LY _),λh=>absurd h.1 (LY _)⟩
inductive RE where
 |skip
 |Fs (m:Nat) (t:Dt)
 |push (l:List (Dt × Dt))
 |FA
def act:Dt->Dt->RE
 |.mt m,.mt n=>if m=n then .skip else if n<m then .Fs m (.mt n) else .Fs n (.mt m)
 |.mt m,y=>.Fs m y
 |x,.mt n=>.Fs n x
 |.fv x,.fv y=>if x=y then .skip else .FA
 |.bv i,.bv j=>if i=j then .skip else .FA
 |.h_ c l,.h_ d r=>if c=d/\l.length=r.length then .push (l.zip r) else .FA
 |.fn a b,.fn c d=>.push [(a,c),(b,d)]
 |.all a,.all b=>.push [(a,b)]
 |_,_=>.FA
def bad(m:Nat)(t:Dt):Nat:=if m∈Jg t [] then 41 else if ET t=true then 42 else if Ji t=true then 43 else 0
theorem Ot(m:Nat)(t:Dt):bad m t=0↔¬a_ m t/\Plain t:=by
 unfold bad Plain;have hm:m∈Jg t []↔a_ m t:=by rw[MI];simp
 by_cases h1:a_ m t
 ·rw[Ch (hm.2 h1)];simp[h1]
 ·rw[Cg (λh=>h1 (hm.1 h))]
  by_cases h2:ET t=true
  ·simp[h2]
  ·by_cases h3:Ji t=true
   ·simp[h2,h3]
   ·simp[h1,h2,h3]
def Fc:Nat->List (Dt × Dt)->Sb->Option (Nat ⊕ Sb)
 |0,_,_=>none
 |_+1,[],k=>some (.inr k)
 |f+1,(a,b)::r,k =>
  match act (ap k a) (ap k b) with
  |.skip=>Fc f r k
  |.push l=>Fc f (l++r) k
  |.FA=>some (.inl 40)
  |.Fs m t=>if bad m t=0 then Fc f r (λn=>ap (IF m t) (k n)) else some (.inl (bad m t))
theorem zpM(f:Nat):∀E k o,Fc f E k=some o->Fc (f+1) E k=some o:=by
 induction f with
 |zero=>intro E k o h;rw[Fc]at h;cases h
 |succ f ih =>
  intro E k o h;cases E with
  |nil=>rw[Fc]at h ⊢;exact h
  |cons p r =>
   obtain⟨a,b⟩:=p;rw[Fc]at h ⊢;cases hq:act (ap k a) (ap k b) with
   |skip=>rw[hq]at h;exact ih _ _ _ h
   |push l=>rw[hq]at h;exact ih _ _ _ h
   |FA=>rw[hq]at h;exact h
   |Fs m t =>
    rw[hq]at h;simp only at h ⊢;by_cases hb:bad m t=0
    ·rw[Ch hb]at h ⊢;exact ih _ _ _ h
    ·rw[Cg hb]at h ⊢;exact h
theorem znO {f g:Nat} {E:List (Dt × Dt)} {k:Sb} {o:Nat ⊕ Sb}(h:Fc f E k=some o)(hg:f<=g):Fc g E k=some o:=by
 obtain⟨d,rfl⟩:∃d,g=f+d:=⟨g-f,by omega⟩;clear hg;induction d with
 |zero=>exact h
 |succ d ih=>exact zpM _ _ _ _ ih
theorem RZ {f g:Nat} {E:List (Dt × Dt)} {k:Sb} {o p:Nat ⊕ Sb}(h:Fc f E k=some o)(h':Fc g E k=some p):o=p:=by
 have h1:=znO h (Nat.le_max_left f g);have h2:=znO h' (Nat.le_max_right f g);rw[h1]at h2;injection h2
def GX(k:Sb):Prop:=∀n,ap k (k n)=k n
theorem J0:GX .mt:=λn=>Ge _ n
theorem KQ {k:Sb}(h:GX k)(d:Dt):ap k (ap k d)=ap k d:=by
 rw[Qn];exact Si _ _ d λn _=>h n
def GI(m:Nat)(t:Dt)(k:Sb):Sb:=λn=>ap (IF m t) (k n)
theorem KE(m:Nat)(t:Dt)(k:Sb)(d:Dt):ap (GI m t k) d=ap (IF m t) (ap k d):=by rw[Qn];rfl
theorem KG(m:Nat)(t:Dt):IF m t m=t:=by unfold IF;rw[Ch rfl]
theorem KH(m:Nat)(t:Dt)(n:Nat)(h:n≠m):IF m t n=.mt n:=by unfold IF;rw[Cg h]
theorem VB(m:Nat)(t d:Dt)(h:¬a_ m d):ap (IF m t) d=d:=UN _ d λn hn=>KH m t n (λe=>h (e▸hn))
theorem PV {k:Sb} {m:Nat} {t:Dt}(hk:GX k)(ht:ap k t=t)(hm:¬a_ m t):GX (GI m t k):=by
 intro n;rw[KE];show ap (IF m t) (ap k (ap (IF m t) (k n)))=ap (IF m t) (k n);have h1:ap k (ap (IF m t) (k n))=ap (IF m t) (k n):=by
  refine UN _ _ λj hj=>?_;obtain⟨i,hi,hj⟩:=(Pu _ _ _).1 hj;by_cases eB:i=m
  ·rw[eB,KG]at hj
   exact VO k j t ht hj
  ·rw[KH m t i eB,a_]at hj
   rw[hj];exact VO k i (k n) (hk n) hi
 rw[h1];refine VB m t _ λh=>?_;obtain⟨i,_,hj⟩:=(Pu _ _ _).1 h;by_cases eB:i=m
 ·rw[eB,KG]at hj;exact hm hj
 ·rw[KH m t i eB,a_]at hj;exact eB hj.symm
theorem OH {x y:Dt} {m:Nat} {t:Dt}(h:act x y=.Fs m t):(x=.mt m/\t=y\/y=.mt m/\t=x)/\x≠y:=by
 cases x <;> cases y <;> simp[act]at h <;> try (obtain⟨rfl,rfl⟩:=h;simp;done)
 all_goals (split at h <;> try split at h) <;> simp_all
 all_goals (first|(obtain⟨rfl,rfl⟩:=h;simp;omega)|skip)
theorem N4 {x y:Dt} {l:List (Dt × Dt)}(h:act x y=.push l):(∃c u v,x=.h_ c u/\y=.h_ c v/\u.length=v.length/\l=u.zip v)\/(∃a b c d,x=.fn a b/\y=.fn c d/\l=[(a,c),(b,d)])\/∃a b,x=.all a/\y=.all b/\l=[(a,b)]:=by
 cases x <;> cases y <;> simp only[act,reduceCtorEq]at h;case h_.h_ c u d v =>
  split at h
  ·rename_i hc
   injection h with h;exact .inl ⟨c,u,v,rfl,by rw[hc.1],hc.2,h.symm⟩
  ·cases h
 case fn.fn a b c d=>injection h with h;exact .inr (.inl ⟨a,b,c,d,rfl,rfl,h.symm⟩)
 case all.all a b=>injection h with h;exact .inr (.inr ⟨a,b,rfl,rfl,h.symm⟩)
 all_goals (split at h <;> first|(cases h;done)|(split at h <;> cases h))
theorem zpN {x y:Dt}(h:act x y=.skip):x=y:=by
 cases x <;> cases y <;> simp[act]at h;all_goals (first|(split at h <;> simp_all;done)|(simp_all;done)|(split at h;simp_all;split at h <;> simp_all))
theorem zpO(x:Dt):act x x=.skip\/∃l,act x x=.push l/\∀p∈l,p.1=p.2:=by
 cases x with
 |fv x=>exact .inl (by simp[act])
 |bv i=>exact .inl (by simp[act])
 |mt n=>exact .inl (by simp[act])
 |h_ c l =>
  refine .inr ⟨l.zip l,by simp[act],λp hp=>?_⟩;obtain⟨i,hi,rfl⟩:=CN.1 hp;simp
 |fn a b=>exact .inr ⟨_,rfl,λp hp=>by simp at hp;rcases hp with rfl|rfl <;> rfl⟩
 |all a=>exact .inr ⟨_,rfl,λp hp=>by simp at hp;rw[hp]⟩
end Tx
namespace Tx
open Lx
def Lp(k:Sb)(l:List (Dt × Dt)):Nat:=(l.map λp=>sz (ap k p.1)).sum
theorem zkT(k:Sb):Lp k []=0:=rfl
theorem M4(k:Sb)(p:Dt × Dt)(r:List (Dt × Dt)):Lp k (p::r)=sz (ap k p.1)+Lp k r:=by unfold Lp;rw[CA,DW]
theorem Vd(k:Sb)(l r:List (Dt × Dt)):Lp k (l++r)=Lp k l+Lp k r:=by unfold Lp;rw[Dn,List.sum_append]
theorem zkU:(l:List Dt)->Ic l=(l.map sz).sum
 |[]=>by rw[Ic];rfl
 |t::r=>by rw[Ic,zkU r,CA,DW]
theorem zkV {k:Sb} {c:Name} {l:List Dt}(h:ap k (.h_ c l)=.h_ c l):∀d∈l,ap k d=d:=by
 rw[Jj,KL]at h;injection h with _ h;intro d hd;obtain⟨i,hi,rfl⟩:=CN.1 hd;have:=Cp (λm=>m[i]?) h;simpa[CT,BY hi] using this
theorem znP {k:Sb} {a b:Dt}(h:ap k (.fn a b)=.fn a b):ap k a=a/\ap k b=b:=by
 rw[JJ]at h;injection h with h1 h2;exact⟨h1,h2⟩
theorem zkW {k:Sb} {a:Dt}(h:ap k (.all a)=.all a):ap k a=a:=by
 rw[Iw]at h;injection h
theorem Sg {k:Sb} {x y:Dt} {q:List (Dt × Dt)}(hx:ap k x=x)(hy:ap k y=y)(h:act x y=.push q):Lp k q<sz x/\∀p∈q,ap k p.1=p.1/\ap k p.2=p.2:=by
 rcases N4 h with⟨c,u,v,rfl,rfl,hl,rfl⟩|⟨a,b,c,d,rfl,rfl,rfl⟩|⟨a,b,rfl,rfl,rfl⟩
 ·have h1:=zkV hx
  have h2:=zkV hy;refine⟨?_,λp hp=>⟨h1 _ (DA hp).1,h2 _ (DA hp).2⟩⟩;have e:Lp k (u.zip v)=Ic u:=by
   unfold Lp;rw[zkU];have:(u.zip v).map (λp=>sz (ap k p.1))=((u.zip v).map Prod.fst).map (λd=>sz (ap k d)):=by rw[DS];rfl
   rw[this,List.map_fst_zip (by omega)];exact Cp List.sum (Ed λd hd=>by rw[h1 d hd])
  rw[e,sz];omega
 ·have h1:=znP hx
  have h2:=znP hy;refine⟨?_,λp hp=>?_⟩
  ·rw[M4,M4,zkT,h1.1,h1.2,sz];omega
  ·simp at hp
   rcases hp with rfl|rfl
   ·exact⟨h1.1,h2.1⟩
   ·exact⟨h1.2,h2.2⟩
 ·have h1:=zkW hx
  have h2:=zkW hy;refine⟨?_,λp hp=>?_⟩
  ·rw[M4,zkT,h1,sz];omega
  ·simp at hp;rw[hp];exact⟨h1,h2⟩
theorem zpP {k:Sb}(hk:GX k)(N:Nat):∀(l:List (Dt × Dt)),(∀p∈l,ap k p.1=ap k p.2)->Lp k l<=N->∀f r o,Fc f (l++r) k=some o->∃g,g+l.length<=f/\Fc g r k=some o:=by
 induction N with
 |zero =>
  intro l _ hs f r o h;cases l with
  |nil=>exact⟨f,BU _,h⟩
  |cons p l=>rw[M4]at hs;have:=MF (ap k p.1);omega
 |succ N ih =>
  intro l hl hs f r o h;cases l with
  |nil=>exact⟨f,BU _,h⟩
  |cons p l =>
   obtain⟨a,b⟩:=p;cases f with
   |zero=>rw[Fc]at h;cases h
   |succ f =>
    rw[M4]at hs;have hp:=MF (ap k a);have bp:ap k a=ap k b:=hl (a,b) Cs;rw[Co,Fc,<-bp]at h;have fZ:∀p∈l,ap k p.1=ap k p.2:=λp hp=>hl p (Cf _ hp);rcases zpO (ap k a) with hq|⟨q,hq,hqe⟩
    ·rw[hq]at h
     obtain⟨g,hg,ho⟩:=ih l fZ (by simp only at hs;omega) f r o h;exact⟨g,by rw[Ca];omega,ho⟩
    ·rw[hq]at h
     have hfx:=KQ hk a;obtain⟨h1,h2⟩:=Sg hfx hfx hq;simp only at h;rw[<-DC]at h;obtain⟨g,hg,ho⟩:=ih (q++l) (λp hp=>by
      rcases Cr.1 hp with hp|hp
      ·rw[hqe p hp]
      ·exact fZ p hp) (by rw[Vd];simp only at hs;omega) f r o h
     rw[Cb]at hg;exact⟨g,by rw[Ca];omega,ho⟩
theorem zpQ {k:Sb}(hk:GX k) {a b:Dt}(h:ap k a=ap k b) {f:Nat} {r:List (Dt × Dt)} {o:Nat ⊕ Sb}(ho:Fc f ((a,b)::r) k=some o):∃g,g<f/\Fc g r k=some o:=by
 obtain⟨g,hg,h⟩:=zpP hk _ [(a,b)] (λp hp=>by simp at hp;rw[hp];exact h) (BU _) f r o ho;exact⟨g,by simp at hg;omega,h⟩
def IQ(k:Sb)(n:Nat):Bool:=match k n with|.mt j=>j==n|_=>false
theorem QT(k:Sb)(n:Nat):IQ k n=true↔k n=.mt n:=by
 unfold IQ;cases h:k n <;> simp
theorem Wj {α:Type}(p q:α->Bool)(m:α):(L:List α)->(∀n,q n=true->p n=true)->m∈L->p m=true->q m=false->(L.filter q).length<(L.filter p).length
 |[],_,h,_,_=>by cases h
 |a::r,qT,h,hp,hq=>by
  have hle:∀l:List α,(l.filter q).length<=(l.filter p).length:=λl=>by
   induction l with
   |nil=>simp
   |cons b r ih =>
    rw[EA,EA];by_cases hb:q b=true
    ·rw[Ch hb,Ch (qT b hb)];simp;exact ih
    ·rw[Cg hb]
     split
     ·simp;omega
     ·exact ih
  rw[EA,EA];by_cases ha:a=m
  ·subst ha
   rw[Ch hp,Cg (by rw[hq];simp)];have:=hle r;simp;omega
  ·have ih:=Wj p q m r qT (by rcases Cd.1 h with e|e;exact absurd e.symm ha;exact e) hp hq
   by_cases hb:q a=true
   ·rw[Ch hb,Ch (qT a hb)];simp;exact ih
   ·rw[Cg hb]
    split
    ·simp;omega
    ·exact ih
theorem OF {k:Sb}(hk:GX k) {a b:Dt} {m:Nat} {t:Dt}(h:act (ap k a) (ap k b)=.Fs m t):k m=.mt m/\ap k t=t/\(a_ m (ap k a)\/a_ m (ap k b))/\(∀n,a_ n t->a_ n (ap k a)\/a_ n (ap k b)):=by
 obtain⟨(⟨h1,rfl⟩|⟨h1,rfl⟩),_⟩:=OH h
 ·refine⟨?_,KQ hk b,.inl (by rw[h1,a_]),λn hn=>.inr hn⟩
  have:=KQ hk a;rw[h1,Ge]at this;exact this
 ·refine⟨?_,KQ hk a,.inr (by rw[h1,a_]),λn hn=>.inl hn⟩
  have:=KQ hk b;rw[h1,Ge]at this;exact this
theorem zpR {k:Sb} {m n:Nat} {t:Dt}(ht:ap k t=t)(h:GI m t k n=.mt n):k n=.mt n:=by
 unfold GI at h;cases hk:k n with
 |mt j =>
  rw[hk,Ge]at h;by_cases hj:j=m
  ·rw[hj,KG]at h
   have h1:k n=.mt n:=VO k n t ht (by rw[h,a_]);rw[hk]at h1;exact h1
  ·rw[KH m t j hj]at h;exact h
 |fv x=>rw[hk,JK]at h;cases h
 |bv i=>rw[hk,JX]at h;cases h
 |h_ c l=>rw[hk,Jj]at h;cases h
 |fn a b=>rw[hk,JJ]at h;cases h
 |all a=>rw[hk,Iw]at h;cases h
theorem znQ(L:List Nat)(u:Nat):∀(N:Nat)(E:List (Dt × Dt))(k:Sb),GX k->(∀p∈E,∀n,a_ n (ap k p.1)\/a_ n (ap k p.2)->n∈L)->(L.filter (IQ k)).length<=u->Lp k E<=N->∃f o,Fc f E k=some o:=by
 induction u with
 |zero =>
  intro N;induction N with
  |zero =>
   intro E k hk hL hu hs;cases E with
   |nil=>exact⟨1,_,rfl⟩
   |cons p r=>rw[M4]at hs;have:=MF (ap k p.1);omega
  |succ N ih =>
   intro E k hk hL hu hs;cases E with
   |nil=>exact⟨1,_,rfl⟩
   |cons p r =>
    obtain⟨a,b⟩:=p;rw[M4]at hs;have hp:=MF (ap k a);have hr:∀p∈r,∀n,a_ n (ap k p.1)\/a_ n (ap k p.2)->n∈L:=λp hp=>hL p (Cf _ hp);have bp:=hL (a,b) Cs;cases hq:act (ap k a) (ap k b) with
    |skip =>
     obtain⟨f,o,h⟩:=ih r k hk hr hu (by simp only at hs;omega);exact⟨f+1,o,by rw[Fc,hq];exact h⟩
    |FA=>exact⟨1,_,by rw[Fc,hq]⟩
    |push q =>
     obtain⟨h1,h2⟩:=Sg (KQ hk a) (KQ hk b) hq;obtain⟨f,o,h⟩:=ih (q++r) k hk (λp hp n hn=>by
      rcases Cr.1 hp with hp|hp
      ·rw[(h2 p hp).1,(h2 p hp).2]at hn
       refine bp n ?_;rcases N4 hq with⟨c,u,v,e1,e2,_,rfl⟩|⟨c,d,c',d',e1,e2,rfl⟩|⟨c,d,e1,e2,rfl⟩
       ·simp only[e1,e2,a_,J2]
        rcases hn with hn|hn
        ·exact .inl ⟨_,(DA hp).1,hn⟩
        ·exact .inr ⟨_,(DA hp).2,hn⟩
       ·simp only[e1,e2,a_]
        simp at hp;rcases hp with rfl|rfl
        ·rcases hn with hn|hn
         ·exact .inl (.inl hn)
         ·exact .inr (.inl hn)
        ·rcases hn with hn|hn
         ·exact .inl (.inr hn)
         ·exact .inr (.inr hn)
       ·simp only[e1,e2,a_]
        simp at hp;rw[hp]at hn;exact hn
      ·exact hr p hp n hn) hu (by rw[Vd];simp only at hs;omega)
     exact⟨f+1,o,by rw[Fc,hq];exact h⟩
    |Fs m t =>
     obtain⟨h1,_,h3,_⟩:=OF hk hq;have:m∈L.filter (IQ k):=Dp.2 ⟨bp m h3,(QT k m).2 h1⟩;have:=List.length_pos_of_mem this;omega
 |succ u ihu =>
  intro N;induction N with
  |zero =>
   intro E k hk hL hu hs;cases E with
   |nil=>exact⟨1,_,rfl⟩
   |cons p r=>rw[M4]at hs;have:=MF (ap k p.1);omega
  |succ N ih =>
   intro E k hk hL hu hs;cases E with
   |nil=>exact⟨1,_,rfl⟩
   |cons p r =>
    obtain⟨a,b⟩:=p;rw[M4]at hs;have hp:=MF (ap k a);have hr:∀p∈r,∀n,a_ n (ap k p.1)\/a_ n (ap k p.2)->n∈L:=λp hp=>hL p (Cf _ hp);have bp:=hL (a,b) Cs;cases hq:act (ap k a) (ap k b) with
    |skip =>
     obtain⟨f,o,h⟩:=ih r k hk hr hu (by simp only at hs;omega);exact⟨f+1,o,by rw[Fc,hq];exact h⟩
    |FA=>exact⟨1,_,by rw[Fc,hq]⟩
    |push q =>
     obtain⟨h1,h2⟩:=Sg (KQ hk a) (KQ hk b) hq;obtain⟨f,o,h⟩:=ih (q++r) k hk (λp hp n hn=>by
      rcases Cr.1 hp with hp|hp
      ·rw[(h2 p hp).1,(h2 p hp).2]at hn
       refine bp n ?_;rcases N4 hq with⟨c,u,v,e1,e2,_,rfl⟩|⟨c,d,c',d',e1,e2,rfl⟩|⟨c,d,e1,e2,rfl⟩
       ·simp only[e1,e2,a_,J2]
        rcases hn with hn|hn
        ·exact .inl ⟨_,(DA hp).1,hn⟩
        ·exact .inr ⟨_,(DA hp).2,hn⟩
       ·simp only[e1,e2,a_]
        simp at hp;rcases hp with rfl|rfl
        ·rcases hn with hn|hn
         ·exact .inl (.inl hn)
         ·exact .inr (.inl hn)
        ·rcases hn with hn|hn
         ·exact .inl (.inr hn)
         ·exact .inr (.inr hn)
       ·simp only[e1,e2,a_]
        simp at hp;rw[hp]at hn;exact hn
      ·exact hr p hp n hn) hu (by rw[Vd];simp only at hs;omega)
     exact⟨f+1,o,by rw[Fc,hq];exact h⟩
    |Fs m t =>
     obtain⟨h1,h2,h3,h4⟩:=OF hk hq;by_cases hb:bad m t=0
     ·have ho:=((Ot m t).1 hb).1
      have af:(L.filter (IQ (GI m t k))).length<(L.filter (IQ k)).length:=by
       refine Wj _ _ m L (λn hn=>(QT k n).2 (zpR h2 ((QT _ n).1 hn))) (bp m h3) ((QT k m).2 h1) ?_;rw[Cz];intro hf;have:=(QT _ m).1 hf;unfold GI at this;rw[h1,Ge,KG]at this;exact ho (by rw[this,a_])
      obtain⟨f,o,h⟩:=ihu (Lp (GI m t k) r) r (GI m t k) (PV hk h2 ho) (λp hp n hn=>by
       rw[KE,KE,Pu,Pu]at hn;rcases hn with⟨j,hj,hn⟩|⟨j,hj,hn⟩
       ·by_cases Rg:j=m
        ·rw[Rg,KG]at hn;exact bp n (h4 n hn)
        ·rw[KH m t j Rg,a_]at hn;rw[hn];exact hr p hp j (.inl hj)
       ·by_cases Rg:j=m
        ·rw[Rg,KG]at hn;exact bp n (h4 n hn)
        ·rw[KH m t j Rg,a_]at hn;rw[hn];exact hr p hp j (.inr hj)) (by omega) (BU _)
      exact⟨f+1,o,by rw[Fc,hq];simp only;rw[Ch hb];exact h⟩
     ·exact⟨1,_,by rw[Fc,hq];simp only;rw[Cg hb]⟩
def B_(s k:Sb):Prop:=∀n,ap s (k n)=s n
theorem B_.ap {s k:Sb}(h:B_ s k)(d:Dt):ap s (ap k d)=ap s d:=by
 rw[Qn];exact Si _ _ d λn _=>h n
theorem zer {s k:Sb} {m:Nat} {t:Dt}(h:B_ s (GI m t k))(hm:k m=.mt m):B_ s k/\s m=Tx.ap s t:=by
 have h1:s m=Tx.ap s t:=by
  have:=h m;unfold GI at this;rw[hm,Ge,KG]at this;exact this.symm
 refine⟨λn=>?_,h1⟩;have:=h n;unfold GI at this;rw[Qn,Si _ s (k n) (λj _=>?_)]at this
 ·exact this
 ·by_cases hj:j=m
  ·rw[hj,KG];exact h1.symm
  ·rw[KH m t j hj,Ge]
theorem zkX {s:Sb} {x y:Dt} {l:List (Dt × Dt)}(h:act x y=.push l):(∀p∈l,ap s p.1=ap s p.2)↔ap s x=ap s y:=by
 rcases N4 h with⟨c,u,v,rfl,rfl,hl,rfl⟩|⟨a,b,c,d,rfl,rfl,rfl⟩|⟨a,b,rfl,rfl,rfl⟩
 ·rw[Jj,Jj,KL,KL]
  constructor
  ·intro h
   have:u.map (ap s)=v.map (ap s):=by
    refine List.ext_getElem (by simpa using hl) λi h1 h2=>?_;simp only[CE]at h1 h2;rw[D6,D6]
    exact h (u[i],v[i]) (CN.2 ⟨i,by rw[List.length_zip];omega,by rw[List.getElem_zip]⟩)
   rw[this]
  ·intro h p hp
   injection h with _ h;obtain⟨i,hi,rfl⟩:=CN.1 hp;rw[List.getElem_zip]
   rw[List.length_zip]at hi;have:=Cp (λm=>m[i]?) h;simpa[CT,BY (show i<u.length by omega),BY (show i<v.length by omega)] using this
 ·rw[JJ,JJ]
  constructor
  ·intro h;rw[h (a,c) (by simp),h (b,d) (by simp)]
  ·intro h p hp
   injection h with h1 h2;simp at hp;rcases hp with rfl|rfl
   ·exact h1
   ·exact h2
 ·rw[Iw,Iw]
  constructor
  ·intro h;rw[h (a,b) (by simp)]
  ·intro h p hp
   injection h with h1;simp at hp;rw[hp]
   exact h1
theorem NX(f:Nat):∀(E:List (Dt × Dt))(k k':Sb),Fc f E k=some (.inr k')->GX k->(∀n,Plain (k n))->GX k'/\(∀n,Plain (k' n))/\B_ k' k/\∀p∈E,ap k' p.1=ap k' p.2:=by
 induction f with
 |zero=>intro E k k' h;rw[Fc]at h;cases h
 |succ f ih =>
  intro E k k' h hk hp;cases E with
  |nil =>
   rw[Fc]at h;injection h with h;injection h with h;subst h;exact⟨hk,hp,hk,λp hp=>by cases hp⟩
  |cons p r =>
   obtain⟨a,b⟩:=p;rw[Fc]at h;cases hq:act (ap k a) (ap k b) with
   |skip =>
    rw[hq]at h;obtain⟨h1,h2,h3,h4⟩:=ih r k k' h hk hp;refine⟨h1,h2,h3,λp hp=>?_⟩;rcases Cd.1 hp with e|e
    ·rw[e];show ap k' a=ap k' b;rw[<-h3.ap a,<-h3.ap b,zpN hq]
    ·exact h4 p e
   |FA=>rw[hq]at h;injection h with h;cases h
   |push l =>
    rw[hq]at h;obtain⟨h1,h2,h3,h4⟩:=ih (l++r) k k' h hk hp;refine⟨h1,h2,h3,λp hp=>?_⟩;rcases Cd.1 hp with e|e
    ·rw[e];show ap k' a=ap k' b;rw[<-h3.ap a,<-h3.ap b]
     exact(zkX hq).1 λp hp=>h4 p (CZ _ hp)
    ·exact h4 p (CP _ e)
   |Fs m t =>
    rw[hq]at h;simp only at h;by_cases hb:bad m t=0
    ·rw[Ch hb]at h
     obtain⟨e1,e2,_,_⟩:=OF hk hq;obtain⟨ho,cL⟩:=(Ot m t).1 hb;obtain⟨h1,h2,h3,h4⟩:=ih r (GI m t k) k' h (PV hk e2 ho) (λn=>by
      unfold GI;rw[Ou];refine⟨hp n,λj _=>?_⟩;by_cases hj:j=m
      ·rw[hj,KG];exact cL
      ·rw[KH m t j hj];exact Jk j)
     obtain⟨h5,h6⟩:=zer h3 e1;refine⟨h1,h2,h5,λp hp=>?_⟩;rcases Cd.1 hp with e|e
     ·rw[e];show ap k' a=ap k' b;rw[<-h5.ap a,<-h5.ap b]
      obtain⟨(⟨g1,g2⟩|⟨g1,g2⟩),_⟩:=OH hq
      ·rw[g1,Ge,h6,g2]
      ·rw[g1,Ge,h6,g2]
     ·exact h4 p e
    ·rw[Cg hb]at h;injection h with h;cases h
end Tx
end Go.Proofs.YtfafilmklhnngaaGreatDoor
