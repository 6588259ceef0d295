import Derived.Test.YtaomnlcplmkokaaGreatDoorBiC
import Derived.IntWalk
import Derived.Laws.Rows
set_option maxHeartbeats 12800000
namespace Go.Proofs.YtaomnlcplmkokaaGreatDoor
open Go.RowKit Lx
set_option maxRecDepth 100000
theorem zmk(s:ByteArray)(w:World):Calls Tryz.prog 101 #[.string s] w λe w'=>e=.returned (.func (.func 117) #[] #[.pointer (some ⟨w.heap.size+1,0,none⟩),.pointer (some ⟨w.heap.size,0,none⟩)]) /\
   w'=(w.alloc (.cells #[.string s] 9)).alloc (.cells #[.int .i64 0] 3):=by
 have hmf:∀(fn:Fn) (first cap:Array Value) (w:World),(Instr.makeFunc fn first cap).run Tryz.prog w=.ok (.func fn first cap) w:=λ_ _ _ _=>rfl;go_enter Tryz.func101,Tryz.ntmps101
 go_wp2
 go_ret
 exact⟨rfl,rfl⟩
theorem zml(w:World)(ba nq:Nat)(t3 t30:TypeId)(x u v0 v1 v2 z0 z1 z2:Value)(ha:w.heap[ba]?=some (.cells #[x] t3 (0,0))):(((((((w.alloc (.cells #[z0,z1,z2] t30)).drewN nq).setCell ⟨ba,0,none⟩ u).setCell ⟨w.heap.size,0,none⟩ v0).setCell ⟨w.heap.size,1,none⟩ v1).setCell ⟨w.heap.size,2,none⟩ v2).heap[w.heap.size]?=some (.cells #[v0,v1,v2] t30 (0,0))) /\
  (((((((w.alloc (.cells #[z0,z1,z2] t30)).drewN nq).setCell ⟨ba,0,none⟩ u).setCell ⟨w.heap.size,0,none⟩ v0).setCell ⟨w.heap.size,1,none⟩ v1).setCell ⟨w.heap.size,2,none⟩ v2).heap[ba]?=some (.cells #[u] t3 (0,0))) /\
  w.grownBy ((((((w.alloc (.cells #[z0,z1,z2] t30)).drewN nq).setCell ⟨ba,0,none⟩ u).setCell ⟨w.heap.size,0,none⟩ v0).setCell ⟨w.heap.size,1,none⟩ v1).setCell ⟨w.heap.size,2,none⟩ v2) (some ba):=by
 have hlt:=lt_of_block ha;have n0:((w.alloc (.cells #[z0,z1,z2] t30)).drewN nq).heap[w.heap.size]?=some (.cells #[z0,z1,z2] t30 (0,0)):=heap_alloc_new w _;have a0:((w.alloc (.cells #[z0,z1,z2] t30)).drewN nq).heap[ba]?=some (.cells #[x] t3 (0,0)):=(Below.heap_alloc w _ ba hlt).trans ha;have n1:=(heap_setCell_other _ ⟨ba,0,none⟩ w.heap.size u (by simp;omega)).trans n0;have a1:=one_setCell (u:=u) a0;have n2:=heap_setCell_same _ w.heap.size 0 _ t30 v0 n1;have a2:=(heap_setCell_other _ ⟨w.heap.size,0,none⟩ ba v0 (by simp;omega)).trans a1;have n3:=heap_setCell_same _ w.heap.size 1 _ t30 v1 n2;have a3:=(heap_setCell_other _ ⟨w.heap.size,1,none⟩ ba v1 (by simp;omega)).trans a2;have n4:=heap_setCell_same _ w.heap.size 2 _ t30 v2 n3;have a4:=(heap_setCell_other _ ⟨w.heap.size,2,none⟩ ba v2 (by simp;omega)).trans a3;refine⟨n4,a4,⟨rfl,rfl,rfl,?_,?_⟩⟩
 ·simp[World.setCell]
 ·intro k hk hne
  have hne:k≠ba:=λe=>hne (by rw[e]);rw[heap_setCell_other _ _ _ _ (by simp;omega),heap_setCell_other _ _ _ _ (by simp;omega),heap_setCell_other _ _ _ _ (by simp;omega),heap_setCell_other _ _ _ _ (by simpa using hne)]
  exact Below.heap_alloc w _ k hk
theorem zpB(s:ByteArray)(i b n k ba bs:Nat)(w:World)(hs:s.size<=maxLen)(hi:i<=s.size)(hab:bs<ba)
  (ha:w.heap[ba]?=some (.cells #[.int .i64 i] 3 (0,0)))(hb:w.heap[bs]?=some (.cells #[.string s] 9 (0,0)))
  (hB:btw false (s.data.toList.drop i)=b)(hN:first (s.data.toList.drop (i+b))=(k,n))(hbs:i+b<=s.size)(hns:i+b+n<=s.size):Calls Tryz.prog 117 #[.pointer (some ⟨ba,0,none⟩),.pointer (some ⟨bs,0,none⟩)] w λe w'=>e=.returned (.agg #[.int .i64 k,.string (s.extract (i+b) (i+b+n)),.int .i64 ((i:Int)+b)])/\w.grownBy w' (some ba)/\w'.heap[ba]?=some (.cells #[.int .i64 ((i:Int)+b+n)] 3 (0,0)):=by
 have ca:=cell_of_one ha;have cb:=cell_of_one hb;have hla:=lt_of_block ha;have hlb:=lt_of_block hb;have fa:=free_of_one ha;have hA:=hidE ha;have hBx:=hidE hb;clear ha hb;have hz:=zfL s i;have PB:∀w:World,Calls Tryz.prog 118 #[.string (s.extract i s.size)] w λe w'=>e=.returned (.int .i64 b)/\w'=w:=by
  intro w;have:=zla (s.extract i s.size) w (by omega);rw[zdo,hB]at this
  exact this.mono λe w' h=>⟨h.1,h.2.symm⟩
 clear hz;have hz:=zfL s (i+b);have PF:∀w:World,Calls Tryz.prog 119 #[.string (s.extract (i+b) s.size)] w λe w'=>e=.returned (.tuple #[.int .i64 k,.int .i64 n])/\w=w':=by
  intro w;have:=znI (s.extract (i+b) s.size) w (by omega);rw[zdo,hN]at this
  exact this
 clear hz hB hN;unfold maxLen at hs;go_enter Tryz.func117,Tryz.ntmps117
 go_wp2_with fail
 have sum1:IntKind.i64.wrap ((i:Int)+(b:Int))=(i:Int)+b:=by exact IntWalk.i64_in _ (by omega)
 go_quiet ((go_at_call 118;exact Calls.quiet_of_same (PB _)))
 clear sum1;go_wp2_with (go_at_call 119;refine(PF _).mono ?_;rintro e w' ⟨rfl,rfl⟩)
 have HW:=zml w ba nq 3 141 _ (.int .i64 ((i:Int)+b+n)) (.int .i64 k) (.string (s.extract (i+b) (i+b+n))) (.int .i64 ((i:Int)+b)) (.int .i64 0) (.string ⟨#[]⟩) (.int .i64 0) hA.out;exact bodyPost_ret (results_cell_row rfl _ _ w.heap.size 141 _ (0,0) _ rfl HW.1 Tryz.underlying141 rfl (by kernel_rfl)) rfl ⟨rfl,HW.2.2,HW.2.1⟩
def tokV(t:Tok):List Value:=[.int .i64 t.kind,.string ⟨t.text.toArray⟩,.int .i64 t.at_]
def zbx(ts:List Tok):List Value:=ts.flatMap tokV
theorem zhg(ts:List Tok)(t:Tok):zbx (ts++[t])=zbx ts++tokV t:=by
 simp[zbx]
def zbL(l:List UInt8):List Tok × Nat × Nat :=
 if 4000<l.length then([],0,2) else match lex l with
 |.ok ts=>(ts,0,0)
 |.error a=>([],a,10)
def Step(s:ByteArray)(i p q k:Nat):Prop:=i<=p/\p<=q/\q<=s.size/\p=i+btw false (s.data.toList.drop i)/\first (s.data.toList.drop p)=(k,q-p)
theorem zh6(s:ByteArray)(i:Nat)(hi:i<=s.size):∃p q k,Step s i p q k:=by
 have h1:=znJ false (s.data.toList.drop i);have h2:=zjK (s.data.toList.drop (i+btw false (s.data.toList.drop i)));have hz:=Lib.size_eq s;rw[List.length_drop]at h1 h2
 refine⟨_,i+btw false (s.data.toList.drop i)+(first (s.data.toList.drop (i+btw false (s.data.toList.drop i)))).2,(first (s.data.toList.drop (i+btw false (s.data.toList.drop i)))).1,by omega,by omega,by omega,rfl,?_⟩;rw[Nat.add_sub_cancel_left]
def Known(s:ByteArray)(i:Nat)(ts:List Tok):Prop:=lex s.data.toList=(sc i (s.data.toList.drop i)).map (ts++·)/\ts.length<=i
theorem zgz(s:ByteArray):Known s 0 []:=by
 refine⟨?_,Nat.le_refl _⟩;rw[zhf,List.drop_zero]
 cases sc 0 s.data.toList <;> rfl
theorem zhh(s:ByteArray)(i p q k:Nat)(ts:List Tok)(hk:Known s i ts)(hst:Step s i p q k)(h:¬p<s.size):lex s.data.toList=.ok ts:=by
 obtain⟨_,_,_,h4,_⟩:=hst;have hz:=Lib.size_eq s;rw[hk.1,zbN,if_pos]
 ·show Except.ok (ts++[])=_
  rw[List.append_nil]
 ·rw[List.drop_drop,<-h4,List.drop_eq_nil_of_le (by omega)]
theorem zlH(s:ByteArray)(p:Nat)(h:p<s.size):s.data.toList.drop p≠[]:=by
 rw[drop_at s p h];simp
theorem zir(s:ByteArray)(i p q:Nat)(ts:List Tok)(hk:Known s i ts)(hst:Step s i p q 0)(h:p<s.size):lex s.data.toList=.error p:=by
 obtain⟨_,_,_,h4,h5⟩:=hst;rw[hk.1,zbN,List.drop_drop,<-h4,if_neg (zlH s p h),h5,if_pos rfl]
 rfl
theorem zhi(s:ByteArray)(i p q k:Nat)(ts:List Tok)(hk:Known s i ts)(hst:Step s i p q k)(h:p<s.size)(h0:k≠0):i<q/\Known s q (ts++[⟨k,(s.data.toList.drop p).take (q-p),p⟩]):=by
 obtain⟨h1,h2,h3,h4,h5⟩:=hst;have hp:=zce (s.data.toList.drop p) (by rw[h5];exact h0);rw[h5]at hp
 have hq:i<q:=by omega
 refine⟨hq,?_,by have:=hk.2;simp;omega⟩;rw[hk.1,zbN i,List.drop_drop,<-h4,if_neg (zlH s p h),h5,if_neg h0,List.drop_drop,show p+(q-p)=q by omega]
 cases sc q (s.data.toList.drop q) with
 |error a=>rfl
 |ok us=>show Except.ok _=Except.ok _;simp
theorem zfP(s:ByteArray)(p q k:Nat):tokV ⟨k,(s.data.toList.drop p).take (q-p),p⟩=[.int .i64 k,.string (s.extract p q),.int .i64 p]:=by
 unfold tokV;rw[Lib.extract_eq]
theorem zis(s:ByteArray)(i p q k ba bs:Nat)(w:World)(hs:s.size<=maxLen)(hst:Step s i p q k)(hab:bs<ba)
  (ha:w.heap[ba]?=some (.cells #[.int .i64 i] 3 (0,0)))(hb:w.heap[bs]?=some (.cells #[.string s] 9 (0,0))):Calls Tryz.prog 117 #[.pointer (some ⟨ba,0,none⟩),.pointer (some ⟨bs,0,none⟩)] w λe w'=>e=.returned (.agg #[.int .i64 k,.string (s.extract p q),.int .i64 p])/\w.grownBy w' (some ba)/\w'.heap[ba]?=some (.cells #[.int .i64 q] 3 (0,0)):=by
 obtain⟨h1,h2,h3,h4,h5⟩:=hst;obtain⟨b,rfl⟩:∃b,p=i+b:=⟨p-i,by omega⟩;obtain⟨n,rfl⟩:∃n,q=i+b+n:=⟨q-(i+b),by omega⟩;rw[Nat.add_sub_cancel_left]at h5
 refine(zpB s i b n k ba bs w hs (by omega) hab ha hb (by omega) h5 (by omega) h3).mono ?_;rintro e w' ⟨rfl,hg,hh⟩;refine⟨by simp,hg,?_⟩;rw[hh]
 simp
def Blk(w:World)(g:Nat)(t:TypeId)(cs:Array Value):Prop:=w.heap[g]?=some (.cells cs t (0,0))
section
variable {w w':World} {g:Nat} {t:TypeId} {cs:Array Value}
theorem Blk.lt(h:Blk w g t cs):g<w.heap.size:=lt_of_block h
theorem Blk.cell(h:Blk w g t cs)(i:Nat):w.cell? ⟨g,i,none⟩=cs[i]?:=cell_of_row w g i cs t (0,0) h
theorem Blk.frozen(h:Blk w g t cs)(i:Nat):w.frozen? ⟨g,i,none⟩=false:=frozen_of_row w g i cs t h
theorem Blk.alloc(h:Blk w g t cs)(o:Obj):Blk (w.alloc o) g t cs:=(Below.heap_alloc w o g h.lt).trans h
theorem Blk.drew(h:Blk w g t cs):Blk w.drew g t cs:=h
theorem Blk.drewN(h:Blk w g t cs)(n:Nat):Blk (w.drewN n) g t cs:=h
theorem Blk.far(h:Blk w g t cs) {p:Addr}(hp:g≠p.block)(u:Value):Blk (w.setCell p u) g t cs:=(Below.heap_setCell w p u g hp).trans h
theorem Blk.grown {row:Option Nat}(h:Blk w g t cs)(hb:w.grownBy w' row)(hg:some g≠row):Blk w' g t cs:=(hb.block g h.lt hg).trans h
theorem Blk.below {B:Nat}(h:Blk w g t cs)(hb:Below B w w')(hg:g<B):Blk w' g t cs:=(hb.block g hg).trans h
theorem Blk.ne_ {g':Nat} {t':TypeId} {cs':Array Value}(h:Blk w g t cs)(h':Blk w g' t' cs')(hne:t≠t'):g≠g':=by
 rintro rfl;unfold Blk at h h';rw[h]at h'
 injection h' with h';injection h' with _ ht;exact hne ht
theorem ze7 {base:Nat} {e:TypeId} {size n:Nat} {v:Value} {xs:List Value}(h:w.ownsRow base e size v n xs)(hg:Blk w g t cs)(hne:e≠t):some g≠v.ownBlock:=by
 rcases h.2 with⟨rfl,_⟩|⟨g',cap,cur,rfl,_,hh,_⟩
 ·simp[Value.ownBlock]
 ·intro he
  have:g=g':=by simpa[Value.ownBlock] using he
  subst this;exact Blk.ne_ (t:=e) hh hg hne rfl
end
end Go.Proofs.YtaomnlcplmkokaaGreatDoor
namespace Go.Proofs.YtaomnlcplmkokaaGreatDoor
namespace Lx
theorem ze6(p:UInt8->Bool)(l:List UInt8)(h:∀c∈l,p c=true):span p l=l.length:=by
 induction l with
 |nil=>rfl
 |cons c r ih =>
  rw[span,if_pos (h c List.mem_cons_self),ih (λd hd=>h d (List.mem_cons_of_mem _ hd))]
  rfl
theorem znM(c:UInt8)(h:isLet c=true):(65<=c.toNat/\c.toNat<=90)\/(97<=c.toNat/\c.toNat<=122):=by
 simp[isLet,isUp]at h
 omega
theorem znN(c:UInt8)(h:isDig c=true):48<=c.toNat/\c.toNat<=57:=by
 simp[isDig]at h
 omega
end Lx
namespace Tx
open Lx
inductive Ty where
 |var (x:List UInt8)
 |mt (n:Nat)
 |con (c:List UInt8) (args:List Ty)
 |fn (a b:Ty)
 |all (x:List UInt8) (t:Ty)
def isKey(t:Tok)(s:List UInt8):Bool:=t.kind==3&&t.text==s
def isSign(t:Tok)(s:List UInt8):Bool:=t.kind==6&&t.text==s
def wForall:List UInt8:=[102,111,114,97,108,108]
def atomic(t:Tok):Bool:=t.kind==1||t.kind==5||t.kind==2||t.text==[40]
def vars:List Tok->List (List UInt8) × List Tok
 |[]=>([],[])
 |t::r=>if t.kind=1 then(t.text::(vars r).1,(vars r).2) else([],t::r)
def numOf(l:List UInt8):Nat:=l.foldl (λn c=>10*n+(c.toNat-48)) 0
def alls(xs:List (List UInt8))(t:Ty):Ty:=xs.foldr Ty.all t
def eat(p:Tok->Bool):List Tok->Option (List Tok)
 |[]=>none
 |t::r=>if p t then some r else none
mutual
def read:Nat->List Tok->Option (Ty × List Tok)
 |0,_=>none
 |f+1,l =>
  match eat (isKey · wForall) l with
  |some r =>
   if(vars r).1=[] then none
   else match eat (isSign · [46]) (vars r).2 with
    |none=>none
    |some r2=>(read f r2).map λx=>(alls (vars r).1 x.1,x.2)
  |none =>
   match app f l with
   |none=>none
   |some (a,r) =>
    match eat (isSign · [45,62]) r with
    |none=>some (a,r)
    |some r2=>(read f r2).map λx=>(.fn a x.1,x.2)
def app:Nat->List Tok->Option (Ty × List Tok)
 |0,_=>none
 |f+1,l =>
  match l with
  |[]=>none
  |t::r=>if t.kind=2 then(args f r).map λx=>(.con t.text x.1,x.2) else atom f (t::r)
def args:Nat->List Tok->Option (List Ty × List Tok)
 |0,_=>none
 |f+1,l =>
  match l with
  |[]=>some ([],[])
  |t::r =>
   if atomic t then
    match atom f (t::r) with
    |none=>none
    |some (x,r2)=>(args f r2).map λy=>(x::y.1,y.2)
   else some ([],t::r)
def atom:Nat->List Tok->Option (Ty × List Tok)
 |0,_=>none
 |f+1,l =>
  match l with
  |[]=>none
  |t::r =>
   if t.kind=1 then some (.var t.text,r)
   else if t.kind=2 then some (.con t.text [],r)
   else if t.kind=5 then some (.mt (numOf (t.text.drop 1)),r)
   else if t.text=[40] then
    match read f r with
    |none=>none
    |some (x,r2)=>(eat (isSign · [41]) r2).map λr3=>(x,r3)
   else none
end
def enough(l:List Tok):Nat:=4*l.length+4
mutual
def Ty.depth:Ty->Nat
 |.var _=>1
 |.mt _=>1
 |.con _ l=>zbn l+1
 |.fn a b=>max a.depth b.depth+1
 |.all _ t=>t.depth+1
def zbn:List Ty->Nat
 |[]=>0
 |t::r=>max t.depth (zbn r)
end
def parse(s:List UInt8):Except Nat Ty :=
 match zbL s with
 |(ts,_,0) =>
  match read (enough ts) ts with
  |some (t,[])=>if 50<t.depth then .error 3 else .ok t
  |_=>.error 20
 |(_,_,e)=>.error e
def digit(n:Nat):UInt8:=(48+n % 10).toUInt8
def decF:Nat->Nat->List UInt8
 |0,_=>[]
 |f+1,n=>if n<10 then[digit n] else decF f (n / 10)++[digit n]
def dec(n:Nat):List UInt8:=decF 20 n
def Ty.isFA:Ty->Bool
 |.fn _ _=>true
 |.all _ _=>true
 |_=>false
def Ty.big:Ty->Bool
 |.fn _ _=>true
 |.all _ _=>true
 |.con _ (_::_)=>true
 |_=>false
mutual
def Ty.print:Ty->List UInt8
 |.var x=>x
 |.mt n=>63::dec n
 |.con c l=>c++zaB l
 |.fn a b=>(if a.isFA then 40::(a.print++[41]) else a.print)++[32,45,62,32]++b.print
 |.all x t=>wForall++32::x++zaI t
def zaB:List Ty->List UInt8
 |[]=>[]
 |t::r=>(if t.big then 32::40::(t.print++[41]) else 32::t.print)++zaB r
def zaI:Ty->List UInt8
 |.all y t=>32::y++zaI t
 |.var x=>[46,32]++x
 |.mt n=>[46,32]++(63::dec n)
 |.con c l=>[46,32]++(c++zaB l)
 |.fn a b=>[46,32]++((if a.isFA then 40::(a.print++[41]) else a.print)++[32,45,62,32]++b.print)
end
theorem zcZ(y:List UInt8)(t:Ty):zaI (.all y t)=32::y++zaI t:=by rw[zaI]
theorem zbX(t:Ty)(h:∀y u,t≠.all y u):zaI t=[46,32]++t.print:=by
 cases t with
 |all y u=>exact absurd rfl (h y u)
 |var x=>rw[zaI,Ty.print]
 |mt n=>rw[zaI,Ty.print]
 |con c l=>rw[zaI,Ty.print]
 |fn a b=>rw[zaI,Ty.print]
def addN {α:Type} [DecidableEq α](x:α)(l:List α):List α:=if x∈l then l else l++[x]
mutual
def Ty.freeO(bound:List (List UInt8)):Ty->List (List UInt8)->List (List UInt8)
 |.var x,out=>if x∈bound then out else addN x out
 |.mt _,out=>out
 |.con _ l,out=>zaS bound l out
 |.fn a b,out=>b.freeO bound (a.freeO bound out)
 |.all x t,out=>t.freeO (bound++[x]) out
def zaS(bound:List (List UInt8)):List Ty->List (List UInt8)->List (List UInt8)
 |[],out=>out
 |t::r,out=>zaS bound r (t.freeO bound out)
end
def Ty.free(t:Ty):List (List UInt8):=t.freeO [] []
mutual
def Ty.metasO:Ty->List Nat->List Nat
 |.var _,out=>out
 |.mt n,out=>addN n out
 |.con _ l,out=>zaO l out
 |.fn a b,out=>b.metasO (a.metasO out)
 |.all _ t,out=>t.metasO out
def zaO:List Ty->List Nat->List Nat
 |[],out=>out
 |t::r,out=>zaO r (t.metasO out)
end
def Ty.metas(t:Ty):List Nat:=t.metasO []
mutual
def Ty.poly:Ty->Bool
 |.var _=>false
 |.mt _=>false
 |.con _ l=>za6 l
 |.fn a b=>a.poly||b.poly
 |.all _ _=>true
def za6:List Ty->Bool
 |[]=>false
 |t::r=>t.poly||za6 r
end
end Tx
namespace Tx
open Lx
def strip(t:Tok):Tok:=⟨t.kind,t.text,0⟩
theorem zeB(p:Tok->Bool)(hp:∀t,p (strip t)=p t)(l:List Tok):eat p (l.map strip)=(eat p l).map (List.map strip):=by
 cases l with
 |nil=>rfl
 |cons t r =>
  simp only[List.map_cons,eat,hp];split <;> rfl
theorem znz(l:List Tok):vars (l.map strip)=((vars l).1,(vars l).2.map strip):=by
 induction l with
 |nil=>rfl
 |cons t r ih =>
  simp only[List.map_cons,vars,ih];by_cases h:t.kind=1
  ·rw[if_pos (show(strip t).kind=1 from h),if_pos h];rfl
  ·rw[if_neg (show ¬(strip t).kind=1 from h),if_neg h];rfl
def onRest {α:Type}(x:Option (α × List Tok)):Option (α × List Tok):=x.map λy=>(y.1,y.2.map strip)
theorem zpe(f:Nat):(∀l,read f (l.map strip)=onRest (read f l))/\(∀l,app f (l.map strip)=onRest (app f l))/\(∀l,args f (l.map strip)=onRest (args f l))/\(∀l,atom f (l.map strip)=onRest (atom f l)):=by
 induction f with
 |zero=>exact⟨λ_=>rfl,λ_=>rfl,λ_=>rfl,λ_=>rfl⟩
 |succ f ih =>
  obtain⟨i1,i2,i3,i4⟩:=ih;refine⟨λl=>?_,λl=>?_,λl=>?_,λl=>?_⟩
  ·rw[read,read,zeB _ (λ_=>rfl)]
   cases eat (isKey · wForall) l with
   |some r =>
    simp only[Option.map_some,znz];split
    ·rfl
    ·rw[zeB _ (λ_=>rfl)]
     cases eat (isSign · [46]) (vars r).2 with
     |none=>rfl
     |some r2 =>
      simp only[Option.map_some,i1];cases read f r2 <;> rfl
   |none =>
    simp only[Option.map_none,i2];cases app f l with
    |none=>rfl
    |some x =>
     obtain⟨a,r⟩:=x;simp only[onRest,Option.map_some];rw[zeB _ (λ_=>rfl)]
     cases eat (isSign · [45,62]) r with
     |none=>rfl
     |some r2 =>
      simp only[Option.map_some,i1];cases read f r2 <;> rfl
  ·cases l with
   |nil=>rfl
   |cons t r =>
    simp only[List.map_cons,app];by_cases h:t.kind=2
    ·rw[if_pos (show(strip t).kind=2 from h),if_pos h,i3]
     cases args f r <;> rfl
    ·rw[if_neg (show ¬(strip t).kind=2 from h),if_neg h]
     exact i4 (t::r)
  ·cases l with
   |nil=>rfl
   |cons t r =>
    simp only[List.map_cons,args];by_cases h:atomic t=true
    ·rw[if_pos (show atomic (strip t)=true from h),if_pos h]
     have:=i4 (t::r);simp only[List.map_cons]at this;rw[this]
     cases atom f (t::r) with
     |none=>rfl
     |some x =>
      obtain⟨a,r2⟩:=x;simp only[onRest,Option.map_some,i3];cases args f r2 <;> rfl
    ·rw[if_neg (show ¬atomic (strip t)=true from h),if_neg h];rfl
  ·cases l with
   |nil=>rfl
   |cons t r =>
    simp only[List.map_cons,atom];by_cases h1:t.kind=1
    ·rw[if_pos (show(strip t).kind=1 from h1),if_pos h1];rfl
    ·rw[if_neg (show ¬(strip t).kind=1 from h1),if_neg h1]
     by_cases h2:t.kind=2
     ·rw[if_pos (show(strip t).kind=2 from h2),if_pos h2];rfl
     ·rw[if_neg (show ¬(strip t).kind=2 from h2),if_neg h2]
      by_cases h5:t.kind=5
      ·rw[if_pos (show(strip t).kind=5 from h5),if_pos h5];rfl
      ·rw[if_neg (show ¬(strip t).kind=5 from h5),if_neg h5]
       by_cases hp:t.text=[40]
       ·rw[if_pos (show(strip t).text=[40] from hp),if_pos hp,i1]
        cases read f r with
        |none=>rfl
        |some x =>
         obtain⟨a,r2⟩:=x;simp only[onRest,Option.map_some];rw[zeB _ (λ_=>rfl)]
         cases eat (isSign · [41]) r2 <;> rfl
       ·rw[if_neg (show ¬(strip t).text=[40] from hp),if_neg hp];rfl
def K(k:Nat)(s:List UInt8):Tok:=⟨k,s,0⟩
def tL:Tok:=K 6 [40]
def tR:Tok:=K 6 [41]
def tArrow:Tok:=K 6 [45,62]
def tDot:Tok:=K 6 [46]
def tAll:Tok:=K 3 wForall
mutual
def Ty.toks:Ty->List Tok
 |.var x=>[K 1 x]
 |.mt n=>[K 5 (63::dec n)]
 |.con c l=>K 2 c::zbr l
 |.fn a b=>(if a.isFA then tL::(a.toks++[tR]) else a.toks)++tArrow::b.toks
 |.all x t=>tAll::K 1 x::zbR t
def zbr:List Ty->List Tok
 |[]=>[]
 |t::r=>(if t.big then tL::(t.toks++[tR]) else t.toks)++zbr r
def zbR:Ty->List Tok
 |.all y t=>K 1 y::zbR t
 |.var x=>[tDot,K 1 x]
 |.mt n=>[tDot,K 5 (63::dec n)]
 |.con c l=>tDot::K 2 c::zbr l
 |.fn a b=>tDot::((if a.isFA then tL::(a.toks++[tR]) else a.toks)++tArrow::b.toks)
end
theorem zlE(t:Ty)(h:∀y u,t≠.all y u):zbR t=tDot::t.toks:=by
 cases t with
 |all y u=>exact absurd rfl (h y u)
 |var x=>rw[zbR,Ty.toks]
 |mt n=>rw[zbR,Ty.toks]
 |con c l=>rw[zbR,Ty.toks]
 |fn a b=>rw[zbR,Ty.toks]
inductive Wf:Ty->Prop
 |var (x):Wf (.var x)
 |mt (n):n<=999999->Wf (.mt n)
 |con (c l):(∀t∈l,Wf t)->Wf (.con c l)
 |fn (a b):Wf a->Wf b->Wf (.fn a b)
 |all (x t):Wf t->Wf (.all x t)
def Ty.peel:Ty->List (List UInt8) × Ty
 |.all x t=>(x::t.peel.1,t.peel.2)
 |t=>([],t)
theorem zpf(t:Ty):alls t.peel.1 t.peel.2=t:=by
 induction t using Ty.peel.induct with
 |case1 x t ih=>rw[Ty.peel];show Ty.all x (alls _ _)=_;rw[ih]
 |case2 t h=>rw[Ty.peel];rfl;exact h
theorem znA(t:Ty):zbR t=t.peel.1.map (K 1 ·)++tDot::t.peel.2.toks:=by
 induction t using Ty.peel.induct with
 |case1 x t ih=>rw[Ty.peel,zbR,ih];rfl
 |case2 t h=>rw[Ty.peel,zlE t h];rfl;exact h
theorem zr8(t:Ty)(h:Wf t):Wf t.peel.2:=by
 induction t using Ty.peel.induct with
 |case1 x t ih=>rw[Ty.peel];cases h with|all _ _ h=>exact ih h
 |case2 t h2=>rw[Ty.peel];exact h;exact h2
theorem zqY(xs:List (List UInt8))(t:Tok)(r:List Tok)(h:t.kind≠1):vars (xs.map (K 1 ·)++t::r)=(xs,t::r):=by
 induction xs with
 |nil=>rw[List.map_nil,List.nil_append,vars,if_neg h]
 |cons x xs ih=>rw[List.map_cons,List.cons_append,vars,if_pos (show(K 1 x).kind=1 from rfl),ih];rfl
theorem zcO(n:Nat):(digit n).toNat=48+n % 10:=by
 unfold digit;rw[Nat.toUInt8_eq,UInt8.toNat_ofNat']
 omega
theorem zhY(l:List UInt8)(c:UInt8):numOf (l++[c])=10*numOf l+(c.toNat-48):=by
 simp[numOf]
theorem zfw(f n:Nat)(h:n<10 ^ f):numOf (decF f n)=n:=by
 induction f generalizing n with
 |zero=>simp at h;subst h;rfl
 |succ f ih =>
  rw[decF]
  split
  ·show 10*0+((digit n).toNat-48)=n
   rw[zcO];omega
  ·rw[zhY,ih (n / 10) (by rw[Nat.pow_succ]at h;omega),zcO]
   omega
theorem zpg(n:Nat)(h:n<=999999):numOf (dec n)=n:=zfw 20 n (by omega)
def stops(r:List Tok):Prop:=∀t,r.head? = some t->atomic t=false
def zsz(r:List Tok):Prop:=stops r/\eat (isSign · [45,62]) r=none
theorem zdi(t:Tok)(r:List Tok)(h:t.kind≠3):eat (isKey · wForall) (t::r)=none:=by
 rw[eat,if_neg]
 simp[isKey,h]
theorem back(n:Nat):(∀t,Wf t->t.toks.length<=n->∀r,zsz r->∀f,4*(t.toks.length+r.length)+4<=f->read f (t.toks++r)=some (t,r)) /\
  (∀l,(∀t∈l,Wf t)->(zbr l).length<=n->∀r,stops r->∀f,4*((zbr l).length+r.length)+2<=f->args f (zbr l++r)=some (l,r)):=by
 induction n using Nat.strongRecOn with
 |ind n ih =>
  have hatom:∀t,Wf t->(if t.big then tL::(t.toks++[tR]) else t.toks).length<=n->∀r,∀f,4*((if t.big then tL::(t.toks++[tR]) else t.toks).length+r.length)+1<=f ->
    atom f ((if t.big then tL::(t.toks++[tR]) else t.toks)++r)=some (t,r):=by
   intro t hw hl r f hf;obtain⟨f,rfl⟩:∃g,f=g+1:=⟨f-1,by omega⟩;by_cases hb:t.big=true
   ·rw[if_pos hb]at hl hf ⊢
    have hlen:t.toks.length<n:=by simp at hl;omega
    have hr:=(ih _ hlen).1 t hw (Nat.le_refl _) (tR::r) ⟨λx hx=>by simp at hx;subst hx;decide,by rw[eat,if_neg (by decide)]⟩ f (by simp at hf ⊢;omega);rw[show(tL::(t.toks++[tR]))++r=tL::(t.toks++tR::r) by simp]
    rw[atom,if_neg (by decide),if_neg (by decide),if_neg (by decide),if_pos (by decide),hr]
    simp only[eat];rw[if_pos (by decide)]
    rfl
   ·rw[if_neg hb]at hl hf ⊢
    cases hw with
    |var x=>rw[Ty.toks];show atom (f+1) (K 1 x::r)=_;rw[atom,if_pos (show(K 1 x).kind=1 from rfl)];rfl
    |mt m hm =>
     rw[Ty.toks]
     show atom (f+1) (K 5 (63::dec m)::r)=_;rw[atom,if_neg (by show ¬(5=1);omega),if_neg (by show ¬(5=2);omega),if_pos (show(K 5 (63::dec m)).kind=5 from rfl)]
     show some (Ty.mt (numOf (dec m)),r)=_;rw[zpg m hm]
    |con c l h =>
     cases l with
     |nil=>rw[Ty.toks,zbr];show atom (f+1) (K 2 c::r)=_;rw[atom,if_neg (by show ¬(2=1);omega),if_pos (show(K 2 c).kind=2 from rfl)];rfl
     |cons a l=>exact absurd rfl hb
    |fn a b _ _=>exact absurd rfl hb
    |all x t _=>exact absurd rfl hb
  have hargs:∀l,(∀t∈l,Wf t)->(zbr l).length<=n->∀r,stops r->∀f,4*((zbr l).length+r.length)+2<=f->args f (zbr l++r)=some (l,r):=by
   intro l;induction l with
   |nil =>
    intro _ _ r hr f hf;obtain⟨f,rfl⟩:∃g,f=g+1:=⟨f-1,by omega⟩;rw[zbr,List.nil_append]
    cases r with
    |nil=>rw[args]
    |cons t r=>rw[args,if_neg (by rw[hr t rfl];decide)]
   |cons t l ihl =>
    intro hw hl r hr f hf;obtain⟨f,rfl⟩:∃g,f=g+1:=⟨f-1,by omega⟩;rw[zbr]at hl hf ⊢
    rw[List.length_append]at hl hf
    have ha:=hatom t (hw t List.mem_cons_self) (by omega) (zbr l++r) f (by rw[List.length_append];omega);obtain⟨x,xs,hx,hxa⟩:∃x xs,(if t.big then tL::(t.toks++[tR]) else t.toks)=x::xs/\atomic x=true:=by
     by_cases hb:t.big=true
     ·rw[if_pos hb];exact⟨_,_,rfl,by decide⟩
     ·rw[if_neg hb]
      cases t with
      |var x=>exact⟨_,_,by rw[Ty.toks],rfl⟩
      |mt m=>exact⟨_,_,by rw[Ty.toks],rfl⟩
      |con c l=>exact⟨_,_,by rw[Ty.toks],rfl⟩
      |fn a b=>exact absurd rfl hb
      |all y u=>exact absurd rfl hb
    rw[List.append_assoc]
    have hx2:(if t.big then tL::(t.toks++[tR]) else t.toks)++(zbr l++r)=x::(xs++(zbr l++r)):=by rw[hx];rfl
    have hpos:1<=(if t.big then tL::(t.toks++[tR]) else t.toks).length:=by rw[hx];simp
    rw[hx2,args,if_pos hxa,<-hx2,ha]
    simp only;rw[ihl (λu hu=>hw u (List.mem_cons_of_mem _ hu)) (by omega) r hr f (by omega)]
    rfl
  refine⟨?_,hargs⟩;have happ:∀t,Wf t->t.isFA=false->t.toks.length<=n->∀r,stops r->∀f,4*(t.toks.length+r.length)+3<=f->app f (t.toks++r)=some (t,r):=by
   intro t hw hfa hl r hr f hf;obtain⟨f,rfl⟩:∃g,f=g+1:=⟨f-1,by omega⟩;cases t with
   |var x =>
    rw[Ty.toks]at hf ⊢
    show app (f+1) (K 1 x::r)=_;rw[app,if_neg (by show ¬(1=2);omega)]
    obtain⟨f,rfl⟩:∃g,f=g+1:=⟨f-1,by omega⟩;rw[atom,if_pos (show(K 1 x).kind=1 from rfl)];rfl
   |mt m =>
    have hat:=hatom (.mt m) hw (by rw[if_neg (by simp[Ty.big])];exact hl) r f (by rw[if_neg (by simp[Ty.big])];omega);rw[if_neg (by simp[Ty.big])]at hat
    rw[Ty.toks]at hat ⊢
    show app (f+1) (K 5 (63::dec m)::r)=_;rw[app,if_neg (by show ¬(5=2);omega)]
    exact hat
   |con c l =>
    rw[Ty.toks]at hl hf ⊢
    rw[List.length_cons]at hl hf
    show app (f+1) (K 2 c::(zbr l++r))=_;cases hw with
    |con _ _ h =>
     rw[app,if_pos (show(K 2 c).kind=2 from rfl),hargs l h (by omega) r hr f (by omega)]
     rfl
   |fn a b=>simp[Ty.isFA]at hfa
   |all x u=>simp[Ty.isFA]at hfa
  intro t hw hl r hr f hf;obtain⟨f,rfl⟩:∃g,f=g+1:=⟨f-1,by omega⟩;by_cases hfa:t.isFA=true
  ·cases t with
   |var x=>simp[Ty.isFA]at hfa
   |mt m=>simp[Ty.isFA]at hfa
   |con c l=>simp[Ty.isFA]at hfa
   |fn a b =>
    cases hw with
    |fn _ _ ha hb =>
     rw[Ty.toks]at hl hf ⊢
     rw[List.length_append,List.length_cons]at hl hf
     have hb1:read f (b.toks++r)=some (b,r):=(ih b.toks.length (by omega)).1 b hb (Nat.le_refl _) r hr f (by omega);have harrow:eat (isSign · [45,62]) (tArrow::(b.toks++r))=some (b.toks++r):=by rw[eat,if_pos (by decide)]
     have hst:stops (tArrow::(b.toks++r)):=λx hx=>by simp at hx;subst hx;decide
     by_cases hafa:a.isFA=true
     ·rw[if_pos hafa]at hl hf ⊢
      have hal:a.toks.length<n:=by simp at hl;omega
      obtain⟨f,rfl⟩:∃g,f=g+1:=⟨f-1,by omega⟩;obtain⟨f,rfl⟩:∃g,f=g+1:=⟨f-1,by omega⟩;have hra:=(ih _ hal).1 a ha (Nat.le_refl _) (tR::tArrow::(b.toks++r)) ⟨λx hx=>by simp at hx;subst hx;decide,by rw[eat,if_neg (by decide)]⟩ f (by simp at hf ⊢;omega);rw[show((tL::(a.toks++[tR]))++tArrow::b.toks)++r=tL::(a.toks++tR::tArrow::(b.toks++r)) by simp]
      have happL:app (f+1+1) (tL::(a.toks++tR::tArrow::(b.toks++r)))=some (a,tArrow::(b.toks++r)):=by
       rw[app,if_neg (by decide),atom,if_neg (by decide),if_neg (by decide),if_neg (by decide),if_pos (by decide),hra]
       simp only[eat];rw[if_pos (by decide)]
       rfl
      rw[read,zdi _ _ (by decide)]
      simp only[happL,harrow,hb1];rfl
     ·have hafa:a.isFA=false:=by simpa using hafa
      rw[hafa]at hl hf ⊢
      simp only[Bool.false_eq_true,if_false]at hl hf ⊢;have happA:=happ a ha hafa (by omega) (tArrow::(b.toks++r)) hst f (by simp;omega);rw[show(a.toks++tArrow::b.toks)++r=a.toks++tArrow::(b.toks++r) by simp]
      have hkey:eat (isKey · wForall) (a.toks++tArrow::(b.toks++r))=none:=by
       cases a with
       |var x=>rw[Ty.toks];exact zdi _ _ (by show ¬(1=3);omega)
       |mt m=>rw[Ty.toks];exact zdi _ _ (by show ¬(5=3);omega)
       |con c l=>rw[Ty.toks];exact zdi _ _ (by show ¬(2=3);omega)
       |fn a b=>simp[Ty.isFA]at hafa
       |all x u=>simp[Ty.isFA]at hafa
      rw[read,hkey]
      simp only[happA,harrow,hb1];rfl
   |all x u =>
    cases hw with
    |all _ _ hu =>
     rw[Ty.toks,znA]at hl hf ⊢
     have hbl:u.peel.2.toks.length<n:=by simp at hl;omega
     have hrb:=(ih _ hbl).1 u.peel.2 (zr8 u hu) (Nat.le_refl _) r hr f (by simp at hf;omega);rw[show(tAll::K 1 x::(u.peel.1.map (K 1 ·)++tDot::u.peel.2.toks))++r=tAll::((x::u.peel.1).map (K 1 ·)++tDot::(u.peel.2.toks++r)) by simp]
     have hkey:eat (isKey · wForall) (tAll::((x::u.peel.1).map (K 1 ·)++tDot::(u.peel.2.toks++r)))=some ((x::u.peel.1).map (K 1 ·)++tDot::(u.peel.2.toks++r)):=by
      rw[eat,if_pos (by decide)]
     have hdot:eat (isSign · [46]) (tDot::(u.peel.2.toks++r))=some (u.peel.2.toks++r):=by rw[eat,if_pos (by decide)]
     rw[read,hkey]
     simp only[zqY _ _ _ (show tDot.kind≠1 by decide),hdot,hrb];rw[if_neg (by simp)]
     show some (Ty.all x (alls u.peel.1 u.peel.2),r)=_;rw[zpf]
  ·have hfa:t.isFA=false:=by simpa using hfa
   have hkey:eat (isKey · wForall) (t.toks++r)=none:=by
    cases t with
    |var x=>rw[Ty.toks];exact zdi _ _ (by show ¬(1=3);omega)
    |mt m=>rw[Ty.toks];exact zdi _ _ (by show ¬(5=3);omega)
    |con c l=>rw[Ty.toks];exact zdi _ _ (by show ¬(2=3);omega)
    |fn a b=>simp[Ty.isFA]at hfa
    |all x u=>simp[Ty.isFA]at hfa
   rw[read,hkey]
   simp only[happ t hw hfa hl r hr.1 f (by omega),hr.2]
theorem zjn(t:Ty)(h:Wf t)(vs:List Tok)(hv:vs.map strip=t.toks):read (enough vs) vs=some (t,[]):=by
 have h1:=(back t.toks.length).1 t h (Nat.le_refl _) [] ⟨λx hx=>by simp at hx,rfl⟩ (enough vs) (by
  have:vs.length=t.toks.length:=by rw[<-hv,List.length_map]
  unfold enough;simp;omega)
 rw[List.append_nil,<-hv,(zpe _).1]at h1
 cases hr:read (enough vs) vs with
 |none=>rw[hr]at h1;simp[onRest]at h1
 |some x =>
  obtain⟨u,r⟩:=x;rw[hr]at h1
  simp[onRest]at h1
  rw[h1.1,h1.2]
end Tx
namespace Lx
def stp(m:Bool)(c:UInt8):Bool:=if c=10 then false else if c=35 then true else m
def rm:Bool->List UInt8->Bool
 |m,[]=>m
 |m,c::r=>rm (stp m c) r
def okg:Bool->List UInt8->Prop
 |_,[]=>True
 |m,c::r=>(stp m c=true\/c=32\/c=9\/c=10)/\okg (stp m c) r
theorem zsd(m:Bool)(l:List UInt8):okg m (l.take (btw m l))/\(btw m l<l.length->rm m (l.take (btw m l))=false):=by
 induction l generalizing m with
 |nil=>simp[btw,okg]
 |cons c r ih =>
  cases m with
  |true =>
   have e:btw true (c::r)=btw (c != 10) r+1:=rfl;have hs:stp true c=(c != 10):=by
    unfold stp;by_cases h:c=10
    ·simp[h]
    ·have h2:(c != 10)=true:=by simpa using h
     rw[if_neg h,h2];split <;> rfl
   rw[e,List.take_succ_cons]
   obtain⟨h1,h2⟩:=ih (c != 10);refine⟨⟨?_,by rw[hs];exact h1⟩,λhl=>?_⟩
   ·by_cases h:c=10
    ·exact .inr (.inr (.inr h))
    ·left;rw[hs];simpa using h
   ·show rm (stp true c) _=false
    rw[hs]
    exact h2 (by simpa using hl)
  |false =>
   by_cases hb:c=32\/c=9\/c=10
   ·have e:btw false (c::r)=btw false r+1:=by rw[btw,if_pos hb]
    have hs:stp false c=false:=by
     unfold stp;rcases hb with h|h|h <;> rw[h] <;> decide
    rw[e,List.take_succ_cons]
    obtain⟨h1,h2⟩:=ih false;refine⟨⟨.inr hb,by rw[hs];exact h1⟩,λhl=>?_⟩;show rm (stp false c) _=false;rw[hs]
    exact h2 (by simpa using hl)
   ·by_cases h35:c=35
    ·have e:btw false (c::r)=btw true r+1:=by rw[btw,if_neg hb,if_pos h35]
     have hs:stp false c=true:=by rw[h35];decide
     rw[e,List.take_succ_cons]
     obtain⟨h1,h2⟩:=ih true;refine⟨⟨.inl hs,by rw[hs];exact h1⟩,λhl=>?_⟩;show rm (stp false c) _=false;rw[hs]
     exact h2 (by simpa using hl)
    ·have e:btw false (c::r)=0:=by rw[btw,if_neg hb,if_neg h35]
     rw[e]
     exact⟨trivial,λ_=>rfl⟩
def Cov(l:List UInt8):Nat->List Tok->Prop
 |f,[]=>f<=l.length/\okg false (l.drop f)
 |f,t::r=>f<=t.at_/\t.text≠[]/\t.at_+t.text.length<=l.length/\(l.drop t.at_).take t.text.length=t.text /\
   okg false ((l.drop f).take (t.at_-f))/\rm false ((l.drop f).take (t.at_-f))=false/\Cov l (t.at_+t.text.length) r
theorem zse(L:List UInt8)(n:Nat):∀(i:Nat)(ts:List Tok),L.length-i<=n->i<=L.length->sc i (L.drop i)=.ok ts->Cov L i ts:=by
 induction n with
 |zero =>
  intro i ts hn hi h;have hl:L.drop i=[]:=List.drop_eq_nil_of_le (by omega);rw[hl,sc]at h
  injection h with h;subst h;exact⟨hi,by rw[hl];trivial⟩
 |succ n ih =>
  intro i ts hn hi h;obtain⟨hk1,hk2⟩:=zsd false (L.drop i);have hbl:=znJ false (L.drop i);rw[zbN,List.drop_drop]at h
  split at h
  ·rename_i h0
   injection h with h;subst h;refine⟨hi,?_⟩;have h1:=List.drop_eq_nil_iff.1 h0;rw[List.take_of_length_le (by rw[List.length_drop];omega)]at hk1
   exact hk1
  ·rename_i h0
   split at h
   ·cases h
   ·rename_i h1
    have hp:=zce _ h1;rw[List.length_drop]at hp hbl hk2
    have hlt:i+btw false (L.drop i)<L.length:=by
     rcases Nat.lt_or_ge (i+btw false (L.drop i)) L.length with h|h
     ·exact h
     ·exact absurd (List.drop_eq_nil_of_le h) h0
    rw[List.drop_drop]at h
    cases hx:sc (i+btw false (L.drop i)+(first (L.drop (i+btw false (L.drop i)))).2) (L.drop (i+btw false (L.drop i)+(first (L.drop (i+btw false (L.drop i)))).2)) with
    |error e=>rw[hx]at h;cases h
    |ok us =>
     rw[hx]at h
     have h:Except.ok (_::us)=Except.ok ts:=h;injection h with h;subst h;have hlen:((L.drop (i+btw false (L.drop i))).take (first (L.drop (i+btw false (L.drop i)))).2).length=(first (L.drop (i+btw false (L.drop i)))).2:=by
      rw[List.length_take,List.length_drop];omega
     refine⟨by simp,?_,?_,?_,?_,?_,?_⟩
     ·intro e
      have e2:=congrArg List.length e;rw[hlen]at e2
      simp at e2;omega
     ·simp only[hlen];omega
     ·simp only[hlen]
     ·simp only[Nat.add_sub_cancel_left];exact hk1
     ·simp only[Nat.add_sub_cancel_left];exact hk2 (by omega)
     ·simp only[hlen]
      exact ih _ us (by omega) (by omega) hx
theorem zlF(l:List UInt8)(ts:List Tok)(h:lex l=.ok ts):Cov l 0 ts :=
 zse l l.length 0 ts (by omega) (by omega) (by rw[List.drop_zero,<-zhf];exact h)
end Lx
namespace Lx
theorem ziq(p:UInt8->Bool)(d:UInt8)(h:p d=false)(r t:List UInt8):span p (r++d::t)=span p r:=by
 induction r with
 |nil=>simp[span,h]
 |cons c r ih=>rw[List.cons_append,span,span,ih]
theorem zgx(d:UInt8)(h:isDig d=false)(r t:List UInt8):number (r++d::t)=number r:=by
 unfold number badNum;rw[ziq isDig d h]
 cases r with
 |nil=>rfl
 |cons c r=>rfl
def ends(d:UInt8):Prop:=inW d=false/\isDig d=false/\d≠62
theorem zmh(d:UInt8)(hd:ends d)(r t:List UInt8)(hr:r≠[]):first (r++d::t)=first r:=by
 obtain⟨d1,d2,d3⟩:=hd;cases r with
 |nil=>exact absurd rfl hr
 |cons c r =>
  rw[List.cons_append,first,first]
  have e:c::(r++d::t)=(c::r)++d::t:=rfl;rw[e]
  by_cases h1:isLet c=true
  ·rw[if_pos h1,if_pos h1]
   unfold word;rw[ziq inW d d1,List.take_append_of_le_length (zdS _ _)]
  ·rw[if_neg h1,if_neg h1,zgx d d2]
   by_cases h2:isDig c=true
   ·rw[if_pos h2,if_pos h2]
   ·rw[if_neg h2,if_neg h2]
    by_cases h3:c=63
    ·rw[if_pos h3,if_pos h3]
     unfold zbl;rw[show((c::r)++d::t).drop 1=r++d::t from rfl,zgx d d2]
     rfl
    ·rw[if_neg h3,if_neg h3]
     unfold sign;have hp:∀a:UInt8,pre [a,62] ((c::r)++d::t)=pre [a,62] (c::r):=by
      intro a;cases r with
      |nil=>simp[pre,List.isPrefixOf];intro _ e;exact d3 e.symm
      |cons x r=>simp[pre,List.isPrefixOf]
     rw[hp,hp]
     rfl
theorem zfN(p:UInt8->Bool)(l:List UInt8)(n:Nat)(h:span p l=n):span p (l.take n)=n:=by
 induction l generalizing n with
 |nil=>simp[span]at h ⊢;omega
 |cons c r ih =>
  rw[span]at h
  by_cases hp:p c=true
  ·rw[if_pos hp]at h
   obtain⟨m,rfl⟩:∃m,n=m+1:=⟨n-1,by omega⟩;rw[List.take_succ_cons,span,if_pos hp,ih m (by omega)]
  ·rw[if_neg hp]at h
   subst h;rfl
theorem zgy(l:List UInt8)(n:Nat)(h:number l=(4,n)):number (l.take n)=(4,n):=by
 have hb:badNum l=false:=by
  cases hx:badNum l with
  |false=>rfl
  |true=>unfold number at h;rw[if_pos hx]at h;simp at h
 unfold number at h;rw[hb,if_neg (by simp)]at h
 have hs:span isDig l=n:=by injection h
 have hn:n≠0:=by intro e;subst e;simp[badNum,hs]at hb
 have hh:(l.take n).headD 0=l.headD 0:=by
  cases l with
  |nil=>simp
  |cons c r=>obtain⟨m,rfl⟩:∃m,n=m+1:=⟨n-1,by omega⟩;rfl
 have hb2:badNum (l.take n)=badNum l:=by unfold badNum;rw[zfN _ _ _ hs,hs,hh]
 unfold number;rw[hb2,hb,if_neg (by simp),zfN _ _ _ hs]
theorem zmi(r:List UInt8)(k n:Nat)(h:first r=(k,n))(hk:k≠0):first (r.take n)=(k,n):=by
 have hp:=zce r (by rw[h];exact hk);rw[h]at hp
 simp only at hp;cases r with
 |nil=>simp[first]at h;omega
 |cons c r =>
  obtain⟨m,rfl⟩:∃m,n=m+1:=⟨n-1,by omega⟩;rw[List.take_succ_cons,first]
  rw[first]at h
  have e:c::r.take m=(c::r).take (m+1):=rfl;by_cases h1:isLet c=true
  ·rw[if_pos h1]at h ⊢
   unfold word at h ⊢;by_cases hs:16<span inW (c::r)
   ·rw[if_pos hs]at h;injection h with h _;omega
   ·rw[if_neg hs]at h
    injection h with ha hb;have ht:=zfN inW (c::r) (m+1) hb;rw[e,ht,if_neg (by omega),List.take_take,Nat.min_self,<-ha,hb]
  ·rw[if_neg h1]at h ⊢
   by_cases h2:isDig c=true
   ·rw[if_pos h2]at h ⊢
    have hk4:number (c::r)=(4,m+1):=by
     rcases zaR (c::r) with e|⟨e,_,_⟩
     ·rw[e]at h;injection h with h _;omega
     ·rw[e]at h ⊢;injection h with _ hb;rw[hb]
    rw[hk4]at h
    rw[e,zgy _ _ hk4]
    exact h
   ·rw[if_neg h2]at h ⊢
    by_cases h3:c=63
    ·rw[if_pos h3]at h ⊢
     unfold zbl at h ⊢;rw[show(c::r).drop 1=r from rfl]at h
     rw[show(c::r.take m).drop 1=r.take m from rfl]
     by_cases h0:(number r).2=0
     ·rw[if_pos h0]at h;injection h with h _;omega
     ·rw[if_neg h0]at h
      injection h with ha hb;have hm:(number r).2=m:=by omega
      have hk4:number r=(4,m):=by
       rcases zaR r with e|⟨e,_,_⟩
       ·rw[e]at h0;exact absurd rfl h0
       ·rw[e]at hm ⊢;rw[<-hm]
      rw[zgy _ _ hk4,if_neg (by rw[<-hm];exact h0),<-ha]
      simp;omega
    ·rw[if_neg h3]at h ⊢
     unfold sign at h ⊢;by_cases hpre:(pre [45,62] (c::r)||pre [124,62] (c::r))=true
     ·rw[if_pos hpre]at h
      injection h with ha hb;obtain rfl:m=1:=by omega
      have hq:(pre [45,62] (c::r.take 1)||pre [124,62] (c::r.take 1))=true:=by
       cases r with
       |nil=>simp[pre,List.isPrefixOf]at hpre
       |cons x r=>simpa[pre,List.isPrefixOf] using hpre
      rw[if_pos hq,<-ha]
     ·rw[if_neg hpre]at h
      by_cases hs:(c::r).headD 0∈signs
      ·rw[if_pos hs]at h
       injection h with ha hb;obtain rfl:m=0:=by omega
       rw[List.take_zero,if_neg (by simp[pre,List.isPrefixOf]),if_pos (by simpa using hs),<-ha]
      ·rw[if_neg hs]at h;injection h with h _;omega
def Good(t:Tok):Prop:=t.text≠[]/\first t.text=(t.kind,t.text.length)/\t.kind≠0
theorem zrg(n:Nat):∀(i:Nat)(l:List UInt8)(ts:List Tok),l.length<=n->sc i l=.ok ts->∀t∈ts,Good t:=by
 induction n with
 |zero =>
  intro i l ts hn h t ht;have:l=[]:=List.eq_nil_of_length_eq_zero (by omega);subst this;injection h with h;subst h;cases ht
 |succ n ih =>
  intro i l ts hn h t ht;rw[zbN]at h
  split at h
  ·injection h with h;subst h;cases ht
  ·rename_i h0
   split at h
   ·cases h
   ·rename_i h1
    have hp:=zce _ h1;cases hx:sc (i+btw false l+(first (l.drop (btw false l))).2) ((l.drop (btw false l)).drop (first (l.drop (btw false l))).2) with
    |error e=>rw[hx]at h;cases h
    |ok us =>
     rw[hx]at h
     have h:Except.ok (_::us)=Except.ok ts:=h;injection h with h;subst h;rcases List.mem_cons.1 ht with rfl|ht
     ·have hlen:((l.drop (btw false l)).take (first (l.drop (btw false l))).2).length=(first (l.drop (btw false l))).2:=by
       rw[List.length_take];omega
      refine⟨?_,?_,h1⟩
      ·intro e
       have e2:=congrArg List.length e;rw[hlen]at e2
       simp at e2;omega
      ·simp only[hlen]
       exact zmi _ _ _ rfl h1
     ·exact ih _ _ us (by simp only[List.length_drop]at hp ⊢;omega) hx t ht
theorem zjJ(l:List UInt8)(ts:List Tok)(h:lex l=.ok ts):∀t∈ts,Good t:=zrg l.length 0 l ts (Nat.le_refl _) (by rw[<-zhf];exact h)
theorem zmj(c:UInt8)(r:List UInt8)(h:(first (c::r)).1≠0):btw false (c::r)=0:=by
 have no:∀x:UInt8,(x=32\/x=9\/x=10\/x=35)->(first (x::r)).1=0:=by
  rintro x (rfl|rfl|rfl|rfl);all_goals
   rw[first,if_neg (by decide),if_neg (by decide),if_neg (by decide),sign,if_neg (by simp[pre,List.isPrefixOf]),if_neg (by simp only[List.headD_cons];decide)]
 rw[btw,if_neg,if_neg]
 ·intro e;exact h (no c (.inr (.inr (.inr e))))
 ·rintro(e|e|e)
  ·exact h (no c (.inl e))
  ·exact h (no c (.inr (.inl e)))
  ·exact h (no c (.inr (.inr (.inl e))))
theorem zpA(i:Nat)(c:UInt8)(r:List UInt8)(h:btw false (c::r)=btw false r+1):sc i (c::r)=sc (i+1) r:=by
 rw[zbN i,zbN (i+1),h,List.drop_succ_cons,show i+(btw false r+1)=i+1+btw false r by omega]
end Lx
namespace Tx
open Lx
def Gd(k:Nat)(s:List UInt8):Prop:=s≠[]/\first s=(k,s.length)/\k≠0
def Cuts(l:List UInt8)(ks:List Tok):Prop:=∀i,∃vs,sc i l=.ok vs/\vs.map strip=ks
def endR(r:List UInt8):Prop:=r=[]\/∃d t,r=d::t/\ends d
theorem zq1:Cuts [] []:=λ_=>⟨[],rfl,rfl⟩
theorem zbb(l:List UInt8)(ks:List Tok)(h:Cuts l ks):Cuts (32::l) ks:=by
 intro i;obtain⟨vs,h1,h2⟩:=h (i+1);exact⟨vs,by rw[zpA i 32 l (by rw[btw,if_pos (by simp)])];exact h1,h2⟩
theorem zei(k:Nat)(s r:List UInt8)(ks:List Tok)(hne:s≠[])(hk:k≠0)(hf:first (s++r)=(k,s.length))(h:Cuts r ks):Cuts (s++r) (K k s::ks):=by
 intro i;obtain⟨vs,h1,h2⟩:=h (i+s.length);obtain⟨c,s',rfl⟩:∃c s',s=c::s':=by
  cases s with
  |nil=>exact absurd rfl hne
  |cons c s'=>exact⟨c,s',rfl⟩
 have hb:btw false ((c::s')++r)=0:=zmj c (s'++r) (by rw[show c::(s'++r)=(c::s')++r from rfl,hf];exact hk);refine⟨⟨k,c::s',i⟩::vs,?_,by rw[List.map_cons,h2];rfl⟩;rw[zbN,hb,List.drop_zero,if_neg (by simp),hf,if_neg hk,List.drop_left,List.take_left]
 simp only[Nat.add_zero];rw[h1]
 rfl
theorem glue(k:Nat)(s r:List UInt8)(hs:Gd k s)(hr:endR r):first (s++r)=(k,s.length):=by
 rcases hr with rfl|⟨d,t,rfl,hd⟩
 ·rw[List.append_nil];exact hs.2.1
 ·rw[zmh d hd s t hs.1];exact hs.2.1
theorem zcl(k:Nat)(s r:List UInt8)(ks:List Tok)(hs:Gd k s)(hr:endR r)(h:Cuts r ks):Cuts (s++r) (K k s::ks) :=
 zei k s r ks hs.1 hs.2.2 (glue k s r hs hr) h
theorem zfE(c:UInt8)(r:List UInt8)(h1:isLet c=false)(h2:isDig c=false)(h3:c≠63)(h4:c≠45)(h5:c≠124)(h6:c∈signs):first (c::r)=(6,1):=by
 rw[first,h1,if_neg (by simp),h2,if_neg (by simp),if_neg h3,sign,if_neg,if_pos (by simpa using h6)]
 have e1:(45:UInt8)≠c:=λe=>h4 e.symm;have e2:(124:UInt8)≠c:=λe=>h5 e.symm;cases r with
 |nil=>simp[pre,List.isPrefixOf]
 |cons d r=>simp[pre,List.isPrefixOf,e1,e2]
theorem zk6(r:List UInt8)(ks:List Tok)(h:Cuts r ks):Cuts (40::r) (tL::ks) :=
 zei 6 [40] r ks (by simp) (by omega) (zfE 40 r (by decide) (by decide) (by decide) (by decide) (by decide) (by decide)) h
theorem zk7(r:List UInt8)(ks:List Tok)(h:Cuts r ks):Cuts (41::r) (tR::ks) :=
 zei 6 [41] r ks (by simp) (by omega) (zfE 41 r (by decide) (by decide) (by decide) (by decide) (by decide) (by decide)) h
theorem zej(r:List UInt8)(ks:List Tok)(h:Cuts r ks):Cuts (46::r) (tDot::ks) :=
 zei 6 [46] r ks (by simp) (by omega) (zfE 46 r (by decide) (by decide) (by decide) (by decide) (by decide) (by decide)) h
theorem zh3(r:List UInt8)(ks:List Tok)(h:Cuts r ks):Cuts (45::62::r) (tArrow::ks) :=
 zei 6 [45,62] r ks (by simp) (by omega) (by
  show first (45::62::r)=(6,2);rw[first,if_neg (by decide),if_neg (by decide),if_neg (by decide),sign,if_pos (by simp[pre,List.isPrefixOf])]) h
theorem ze2(r:List UInt8):endR (32::r):=.inr ⟨32,r,rfl,by decide,by decide,by decide⟩
theorem zk8(r:List UInt8):endR (41::r):=.inr ⟨41,r,rfl,by decide,by decide,by decide⟩
theorem zh4(r:List UInt8):endR (46::r):=.inr ⟨46,r,rfl,by decide,by decide,by decide⟩
inductive Nm:Ty->Prop
 |var (x):Gd 1 x->Nm (.var x)
 |mt (n):n<=999999->Nm (.mt n)
 |con (c l):Gd 2 c->(∀t∈l,Nm t)->Nm (.con c l)
 |fn (a b):Nm a->Nm b->Nm (.fn a b)
 |all (x t):Gd 1 x->Nm t->Nm (.all x t)
theorem Nm.wf {t:Ty}(h:Nm t):Wf t:=by
 induction h with
 |var x _=>exact .var x
 |mt n h=>exact .mt n h
 |con c l _ _ ih=>exact .con c l ih
 |fn a b _ _ iha ihb=>exact .fn a b iha ihb
 |all x t _ _ ih=>exact .all x t ih
theorem zgS(n:Nat):isDig (digit n)=true:=by
 have:=zcO n;simp[isDig]
 omega
theorem zfF(f n:Nat):∀d∈decF f n,isDig d=true:=by
 induction f generalizing n with
 |zero=>intro d h;simp[decF]at h
 |succ f ih =>
  intro d h;rw[decF]at h
  split at h
  ·simp at h;subst h;exact zgS n
  ·rw[List.mem_append]at h
   rcases h with h|h
   ·exact ih _ d h
   ·simp at h;subst h;exact zgS n
theorem zbK(f g n:Nat)(hg:n<10 ^ g)(h1:1<=g):(decF f n).length<=g:=by
 induction f generalizing n g with
 |zero=>simp[decF]
 |succ f ih =>
  rw[decF]
  split
  ·simpa using h1
  ·rename_i hn
   obtain⟨g,rfl⟩:∃k,g=k+1:=⟨g-1,by omega⟩;have hg0:1<=g:=by
    rcases Nat.eq_zero_or_pos g with e|e
    ·subst e;simp at hg;omega
    ·exact e
   have:=ih g (n / 10) (by rw[Nat.pow_succ]at hg;omega) hg0;simp;omega
theorem zpo(f n:Nat)(hf:1<=f)(h:n<10 ^ f):∃c r,decF f n=c::r/\(c=48->n=0):=by
 induction f generalizing n with
 |zero=>omega
 |succ f ih =>
  rw[decF]
  split
  ·rename_i hn
   refine⟨digit n,[],rfl,λe=>?_⟩;have:=zcO n;rw[e]at this
   simp at this;omega
  ·rename_i hn
   have h1:1<=f:=by
    rcases Nat.eq_zero_or_pos f with e|e
    ·subst e;simp at h;omega
    ·exact e
   obtain⟨c,r,e,hc⟩:=ih (n / 10) h1 (by rw[Nat.pow_succ]at h;omega);refine⟨c,r++[digit n],by rw[e];rfl,λe0=>?_⟩;have:=hc e0;omega
theorem zq2:dec 0=[48]:=rfl
theorem zsc(n:Nat)(h:n<=999999):Gd 5 (63::dec n):=by
 obtain⟨c,r,e,hc⟩:=zpo 20 n (by omega) (by omega);have hd:∀d∈c::r,isDig d=true:=λd hd=>zfF 20 n d (by rw[e];exact hd);have hl:(c::r).length<=6:=by rw[<-e];exact zbK 20 6 n (by omega) (by omega)
 have h0:c=48->r=[]:=λe0=>by
  have hn:=hc e0;rw[hn]at e
  have:=zq2;unfold dec at this;rw[this]at e
  injection e with _ e;exact e.symm
 have hsp:=ze6 isDig _ hd;refine⟨by simp,?_,by omega⟩;show first (63::dec n)=(5,(63::dec n).length);rw[show dec n=c::r from e]
 have hn:number (c::r)=(4,(c::r).length):=by
  rw[number,if_neg,hsp]
  simp only[badNum,hsp,decide_eq_true_eq,List.length_cons,List.headD_cons];rintro(h|h|⟨h,e⟩)
  ·omega
  ·simp at hl;omega
  ·rw[h0 e]at h;simp at h
 rw[first,if_neg (by decide),if_neg (by decide),if_pos rfl,zbl]
 simp only[List.drop_succ_cons,List.drop_zero,hn,List.length_cons];rw[if_neg (by omega)]
 simp;omega
theorem zpp:Gd 3 wForall:=⟨by decide,by decide,by decide⟩
theorem zim(l:List Ty)(r:List UInt8)(hr:endR r):endR (zaB l++r):=by
 cases l with
 |nil=>rw[zaB];exact hr
 |cons t l =>
  rw[zaB]
  split
  ·exact ze2 _
  ·exact ze2 _
theorem zh5(t:Ty)(r:List UInt8):endR (zaI t++r):=by
 cases t with
 |all y u=>rw[zaI];exact ze2 _
 |var x=>rw[zaI];exact zh4 _
 |mt n=>rw[zaI];exact zh4 _
 |con c l=>rw[zaI];exact zh4 _
 |fn a b=>rw[zaI];exact zh4 _
mutual
theorem zbh:(t:Ty)->Nm t->∀r ks,endR r->Cuts r ks->Cuts (t.print++r) (t.toks++ks)
 |.var x,h,r,ks,hr,hc=>by
  cases h with
  |var _ hx=>rw[Ty.print,Ty.toks];exact zcl 1 x r ks hx hr hc
 |.mt n,h,r,ks,hr,hc=>by
  cases h with
  |mt _ hn=>rw[Ty.print,Ty.toks];exact zcl 5 (63::dec n) r ks (zsc n hn) hr hc
 |.con c l,h,r,ks,hr,hc=>by
  cases h with
  |con _ _ hx hl =>
   rw[Ty.print,Ty.toks,List.append_assoc]
   exact zcl 2 c (zaB l++r) (zbr l++ks) hx (zim l r hr) (zeM l hl r ks hr hc)
 |.fn a b,h,r,ks,hr,hc=>by
  cases h with
  |fn _ _ ha hb =>
   rw[Ty.print,Ty.toks]
   have h2:Cuts ([32,45,62,32]++(b.print++r)) (tArrow::(b.toks++ks)):=zbb _ _ (zh3 _ _ (zbb _ _ (zbh b hb r ks hr hc)));rw[show((if a.isFA=true then 40::(a.print++[41]) else a.print)++[32,45,62,32]++b.print)++r=(if a.isFA=true then 40::(a.print++[41]) else a.print)++([32,45,62,32]++(b.print++r)) by simp]
   rw[show((if a.isFA=true then tL::(a.toks++[tR]) else a.toks)++tArrow::b.toks)++ks=(if a.isFA=true then tL::(a.toks++[tR]) else a.toks)++(tArrow::(b.toks++ks)) by simp]
   by_cases hfa:a.isFA=true
   ·rw[if_pos hfa,if_pos hfa]
    have h3:=zk6 _ _ (zbh a ha _ _ (zk8 _) (zk7 _ _ h2));simpa using h3
   ·rw[if_neg hfa,if_neg hfa]
    exact zbh a ha _ _ (ze2 _) h2
 |.all x t,h,r,ks,hr,hc=>by
  cases h with
  |all _ _ hx ht =>
   rw[Ty.print,Ty.toks]
   have h1:=zgT t ht r ks hr hc;have h2:Cuts (wForall++32::(x++(zaI t++r))) (tAll::K 1 x::(zbR t++ks)):=zcl 3 wForall (32::(x++(zaI t++r))) (K 1 x::(zbR t++ks)) zpp (ze2 _) (zbb _ _ (zcl 1 x _ _ hx (zh5 t r) h1));simpa using h2
theorem zeM:(l:List Ty)->(∀t∈l,Nm t)->∀r ks,endR r->Cuts r ks->Cuts (zaB l++r) (zbr l++ks)
 |[],_,r,ks,_,hc=>by rw[zaB,zbr];exact hc
 |t::l,h,r,ks,hr,hc=>by
  rw[zaB,zbr,List.append_assoc,List.append_assoc]
  have h1:=zeM l (λu hu=>h u (List.mem_cons_of_mem _ hu)) r ks hr hc;have ht:=h t List.mem_cons_self;by_cases hb:t.big=true
  ·rw[if_pos hb,if_pos hb]
   have h3:=zbb _ _ (zk6 _ _ (zbh t ht _ _ (zk8 _) (zk7 _ _ h1)));simpa using h3
  ·rw[if_neg hb,if_neg hb]
   exact zbb _ _ (zbh t ht _ _ (zim l r hr) h1)
theorem zgT:(t:Ty)->Nm t->∀r ks,endR r->Cuts r ks->Cuts (zaI t++r) (zbR t++ks)
 |.all y u,h,r,ks,hr,hc=>by
  cases h with
  |all _ _ hy hu =>
   rw[zaI,zbR]
   have h1:=zbb _ _ (zcl 1 y _ _ hy (zh5 u r) (zgT u hu r ks hr hc));simpa using h1
 |.var x,h,r,ks,hr,hc=>by
  rw[zaI,zbR]
  have h1:=zbh (.var x) h r ks hr hc;rw[Ty.print,Ty.toks]at h1
  exact zej _ _ (zbb _ _ h1)
 |.mt n,h,r,ks,hr,hc=>by
  rw[zaI,zbR]
  have h1:=zbh (.mt n) h r ks hr hc;rw[Ty.print,Ty.toks]at h1
  exact zej _ _ (zbb _ _ h1)
 |.con c l,h,r,ks,hr,hc=>by
  rw[zaI,zbR]
  cases h with
  |con _ _ hx hl =>
   have h1:=zcl 2 c (zaB l++r) (zbr l++ks) hx (zim l r hr) (zeM l hl r ks hr hc);have h2:=zej _ _ (zbb _ _ h1);simpa using h2
 |.fn a b,h,r,ks,hr,hc=>by
  rw[zaI,zbR]
  cases h with
  |fn _ _ ha hb =>
   have h2:Cuts ([32,45,62,32]++(b.print++r)) (tArrow::(b.toks++ks)):=zbb _ _ (zh3 _ _ (zbb _ _ (zbh b hb r ks hr hc)));by_cases hfa:a.isFA=true
   ·rw[if_pos hfa,if_pos hfa]
    have h3:=zej _ _ (zbb _ _ (zk6 _ _ (zbh a ha _ _ (zk8 _) (zk7 _ _ h2))));simpa using h3
   ·rw[if_neg hfa,if_neg hfa]
    have h3:=zej _ _ (zbb _ _ (zbh a ha _ _ (ze2 _) h2));simpa using h3
end
theorem zjv(t:Ty)(h:Nm t):∃vs,lex t.print=.ok vs/\vs.map strip=t.toks:=by
 obtain⟨vs,h1,h2⟩:=zbh t h [] [] (.inl rfl) zq1 0;rw[List.append_nil]at h1 h2
 exact⟨vs,by rw[zhf];exact h1,h2⟩
theorem zpq(t u:Ty)(ht:Nm t)(hu:Nm u)(h:t.print=u.print):t=u:=by
 obtain⟨vs,h1,h2⟩:=zjv t ht;obtain⟨ws,h3,h4⟩:=zjv u hu;rw[h,h3]at h1
 injection h1 with h1;subst h1;have a:=zjn t ht.wf ws h2;have b:=zjn u hu.wf ws h4;rw[a]at b
 injection b with b;injection b
end Tx
namespace Tx
open Lx
mutual
def Ty.size:Ty->Nat
 |.var _=>1
 |.mt _=>1
 |.con _ l=>zab l+1
 |.fn a b=>a.size+b.size+1
 |.all _ t=>t.size+1
def zab:List Ty->Nat
 |[]=>0
 |t::r=>t.size+zab r
end
def AllG(l:List Tok):Prop:=∀t∈l,Lx.Good t
theorem AllG.tail {t:Tok} {l:List Tok}(h:AllG (t::l)):AllG l:=λx hx=>h x (List.mem_cons_of_mem _ hx)
theorem AllG.head {t:Tok} {l:List Tok}(h:AllG (t::l)):Lx.Good t:=h t List.mem_cons_self
theorem zfD(p:Tok->Bool)(l r:List Tok)(h:eat p l=some r):∃t,l=t::r/\p t=true:=by
 cases l with
 |nil=>simp[eat]at h
 |cons t l =>
  rw[eat]at h
  split at h
  ·rename_i hp
   injection h with h;exact⟨t,by rw[h],hp⟩
  ·cases h
theorem zpm(l:List Tok)(h:AllG l):(∀x∈(vars l).1,Gd 1 x)/\AllG (vars l).2/\(vars l).1.length+(vars l).2.length=l.length:=by
 induction l with
 |nil=>exact⟨λx hx=>by simp[vars]at hx,λx hx=>by simp[vars]at hx,rfl⟩
 |cons t r ih =>
  obtain⟨i1,i2,i3⟩:=ih h.tail;rw[vars]
  by_cases hk:t.kind=1
  ·rw[if_pos hk]
   refine⟨λx hx=>?_,i2,by simp;omega⟩;rcases List.mem_cons.1 hx with rfl|hx
   ·have:=h.head
    rw[Lx.Good,hk]at this
    exact⟨this.1,this.2.1,by omega⟩
   ·exact i1 x hx
  ·rw[if_neg hk]
   exact⟨λx hx=>by simp at hx,h,by simp⟩
theorem zk5(l:List UInt8)(h:∀d∈l,isDig d=true):numOf l<10 ^ l.length:=by
 have key:∀(l:List UInt8) (a:Nat),(∀d∈l,isDig d=true)->l.foldl (λn c=>10*n+(c.toNat-48)) a<(a+1)*10 ^ l.length:=by
  intro l;induction l with
  |nil=>intro a _;simp
  |cons c r ih =>
   intro a h;have hc:=znN c (h c List.mem_cons_self);have:=ih (10*a+(c.toNat-48)) (λd hd=>h d (List.mem_cons_of_mem _ hd));rw[List.foldl_cons,List.length_cons,Nat.pow_succ]
   refine Nat.lt_of_lt_of_le this ?_;rw[Nat.mul_comm (10 ^ r.length) 10,<-Nat.mul_assoc]
   exact Nat.mul_le_mul_right _ (by omega)
 have:=key l 0 h;simpa[numOf] using this
theorem zju(p:UInt8->Bool)(l:List UInt8)(h:span p l=l.length):∀d∈l,p d=true:=by
 induction l with
 |nil=>intro d hd;cases hd
 |cons c r ih =>
  rw[span]at h
  by_cases hp:p c=true
  ·rw[if_pos hp]at h
   intro d hd;rcases List.mem_cons.1 hd with rfl|hd
   ·exact hp
   ·exact ih (by simpa using h) d hd
  ·rw[if_neg hp]at h;simp at h
theorem zq0(t:Tok)(h:Lx.Good t)(hk:t.kind=5):numOf (t.text.drop 1)<=999999:=by
 obtain⟨h1,h2,_⟩:=h;rw[hk]at h2
 cases hx:t.text with
 |nil=>exact absurd hx h1
 |cons c r =>
  rw[hx]at h2
  show numOf r<=999999;rw[first]at h2
  split at h2
  ·exfalso
   unfold word at h2;split at h2
   ·injection h2 with a _;omega
   ·injection h2 with a _
    unfold wordKind at a;split at a
    ·omega
    ·split at a <;> omega
  ·split at h2
   ·exfalso
    rcases zaR (c::r) with e|⟨e,_,_⟩ <;> rw[e]at h2 <;> injection h2 with a _ <;> omega
   ·split at h2
    ·unfold zbl at h2
     split at h2
     ·injection h2 with a _;omega
     ·rename_i hn
      injection h2 with _ b;rw[show(c::r).drop 1=r from rfl]at b hn
      rcases zaR r with e|⟨e,_,h6⟩
      ·rw[e]at hn;exact absurd rfl hn
      ·rw[e]at b
       simp at b;have hs:span isDig r=r.length:=by omega
       have:=zk5 r (zju isDig r hs);have:(10:Nat) ^ r.length<=10 ^ 6:=Nat.pow_le_pow_right (by omega) (by omega);omega
    ·exfalso
     unfold sign at h2;split at h2
     ·injection h2 with a _;omega
     ·split at h2
      ·injection h2 with a _;omega
      ·injection h2 with a _;omega
theorem zsb(xs:List (List UInt8))(t:Ty)(hx:∀x∈xs,Gd 1 x)(ht:Nm t):Nm (alls xs t):=by
 induction xs with
 |nil=>exact ht
 |cons x xs ih=>exact .all x _ (hx x List.mem_cons_self) (ih λy hy=>hx y (List.mem_cons_of_mem _ hy))
theorem zpn(xs:List (List UInt8))(t:Ty):(alls xs t).size=xs.length+t.size:=by
 induction xs with
 |nil=>simp[alls]
 |cons x xs ih =>
  show(Ty.all x (alls xs t)).size=_;rw[Ty.size,ih,List.length_cons];omega
theorem ze1(f:Nat):(∀l t r,AllG l->read f l=some (t,r)->Nm t/\AllG r/\t.size+r.length<=l.length) /\
  (∀l t r,AllG l->app f l=some (t,r)->Nm t/\AllG r/\t.size+r.length<=l.length) /\
  (∀l ts r,AllG l->args f l=some (ts,r)->(∀t∈ts,Nm t)/\AllG r/\zab ts+r.length<=l.length) /\
  (∀l t r,AllG l->atom f l=some (t,r)->Nm t/\AllG r/\t.size+r.length<=l.length):=by
 induction f with
 |zero=>exact⟨(λ_ _ _ _ h=>by simp[read]at h),(λ_ _ _ _ h=>by simp[app]at h),(λ_ _ _ _ h=>by simp[args]at h),(λ_ _ _ _ h=>by simp[atom]at h)⟩
 |succ f ih =>
  obtain⟨i1,i2,i3,i4⟩:=ih;refine⟨λl t r hg h=>?_,λl t r hg h=>?_,λl ts r hg h=>?_,λl t r hg h=>?_⟩
  ·rw[read]at h
   cases he:eat (isKey · wForall) l with
   |some r1 =>
    rw[he]at h
    simp only at h;obtain⟨t0,rfl,_⟩:=zfD _ _ _ he;obtain⟨v1,v2,v3⟩:=zpm r1 hg.tail;split at h
    ·cases h
    ·cases he2:eat (isSign · [46]) (vars r1).2 with
     |none=>rw[he2]at h;cases h
     |some r2 =>
      rw[he2]at h
      simp only at h;obtain⟨t1,e1,_⟩:=zfD _ _ _ he2;rw[e1]at v2 v3
      cases hr:read f r2 with
      |none=>rw[hr]at h;cases h
      |some x =>
       obtain⟨u,r3⟩:=x;rw[hr]at h
       simp only[Option.map_some,Option.some.injEq,Prod.mk.injEq]at h;obtain⟨rfl,rfl⟩:=h;obtain⟨a,b,c⟩:=i1 r2 u r3 v2.tail hr;refine⟨zsb _ _ v1 a,b,?_⟩;rw[zpn]
       simp only[List.length_cons]at v3 ⊢;omega
   |none =>
    rw[he]at h
    simp only at h;cases ha:app f l with
    |none=>rw[ha]at h;cases h
    |some x =>
     obtain⟨u,r1⟩:=x;rw[ha]at h
     simp only at h;obtain⟨a,b,c⟩:=i2 l u r1 hg ha;cases he2:eat (isSign · [45,62]) r1 with
     |none =>
      rw[he2]at h
      simp only[Option.some.injEq,Prod.mk.injEq]at h;obtain⟨rfl,rfl⟩:=h;exact⟨a,b,c⟩
     |some r2 =>
      rw[he2]at h
      simp only at h;obtain⟨t1,rfl,_⟩:=zfD _ _ _ he2;cases hr:read f r2 with
      |none=>rw[hr]at h;cases h
      |some x =>
       obtain⟨v,r3⟩:=x;rw[hr]at h
       simp only[Option.map_some,Option.some.injEq,Prod.mk.injEq]at h;obtain⟨rfl,rfl⟩:=h;obtain⟨a2,b2,c2⟩:=i1 r2 v r3 b.tail hr;refine⟨.fn _ _ a a2,b2,?_⟩;rw[Ty.size]
       simp only[List.length_cons]at c;omega
  ·cases l with
   |nil=>rw[app]at h;cases h
   |cons t0 l =>
    rw[app]at h
    split at h
    ·rename_i hk
     cases ha:args f l with
     |none=>rw[ha]at h;cases h
     |some x =>
      obtain⟨us,r1⟩:=x;rw[ha]at h
      simp only[Option.map_some,Option.some.injEq,Prod.mk.injEq]at h;obtain⟨rfl,rfl⟩:=h;obtain⟨a,b,c⟩:=i3 l us r1 hg.tail ha;have hgd:=hg.head;rw[Lx.Good,hk]at hgd
      refine⟨.con _ _ ⟨hgd.1,hgd.2.1,by omega⟩ a,b,?_⟩;rw[Ty.size]
      simp only[List.length_cons];omega
    ·exact i4 _ _ _ hg h
  ·cases l with
   |nil =>
    rw[args]at h
    simp only[Option.some.injEq,Prod.mk.injEq]at h;obtain⟨rfl,rfl⟩:=h;exact⟨(λt ht=>by cases ht),hg,by simp[zab]⟩
   |cons t0 l =>
    rw[args]at h
    split at h
    ·cases ha:atom f (t0::l) with
     |none=>rw[ha]at h;cases h
     |some x =>
      obtain⟨u,r1⟩:=x;rw[ha]at h
      simp only at h;obtain⟨a,b,c⟩:=i4 _ u r1 hg ha;cases hb:args f r1 with
      |none=>rw[hb]at h;cases h
      |some y =>
       obtain⟨us,r2⟩:=y;rw[hb]at h
       simp only[Option.map_some,Option.some.injEq,Prod.mk.injEq]at h;obtain⟨rfl,rfl⟩:=h;obtain⟨a2,b2,c2⟩:=i3 _ us r2 b hb;refine⟨λt ht=>?_,b2,?_⟩
       ·rcases List.mem_cons.1 ht with rfl|ht
        ·exact a
        ·exact a2 t ht
       ·rw[zab];omega
    ·simp only[Option.some.injEq,Prod.mk.injEq]at h
     obtain⟨rfl,rfl⟩:=h;exact⟨(λt ht=>by cases ht),hg,by simp[zab]⟩
  ·cases l with
   |nil=>rw[atom]at h;cases h
   |cons t0 l =>
    rw[atom]at h
    have hgd:=hg.head;split at h
    ·rename_i hk
     simp only[Option.some.injEq,Prod.mk.injEq]at h;obtain⟨rfl,rfl⟩:=h;rw[Lx.Good,hk]at hgd
     exact⟨.var _ ⟨hgd.1,hgd.2.1,by omega⟩,hg.tail,by rw[Ty.size];simp;omega⟩
    ·split at h
     ·rename_i hk
      simp only[Option.some.injEq,Prod.mk.injEq]at h;obtain⟨rfl,rfl⟩:=h;rw[Lx.Good,hk]at hgd
      exact⟨.con _ _ ⟨hgd.1,hgd.2.1,by omega⟩ (λt ht=>by cases ht),hg.tail,by rw[Ty.size,zab];simp;omega⟩
     ·split at h
      ·rename_i hk
       simp only[Option.some.injEq,Prod.mk.injEq]at h;obtain⟨rfl,rfl⟩:=h;exact⟨.mt _ (zq0 t0 hgd hk),hg.tail,by rw[Ty.size];simp;omega⟩
      ·split at h
       ·cases hr:read f l with
        |none=>rw[hr]at h;cases h
        |some x =>
         obtain⟨u,r1⟩:=x;rw[hr]at h
         simp only at h;obtain⟨a,b,c⟩:=i1 l u r1 hg.tail hr;cases he:eat (isSign · [41]) r1 with
         |none=>rw[he]at h;cases h
         |some r2 =>
          rw[he]at h
          simp only[Option.map_some,Option.some.injEq,Prod.mk.injEq]at h;obtain⟨rfl,rfl⟩:=h;obtain⟨t1,rfl,_⟩:=zfD _ _ _ he;refine⟨a,b.tail,?_⟩;simp only[List.length_cons]at c ⊢;omega
       ·cases h
theorem zhc(s:List UInt8)(t:Ty)(h:parse s=.ok t):Nm t/\t.depth<=50/\t.size<=s.length/\s.length<=4000:=by
 unfold parse at h;split at h
 ·rename_i ts _ hs
  split at h
  ·rename_i u hr
   split at h
   ·cases h
   ·rename_i hd
    injection h with h;subst h;have hl:s.length<=4000:=by
     rcases Nat.lt_or_ge 4000 s.length with h4|h4
     ·unfold zbL at hs;rw[if_pos h4]at hs;injection hs with _ hs;injection hs with _ hs;omega
     ·exact h4
    have hx:lex s=.ok ts:=by
     unfold zbL at hs;rw[if_neg (by omega)]at hs
     cases hl:lex s with
     |error a=>rw[hl]at hs;injection hs with _ hs;injection hs with _ hs;omega
     |ok us=>rw[hl]at hs;injection hs with hs _;rw[hs]
    obtain⟨a,_,c⟩:=(ze1 _).1 ts _ [] (λt ht=>zjJ s ts hx t ht) hr;have hlen:ts.length<=s.length:=by
     have hc:=zlF s ts hx;have key:∀(ts:List Tok) (f:Nat),Cov s f ts->f+ts.length<=s.length:=by
      intro ts;induction ts with
      |nil=>intro f h;exact h.1
      |cons x r ih =>
       intro f h;obtain⟨h1,h2,_,_,_,_,h7⟩:=h;have:=ih _ h7;have:0<x.text.length:=List.length_pos_iff.2 h2;simp only[List.length_cons];omega
     have:=key ts 0 hc;omega
    simp only[List.length_nil,Nat.add_zero]at c;exact⟨a,by omega,by omega,hl⟩
  ·cases h
 ·cases h
end Tx
namespace Tx
open Lx
abbrev Name:=List UInt8
inductive Dt where
 |fv (x:Name)
 |bv (i:Nat)
 |mt (n:Nat)
 |con (c:Name) (l:List Dt)
 |fn (a b:Dt)
 |all (t:Dt)
def idx(x:Name):List Name->Option Nat
 |[]=>none
 |y::r=>if x=y then some 0 else(idx x r).map (· + 1)
mutual
def db(env:List Name):Ty->Dt
 |.var x=>match idx x env with|some i=>.bv i|none=>.fv x
 |.mt n=>.mt n
 |.con c l=>.con c (dbL env l)
 |.fn a b=>.fn (db env a) (db env b)
 |.all x t=>.all (db (x::env) t)
def dbL(env:List Name):List Ty->List Dt
 |[]=>[]
 |t::r=>db env t::dbL env r
end
def nm(letter:UInt8)(k:Nat):Name:=letter::dec k
def zbm(letter:UInt8)(but:List Name):Nat->Nat->Nat
 |0,k=>k
 |f+1,k=>if nm letter k∈but then zbm letter but f (k+1) else k
def zal(letter:UInt8)(but:List Name)(k:Nat):Nat:=zbm letter but (but.length+1) k
mutual
def numb(c:UInt8)(but:List Name)(xs ys:List Name):Ty->Nat->Ty × Nat
 |.var x,k=>(match idx x xs with|some i=>.var (ys.getD i [])|none=>.var x,k)
 |.mt n,k=>(.mt n,k)
 |.con d l,k=>(.con d (zat c but xs ys l k).1,(zat c but xs ys l k).2)
 |.fn a b,k=>(.fn (numb c but xs ys a k).1 (numb c but xs ys b (numb c but xs ys a k).2).1,(numb c but xs ys b (numb c but xs ys a k).2).2)
 |.all x t,k=>(.all (nm c (zal c but k)) (numb c but (x::xs) (nm c (zal c but k)::ys) t (zal c but k+1)).1,(numb c but (x::xs) (nm c (zal c but k)::ys) t (zal c but k+1)).2)
def zat(c:UInt8)(but:List Name)(xs ys:List Name):List Ty->Nat->List Ty × Nat
 |[],k=>([],k)
 |t::r,k=>((numb c but xs ys t k).1::(zat c but xs ys r (numb c but xs ys t k).2).1,(zat c but xs ys r (numb c but xs ys t k).2).2)
end
mutual
def zan(c:UInt8)(but:List Name)(ys:List Name):Dt->Nat->Ty × Nat
 |.fv x,k=>(.var x,k)
 |.bv i,k=>(.var (ys.getD i []),k)
 |.mt n,k=>(.mt n,k)
 |.con d l,k=>(.con d (zaC c but ys l k).1,(zaC c but ys l k).2)
 |.fn a b,k=>(.fn (zan c but ys a k).1 (zan c but ys b (zan c but ys a k).2).1,(zan c but ys b (zan c but ys a k).2).2)
 |.all t,k=>(.all (nm c (zal c but k)) (zan c but (nm c (zal c but k)::ys) t (zal c but k+1)).1,(zan c but (nm c (zal c but k)::ys) t (zal c but k+1)).2)
def zaC(c:UInt8)(but:List Name)(ys:List Name):List Dt->Nat->List Ty × Nat
 |[],k=>([],k)
 |t::r,k=>((zan c but ys t k).1::(zaC c but ys r (zan c but ys t k).2).1,(zaC c but ys r (zan c but ys t k).2).2)
end
mutual
theorem zbY(c:UInt8)(but xs ys:List Name):(t:Ty)->∀k,numb c but xs ys t k=zan c but ys (db xs t) k
 |.var x,k=>by
  rw[numb,db]
  cases idx x xs with
  |none=>rw[zan]
  |some i=>rw[zan]
 |.mt n,k=>by rw[numb,db,zan]
 |.con d l,k=>by rw[numb,db,zan,zk1 c but xs ys l k]
 |.fn a b,k=>by rw[numb,db,zan,zbY c but xs ys a k,zbY c but xs ys b]
 |.all x t,k=>by rw[numb,db,zan,zbY c but (x::xs) _ t]
theorem zk1(c:UInt8)(but xs ys:List Name):(l:List Ty)->∀k,zat c but xs ys l k=zaC c but ys (dbL xs l) k
 |[],k=>by rw[zat,dbL,zaC]
 |t::r,k=>by rw[zat,dbL,zaC,zbY c but xs ys t k,zk1 c but xs ys r]
end
mutual
def zaA:Dt->List Name->List Name
 |.fv x,out=>addN x out
 |.bv _,out=>out
 |.mt _,out=>out
 |.con _ l,out=>zbg l out
 |.fn a b,out=>zaA b (zaA a out)
 |.all t,out=>zaA t out
def zbg:List Dt->List Name->List Name
 |[],out=>out
 |t::r,out=>zbg r (zaA t out)
end
mutual
def zbw:Dt->List Nat->List Nat
 |.fv _,out=>out
 |.bv _,out=>out
 |.mt n,out=>addN n out
 |.con _ l,out=>zcQ l out
 |.fn a b,out=>zbw b (zbw a out)
 |.all t,out=>zbw t out
def zcQ:List Dt->List Nat->List Nat
 |[],out=>out
 |t::r,out=>zcQ r (zbw t out)
end
theorem zb8(x:Name)(l:List Name):idx x l=none↔x∉l:=by
 induction l with
 |nil=>simp[idx]
 |cons y r ih =>
  rw[idx]
  by_cases h:x=y
  ·simp[h]
  ·rw[if_neg h,Option.map_eq_none_iff,ih]
   simp[h]
mutual
theorem zbZ(env bound:List Name)(hm:∀x,x∈bound↔x∈env):(t:Ty)->∀out,t.freeO bound out=zaA (db env t) out
 |.var x,out=>by
  rw[Ty.freeO,db]
  cases h:idx x env with
  |none=>rw[if_neg (λe=>(zb8 x env).1 h ((hm x).1 e)),zaA]
  |some i =>
   rw[if_pos,zaA]
   exact(hm x).2 (Decidable.byContradiction λhn=>by rw[(zb8 x env).2 hn]at h;cases h)
 |.mt n,out=>by rw[Ty.freeO,db,zaA]
 |.con d l,out=>by rw[Ty.freeO,db,zaA,zk2 env bound hm l]
 |.fn a b,out=>by rw[Ty.freeO,db,zaA,zbZ env bound hm a,zbZ env bound hm b]
 |.all x t,out=>by
  rw[Ty.freeO,db,zaA,zbZ (x::env) (bound++[x]) (λy=>by simp[hm y];exact Or.comm) t]
theorem zk2(env bound:List Name)(hm:∀x,x∈bound↔x∈env):(l:List Ty)->∀out,zaS bound l out=zbg (dbL env l) out
 |[],out=>by rw[zaS,dbL,zbg]
 |t::r,out=>by rw[zaS,dbL,zbg,zbZ env bound hm t,zk2 env bound hm r]
end
mutual
theorem zeh(env:List Name):(t:Ty)->∀out,t.metasO out=zbw (db env t) out
 |.var x,out=>by
  rw[Ty.metasO,db]
  cases idx x env <;> rw[zbw]
 |.mt n,out=>by rw[Ty.metasO,db,zbw]
 |.con d l,out=>by rw[Ty.metasO,db,zbw,zjt env l]
 |.fn a b,out=>by rw[Ty.metasO,db,zbw,zeh env a,zeh env b]
 |.all x t,out=>by rw[Ty.metasO,db,zbw,zeh (x::env) t]
theorem zjt(env:List Name):(l:List Ty)->∀out,zaO l out=zcQ (dbL env l) out
 |[],out=>by rw[zaO,dbL,zcQ]
 |t::r,out=>by rw[zaO,dbL,zcQ,zeh env t,zjt env r]
end
theorem zr9(j k:Nat)(hj:j<10 ^ 20)(hk:k<10 ^ 20)(h:dec j=dec k):j=k:=by
 have a:=zfw 20 j hj;have b:=zfw 20 k hk;unfold dec at h;rw[h]at a
 omega
theorem zk3(c:UInt8)(j k:Nat)(hj:j<10 ^ 20)(hk:k<10 ^ 20)(h:nm c j=nm c k):j=k:=by
 unfold nm at h;injection h with _ h;exact zr9 j k hj hk h
theorem zpj {α:Type} [DecidableEq α](l m:List α)(hn:l.Nodup)(hs:∀x∈l,x∈m):l.length<=m.length:=by
 induction l generalizing m with
 |nil=>simp
 |cons x r ih =>
  have hx:=hs x List.mem_cons_self;have hlen:=List.length_erase_of_mem hx;have hpos:0<m.length:=List.length_pos_of_mem hx;rw[List.nodup_cons]at hn
  have:=ih (m.erase x) hn.2 (λy hy=>by
   refine(List.mem_erase_of_ne ?_).2 (hs y (List.mem_cons_of_mem _ hy));intro e;subst e;exact hn.1 hy)
  simp only[List.length_cons];omega
theorem zfB(c:UInt8)(but:List Name)(f k:Nat):k<=zbm c but f k/\zbm c but f k<=k+f:=by
 induction f generalizing k with
 |zero=>simp[zbm]
 |succ f ih =>
  rw[zbm]
  split
  ·have:=ih (k+1);omega
  ·omega
theorem zpk(c:UInt8)(but:List Name)(f k:Nat)(hb:k+f<10 ^ 20)(h:nm c (zbm c but f k)∈but):∀j,k<=j->j<k+f->nm c j∈but:=by
 induction f generalizing k with
 |zero=>intro j h1 h2;omega
 |succ f ih =>
  rw[zbm]at h
  split at h
  ·rename_i hm
   intro j h1 h2;by_cases e:j=k
   ·subst e;exact hm
   ·exact ih (k+1) (by omega) h j (by omega) (by omega)
  ·rename_i hm;exact absurd h hm
theorem zaw(c:UInt8)(but:List Name)(k:Nat)(hb:k+but.length+1<10 ^ 20):nm c (zal c but k)∉but/\k<=zal c but k/\zal c but k<=k+but.length:=by
 have hge:=zfB c but (but.length+1) k;have key:∀(f:Nat),k+f<10 ^ 20->(∀j,k<=j->j<k+f->nm c j∈but)->f<=but.length:=by
  intro f hf hall;have hn:((List.range f).map λj=>nm c (k+j)).Nodup:=by
   rw[List.nodup_iff_pairwise_ne,List.pairwise_map]
   refine List.Pairwise.imp_of_mem ?_ List.pairwise_lt_range;intro a b ha hb hab e;have ha:=List.mem_range.1 ha;have hb:=List.mem_range.1 hb;have:=zk3 c _ _ (by omega) (by omega) e;omega
  have:=zpj _ but hn (λx hx=>by
   obtain⟨j,hj,rfl⟩:=List.mem_map.1 hx;have hj:=List.mem_range.1 hj;exact hall _ (by omega) (by omega))
  simpa using this
 have hnot:nm c (zal c but k)∉but:=by
  intro h;have:=key (but.length+1) (by omega) (zpk c but _ k (by omega) h);omega
 refine⟨hnot,hge.1,?_⟩;rcases Nat.lt_or_ge (k+but.length) (zal c but k) with h|h
 ·exfalso
  have hk:zal c but k=k+but.length+1:=by unfold zal at h ⊢;omega
  have hall:∀j,k<=j->j<k+(but.length+1)->nm c j∈but:=by
   have step:∀(f k:Nat),zbm c but f k=k+f->∀j,k<=j->j<k+f->nm c j∈but:=by
    intro f;induction f with
    |zero=>intro k _ j h1 h2;omega
    |succ f ih =>
     intro k h j h1 h2;rw[zbm]at h
     split at h
     ·rename_i hm
      by_cases e:j=k
      ·subst e;exact hm
      ·exact ih (k+1) (by omega) j (by omega) (by omega)
     ·omega
   exact step _ k (by unfold zal at hk;omega)
  have:=key (but.length+1) (by omega) hall;omega
 ·exact h
end Tx
namespace Tx
open Lx
mutual
def zai:Dt->Nat
 |.fv _=>0
 |.bv _=>0
 |.mt _=>0
 |.con _ l=>zaF l
 |.fn a b=>zai a+zai b
 |.all t=>zai t+1
def zaF:List Dt->Nat
 |[]=>0
 |t::r=>zai t+zaF r
end
mutual
def Clo:Nat->Dt->Prop
 |_,.fv _=>True
 |n,.bv i=>i<n
 |_,.mt _=>True
 |n,.con _ l=>CloL n l
 |n,.fn a b=>Clo n a/\Clo n b
 |n,.all t=>Clo (n+1) t
def CloL:Nat->List Dt->Prop
 |_,[]=>True
 |n,t::r=>Clo n t/\CloL n r
end
mutual
def FvIn(but:List Name):Dt->Prop
 |.fv x=>x∈but
 |.bv _=>True
 |.mt _=>True
 |.con _ l=>zfx but l
 |.fn a b=>FvIn but a/\FvIn but b
 |.all t=>FvIn but t
def zfx(but:List Name):List Dt->Prop
 |[]=>True
 |t::r=>FvIn but t/\zfx but r
end
theorem zcz(x:Name)(l:List Name)(i:Nat)(h:idx x l=some i):i<l.length:=by
 induction l generalizing i with
 |nil=>simp[idx]at h
 |cons y r ih =>
  rw[idx]at h
  by_cases e:x=y
  ·rw[if_pos e]at h;injection h with h;simp;omega
  ·rw[if_neg e]at h
   cases hr:idx x r with
   |none=>rw[hr]at h;cases h
   |some j=>rw[hr]at h;simp at h;have:=ih j hr;simp;omega
theorem zbT(l:List Name)(i:Nat)(h:i<l.length):l.getD i []∈l:=by
 rw[List.getD,List.getElem?_eq_getElem h]
 exact List.getElem_mem h
theorem zfy(l:List Name)(hn:l.Nodup)(i:Nat)(h:i<l.length):idx (l.getD i []) l=some i:=by
 induction l generalizing i with
 |nil=>simp at h
 |cons y r ih =>
  rw[List.nodup_cons]at hn
  cases i with
  |zero=>rw[List.getD_cons_zero,idx,if_pos rfl]
  |succ i =>
   rw[List.getD_cons_succ,idx,if_neg,ih hn.2 i (by simpa using h)]
   ·rfl
   ·intro e
    have hi:i<r.length:=by simpa using h
    exact hn.1 (by rw[<-e];exact zbT r i hi)
mutual
theorem zbI(env:List Name):(t:Ty)->Clo env.length (db env t)
 |.var x=>by
  rw[db]
  cases h:idx x env with
  |none=>rw[Clo];trivial
  |some i=>rw[Clo];exact zcz x env i h
 |.mt n=>by rw[db,Clo];trivial
 |.con d l=>by rw[db,Clo];exact zmc env l
 |.fn a b=>by rw[db,Clo];exact⟨zbI env a,zbI env b⟩
 |.all x t=>by rw[db,Clo];exact zbI (x::env) t
theorem zmc(env:List Name):(l:List Ty)->CloL env.length (dbL env l)
 |[]=>by rw[dbL,CloL];trivial
 |t::r=>by rw[dbL,CloL];exact⟨zbI env t,zmc env r⟩
end
theorem zfz(x y:Name)(l:List Name):y∈addN x l↔y=x\/y∈l:=by
 unfold addN;split
 ·rename_i h
  constructor
  ·exact .inr
  ·rintro(rfl|h2)
   ·exact h
   ·exact h2
 ·simp;exact Or.comm
mutual
theorem zdB:(d:Dt)->∀out x,x∈out->x∈zaA d out
 |.fv y,out,x,h=>by rw[zaA];exact(zfz y x out).2 (.inr h)
 |.bv _,out,x,h=>by rw[zaA];exact h
 |.mt _,out,x,h=>by rw[zaA];exact h
 |.con _ l,out,x,h=>by rw[zaA];exact zfA l out x h
 |.fn a b,out,x,h=>by rw[zaA];exact zdB b _ x (zdB a out x h)
 |.all t,out,x,h=>by rw[zaA];exact zdB t out x h
theorem zfA:(l:List Dt)->∀out x,x∈out->x∈zbg l out
 |[],out,x,h=>by rw[zbg];exact h
 |t::r,out,x,h=>by rw[zbg];exact zfA r _ x (zdB t out x h)
end
mutual
theorem zcP(but:List Name):(d:Dt)->∀out,(∀x∈zaA d out,x∈but)->FvIn but d
 |.fv y,out,h=>by rw[FvIn];exact h y (by rw[zaA];exact(zfz y y out).2 (.inl rfl))
 |.bv _,_,_=>by rw[FvIn];trivial
 |.mt _,_,_=>by rw[FvIn];trivial
 |.con _ l,out,h=>by rw[FvIn];exact zhZ but l out (by rw[zaA]at h;exact h)
 |.fn a b,out,h=>by
  rw[FvIn]
  rw[zaA]at h
  exact⟨zcP but a out (λx hx=>h x (zdB b _ x hx)),zcP but b _ h⟩
 |.all t,out,h=>by rw[FvIn];exact zcP but t out (by rw[zaA]at h;exact h)
theorem zhZ(but:List Name):(l:List Dt)->∀out,(∀x∈zbg l out,x∈but)->zfx but l
 |[],_,_=>by rw[zfx];trivial
 |t::r,out,h=>by
  rw[zfx]
  rw[zbg]at h
  exact⟨zcP but t out (λx hx=>h x (zfA r _ x hx)),zhZ but r _ h⟩
end
theorem zph(d:Dt):FvIn (zaA d []) d:=zcP _ d [] (λ_ h=>h)
mutual
theorem zbz(c:UInt8)(but:List Name):(d:Dt)->∀ys k,k+(zai d+1)*(but.length+1)<10 ^ 20->k<=(zan c but ys d k).2/\(zan c but ys d k).2<=k+zai d*(but.length+1)
 |.fv _,ys,k,_=>by rw[zan];simp[zai]
 |.bv _,ys,k,_=>by rw[zan];simp[zai]
 |.mt _,ys,k,_=>by rw[zan];simp[zai]
 |.con _ l,ys,k,h=>by rw[zan,zai];rw[zai]at h;exact zjo c but l ys k h
 |.fn a b,ys,k,h=>by
  rw[zan,zai]
  rw[zai]at h
  have e:(zai a+zai b+1)*(but.length+1)=zai a*(but.length+1)+(zai b+1)*(but.length+1):=by rw[<-Nat.add_mul,Nat.add_assoc]
  have e2:(zai a+zai b)*(but.length+1)=zai a*(but.length+1)+zai b*(but.length+1):=Nat.add_mul ..;have e3:(zai b+1)*(but.length+1)=zai b*(but.length+1)+(but.length+1):=by rw[Nat.add_mul,Nat.one_mul]
  have e4:(zai a+1)*(but.length+1)=zai a*(but.length+1)+(but.length+1):=by rw[Nat.add_mul,Nat.one_mul]
  obtain⟨a1,a2⟩:=zbz c but a ys k (by omega);obtain⟨b1,b2⟩:=zbz c but b ys (zan c but ys a k).2 (by omega);simp only;omega
 |.all t,ys,k,h=>by
  rw[zan,zai]
  rw[zai]at h
  have e4:(zai t+1+1)*(but.length+1)=zai t*(but.length+1)+(but.length+1)+(but.length+1):=by rw[Nat.add_mul,Nat.add_mul,Nat.one_mul]
  have e5:(zai t+1)*(but.length+1)=zai t*(but.length+1)+(but.length+1):=by rw[Nat.add_mul,Nat.one_mul]
  obtain⟨_,n1,n2⟩:=zaw c but k (by omega);obtain⟨a1,a2⟩:=zbz c but t (nm c (zal c but k)::ys) (zal c but k+1) (by omega);simp only;omega
theorem zjo(c:UInt8)(but:List Name):(l:List Dt)->∀ys k,k+(zaF l+1)*(but.length+1)<10 ^ 20->k<=(zaC c but ys l k).2/\(zaC c but ys l k).2<=k+zaF l*(but.length+1)
 |[],ys,k,_=>by rw[zaC];simp[zaF]
 |t::r,ys,k,h=>by
  rw[zaC,zaF]
  rw[zaF]at h
  have e:(zai t+zaF r+1)*(but.length+1)=zai t*(but.length+1)+(zaF r+1)*(but.length+1):=by rw[<-Nat.add_mul,Nat.add_assoc]
  have e2:(zai t+zaF r)*(but.length+1)=zai t*(but.length+1)+zaF r*(but.length+1):=Nat.add_mul ..;have e3:(zaF r+1)*(but.length+1)=zaF r*(but.length+1)+(but.length+1):=by rw[Nat.add_mul,Nat.one_mul]
  have e4:(zai t+1)*(but.length+1)=zai t*(but.length+1)+(but.length+1):=by rw[Nat.add_mul,Nat.one_mul]
  obtain⟨a1,a2⟩:=zbz c but t ys k (by omega);obtain⟨b1,b2⟩:=zjo c but r ys (zan c but ys t k).2 (by omega);simp only;omega
end
structure Given (c:UInt8) (but ys:List Name) (k:Nat):Prop where
 nodup:ys.Nodup
 made:∀y∈ys,∃j,j<k/\y=nm c j
 apart:∀y∈ys,y∉but
theorem Given.nil(c:UInt8)(but:List Name):Given c but [] 0:=⟨List.nodup_nil,λ_ h=>(List.not_mem_nil h).elim,λ_ h=>(List.not_mem_nil h).elim⟩
theorem Given.more {c:UInt8} {but ys:List Name} {k k':Nat}(h:Given c but ys k)(hk:k<=k'):Given c but ys k' :=
 ⟨h.nodup,λy hy=>by obtain⟨j,hj,e⟩:=h.made y hy;exact⟨j,by omega,e⟩,h.apart⟩
theorem Given.next {c:UInt8} {but ys:List Name} {k:Nat}(h:Given c but ys k)(hb:k+but.length+1<10 ^ 20):Given c but (nm c (zal c but k)::ys) (zal c but k+1):=by
 obtain⟨n0,n1,n2⟩:=zaw c but k hb;refine⟨?_,?_,?_⟩
 ·rw[List.nodup_cons]
  refine⟨λhm=>?_,h.nodup⟩;obtain⟨j,hj,e⟩:=h.made _ hm;have:=zk3 c _ _ (by omega) (by omega) e;omega
 ·intro y hy
  rcases List.mem_cons.1 hy with rfl|hy
  ·exact⟨_,by omega,rfl⟩
  ·obtain⟨j,hj,e⟩:=h.made y hy;exact⟨j,by omega,e⟩
 ·intro y hy
  rcases List.mem_cons.1 hy with rfl|hy
  ·exact n0
  ·exact h.apart y hy
mutual
theorem zdj(c:UInt8)(but:List Name):(d:Dt)->∀ys k,Given c but ys k->Clo ys.length d->FvIn but d->k+(zai d+1)*(but.length+1)<10 ^ 20->db ys (zan c but ys d k).1=d
 |.fv x,ys,k,g,_,hf,_=>by
  rw[zan,db]
  rw[FvIn]at hf
  rw[(zb8 x ys).2 (λhm=>g.apart x hm hf)]
 |.bv i,ys,k,g,hc,_,_=>by
  rw[zan,db]
  rw[Clo]at hc
  rw[zfy ys g.nodup i hc]
 |.mt n,ys,k,_,_,_,_=>by rw[zan,db]
 |.con d l,ys,k,g,hc,hf,hb=>by
  rw[zan,db]
  rw[Clo]at hc
  rw[FvIn]at hf
  rw[zai]at hb
  rw[zjq c but l ys k g hc hf hb]
 |.fn a b,ys,k,g,hc,hf,hb=>by
  rw[zan,db]
  rw[Clo]at hc
  rw[FvIn]at hf
  rw[zai]at hb
  have e:(zai a+zai b+1)*(but.length+1)=zai a*(but.length+1)+(zai b+1)*(but.length+1):=by rw[<-Nat.add_mul,Nat.add_assoc]
  have e3:(zai b+1)*(but.length+1)=zai b*(but.length+1)+(but.length+1):=by rw[Nat.add_mul,Nat.one_mul]
  have e4:(zai a+1)*(but.length+1)=zai a*(but.length+1)+(but.length+1):=by rw[Nat.add_mul,Nat.one_mul]
  obtain⟨a1,a2⟩:=zbz c but a ys k (by omega);rw[zdj c but a ys k g hc.1 hf.1 (by omega),zdj c but b ys _ (g.more a1) hc.2 hf.2 (by omega)]
 |.all t,ys,k,g,hc,hf,hb=>by
  rw[zan,db]
  rw[Clo]at hc
  rw[FvIn]at hf
  rw[zai]at hb
  have e4:(zai t+1+1)*(but.length+1)=zai t*(but.length+1)+(but.length+1)+(but.length+1):=by rw[Nat.add_mul,Nat.add_mul,Nat.one_mul]
  have e5:(zai t+1)*(but.length+1)=zai t*(but.length+1)+(but.length+1):=by rw[Nat.add_mul,Nat.one_mul]
  obtain⟨_,n1,n2⟩:=zaw c but k (by omega);rw[zdj c but t _ _ (g.next (by omega)) hc hf (by omega)]
theorem zjq(c:UInt8)(but:List Name):(l:List Dt)->∀ys k,Given c but ys k->CloL ys.length l->zfx but l->k+(zaF l+1)*(but.length+1)<10 ^ 20->dbL ys (zaC c but ys l k).1=l
 |[],ys,k,_,_,_,_=>by rw[zaC,dbL]
 |t::r,ys,k,g,hc,hf,hb=>by
  rw[zaC,dbL]
  rw[CloL]at hc
  rw[zfx]at hf
  rw[zaF]at hb
  have e:(zai t+zaF r+1)*(but.length+1)=zai t*(but.length+1)+(zaF r+1)*(but.length+1):=by rw[<-Nat.add_mul,Nat.add_assoc]
  have e3:(zaF r+1)*(but.length+1)=zaF r*(but.length+1)+(but.length+1):=by rw[Nat.add_mul,Nat.one_mul]
  have e4:(zai t+1)*(but.length+1)=zai t*(but.length+1)+(but.length+1):=by rw[Nat.add_mul,Nat.one_mul]
  obtain⟨a1,a2⟩:=zbz c but t ys k (by omega);rw[zdj c but t ys k g hc.1 hf.1 (by omega),zjq c but r ys _ (g.more a1) hc.2 hf.2 (by omega)]
end
def zh0(d:Dt):Ty:=(zan 120 (zaA d []) [] d 0).1
def Ty.canonT(t:Ty):Ty:=(numb 120 t.free [] [] t 0).1
theorem zci(t:Ty):t.canonT=zh0 (db [] t):=by
 unfold Ty.canonT zh0 Ty.free;rw[zbY,zbZ [] [] (λ_=>Iff.rfl)]
def Small(d:Dt):Prop:=(zai d+1)*((zaA d []).length+1)<10 ^ 15
theorem zjr(d:Dt)(hc:Clo 0 d)(hs:Small d):db [] (zh0 d)=d :=
 zdj 120 _ d [] 0 (Given.nil _ _) hc (zph d) (by unfold Small at hs;omega)
mutual
def NmD:Dt->Prop
 |.fv x=>Gd 1 x
 |.bv _=>True
 |.mt n=>n<=999999
 |.con c l=>Gd 2 c/\NmDL l
 |.fn a b=>NmD a/\NmD b
 |.all t=>NmD t
def NmDL:List Dt->Prop
 |[]=>True
 |t::r=>NmD t/\NmDL r
end
mutual
theorem zc0(env:List Name):(t:Ty)->Nm t->NmD (db env t)
 |.var x,h=>by
  cases h with
  |var _ hx =>
   rw[db]
   cases idx x env with
   |none=>rw[NmD];exact hx
   |some i=>rw[NmD];trivial
 |.mt n,h=>by cases h with|mt _ hn=>rw[db,NmD];exact hn
 |.con c l,h=>by cases h with|con _ _ hc hl=>rw[db,NmD];exact⟨hc,zpi env l hl⟩
 |.fn a b,h=>by cases h with|fn _ _ ha hb=>rw[db,NmD];exact⟨zc0 env a ha,zc0 env b hb⟩
 |.all x t,h=>by cases h with|all _ _ hx ht=>rw[db,NmD];exact zc0 (x::env) t ht
theorem zpi(env:List Name):(l:List Ty)->(∀t∈l,Nm t)->NmDL (dbL env l)
 |[],_=>by rw[dbL,NmDL];trivial
 |t::r,h=>by rw[dbL,NmDL];exact⟨zc0 env t (h t List.mem_cons_self),zpi env r (λu hu=>h u (List.mem_cons_of_mem _ hu))⟩
end
theorem znB(k:Nat)(h:k<10 ^ 15):Gd 1 (nm 120 k):=by
 have hl:(dec k).length<=15:=zbK 20 15 k h (by omega);have hd:∀d∈(120:UInt8)::dec k,inW d=true:=by
  intro d hd;rcases List.mem_cons.1 hd with rfl|hd
  ·decide
  ·simp[inW,zfF 20 k d hd]
 have hsp:=ze6 inW _ hd;refine⟨by simp[nm],?_,by omega⟩;unfold nm;rw[first,if_pos (by decide),word,hsp,if_neg (by simp;omega),List.take_length]
 have hk:wordKind (120::dec k)=1:=by
  unfold wordKind;rw[if_neg (by simp[keys]),if_neg (by simp only[List.headD_cons];decide)]
 rw[hk]
mutual
theorem zeg(but:List Name):(d:Dt)->∀ys k,NmD d->Clo ys.length d->(∀y∈ys,Gd 1 y)->k+(zai d+1)*(but.length+1)<10 ^ 15->Nm (zan 120 but ys d k).1
 |.fv x,ys,k,h,_,_,_=>by rw[zan];rw[NmD]at h;exact .var x h
 |.bv i,ys,k,_,hc,hy,_=>by
  rw[zan]
  rw[Clo]at hc
  exact .var _ (hy _ (zbT ys i hc))
 |.mt n,ys,k,h,_,_,_=>by rw[zan];rw[NmD]at h;exact .mt n h
 |.con c l,ys,k,h,hc,hy,hb=>by
  rw[zan]
  rw[NmD]at h
  rw[Clo]at hc
  rw[zai]at hb
  exact .con c _ h.1 (zjs but l ys k h.2 hc hy hb)
 |.fn a b,ys,k,h,hc,hy,hb=>by
  rw[zan]
  rw[NmD]at h
  rw[Clo]at hc
  rw[zai]at hb
  have e:(zai a+zai b+1)*(but.length+1)=zai a*(but.length+1)+(zai b+1)*(but.length+1):=by rw[<-Nat.add_mul,Nat.add_assoc]
  have e3:(zai b+1)*(but.length+1)=zai b*(but.length+1)+(but.length+1):=by rw[Nat.add_mul,Nat.one_mul]
  have e4:(zai a+1)*(but.length+1)=zai a*(but.length+1)+(but.length+1):=by rw[Nat.add_mul,Nat.one_mul]
  obtain⟨a1,a2⟩:=zbz 120 but a ys k (by omega);exact .fn _ _ (zeg but a ys k h.1 hc.1 hy (by omega)) (zeg but b ys _ h.2 hc.2 hy (by omega))
 |.all t,ys,k,h,hc,hy,hb=>by
  rw[zan]
  rw[NmD]at h
  rw[Clo]at hc
  rw[zai]at hb
  have e4:(zai t+1+1)*(but.length+1)=zai t*(but.length+1)+(but.length+1)+(but.length+1):=by rw[Nat.add_mul,Nat.add_mul,Nat.one_mul]
  have e5:(zai t+1)*(but.length+1)=zai t*(but.length+1)+(but.length+1):=by rw[Nat.add_mul,Nat.one_mul]
  obtain⟨_,n1,n2⟩:=zaw 120 but k (by omega);have hg:=znB (zal 120 but k) (by omega);refine .all _ _ hg (zeg but t _ _ h hc (λy hy2=>?_) (by omega));rcases List.mem_cons.1 hy2 with rfl|hy2
  ·exact hg
  ·exact hy y hy2
theorem zjs(but:List Name):(l:List Dt)->∀ys k,NmDL l->CloL ys.length l->(∀y∈ys,Gd 1 y)->k+(zaF l+1)*(but.length+1)<10 ^ 15->∀t∈(zaC 120 but ys l k).1,Nm t
 |[],ys,k,_,_,_,_=>by rw[zaC];intro t ht;cases ht
 |t::r,ys,k,h,hc,hy,hb=>by
  rw[zaC]
  rw[NmDL]at h
  rw[CloL]at hc
  rw[zaF]at hb
  have e:(zai t+zaF r+1)*(but.length+1)=zai t*(but.length+1)+(zaF r+1)*(but.length+1):=by rw[<-Nat.add_mul,Nat.add_assoc]
  have e3:(zaF r+1)*(but.length+1)=zaF r*(but.length+1)+(but.length+1):=by rw[Nat.add_mul,Nat.one_mul]
  have e4:(zai t+1)*(but.length+1)=zai t*(but.length+1)+(but.length+1):=by rw[Nat.add_mul,Nat.one_mul]
  obtain⟨a1,a2⟩:=zbz 120 but t ys k (by omega);intro u hu;rcases List.mem_cons.1 hu with rfl|hu
  ·exact zeg but t ys k h.1 hc.1 hy (by omega)
  ·exact zjs but r ys _ h.2 hc.2 hy (by omega) u hu
end
theorem zeC(d:Dt)(hn:NmD d)(hc:Clo 0 d)(hs:Small d):Nm (zh0 d) :=
 zeg _ d [] 0 hn hc (λ_ h=>(List.not_mem_nil h).elim) (by unfold Small at hs;omega)
mutual
theorem zbv(env:List Name):(t:Ty)->zai (db env t)<=t.size
 |.var x=>by rw[db];cases idx x env <;> simp[zai,Ty.size]
 |.mt n=>by rw[db];simp[zai,Ty.size]
 |.con c l=>by rw[db,zai,Ty.size];have:=zfJ env l;omega
 |.fn a b=>by rw[db,zai,Ty.size];have:=zbv env a;have:=zbv env b;omega
 |.all x t=>by rw[db,zai,Ty.size];have:=zbv (x::env) t;omega
theorem zfJ(env:List Name):(l:List Ty)->zaF (dbL env l)<=zab l
 |[]=>by rw[dbL];simp[zaF,zab]
 |t::r=>by rw[dbL,zaF,zab];have:=zbv env t;have:=zfJ env r;omega
end
theorem zk0(x:Name)(l:List Name):(addN x l).length<=l.length+1:=by
 unfold addN;split <;> simp
mutual
theorem zbJ(env:List Name):(t:Ty)->∀out,(zaA (db env t) out).length<=out.length+t.size
 |.var x,out=>by
  rw[db]
  cases idx x env with
  |none=>rw[zaA,Ty.size];exact zk0 x out
  |some i=>rw[zaA,Ty.size];omega
 |.mt n,out=>by rw[db,zaA];omega
 |.con c l,out=>by rw[db,zaA,Ty.size];have:=zfK env l out;omega
 |.fn a b,out=>by rw[db,zaA,Ty.size];have:=zbJ env a out;have:=zbJ env b (zaA (db env a) out);omega
 |.all x t,out=>by rw[db,zaA,Ty.size];have:=zbJ (x::env) t out;omega
theorem zfK(env:List Name):(l:List Ty)->∀out,(zbg (dbL env l) out).length<=out.length+zab l
 |[],out=>by rw[dbL,zbg,zab];omega
 |t::r,out=>by rw[dbL,zbg,zab];have:=zbJ env t out;have:=zfK env r (zaA (db env t) out);omega
end
theorem zdk(t:Ty)(h:t.size<=1000000):Small (db [] t):=by
 unfold Small;have h1:=zbv [] t;have h2:=zbJ [] t [];simp only[List.length_nil,Nat.zero_add]at h2;have:(zai (db [] t)+1)*((zaA (db [] t) []).length+1)<=1000001*1000001:=Nat.mul_le_mul (by omega) (by omega);omega
end Tx
namespace Tx
open Lx
mutual
def repD(f:Name->Dt)(g:Nat->Dt):Dt->Dt
 |.fv x=>f x
 |.bv i=>.bv i
 |.mt n=>g n
 |.con c l=>.con c (zax f g l)
 |.fn a b=>.fn (repD f g a) (repD f g b)
 |.all t=>.all (repD f g t)
def zax(f:Name->Dt)(g:Nat->Dt):List Dt->List Dt
 |[]=>[]
 |t::r=>repD f g t::zax f g r
end
mutual
def FvOcc(x:Name):Dt->Prop
 |.fv y=>x=y
 |.bv _=>False
 |.mt _=>False
 |.con _ l=>zaT x l
 |.fn a b=>FvOcc x a\/FvOcc x b
 |.all t=>FvOcc x t
def zaT(x:Name):List Dt->Prop
 |[]=>False
 |t::r=>FvOcc x t\/zaT x r
end
mutual
def MtOcc(n:Nat):Dt->Prop
 |.fv _=>False
 |.bv _=>False
 |.mt m=>n=m
 |.con _ l=>zck n l
 |.fn a b=>MtOcc n a\/MtOcc n b
 |.all t=>MtOcc n t
def zck(n:Nat):List Dt->Prop
 |[]=>False
 |t::r=>MtOcc n t\/zck n r
end
mutual
theorem zcR(x:Name):(d:Dt)->∀out,x∈zaA d out↔x∈out\/FvOcc x d
 |.fv y,out=>by rw[zaA,zfz,FvOcc];exact Or.comm
 |.bv _,out=>by rw[zaA,FvOcc];simp
 |.mt _,out=>by rw[zaA,FvOcc];simp
 |.con _ l,out=>by rw[zaA,FvOcc];exact zh1 x l out
 |.fn a b,out=>by rw[zaA,FvOcc,zcR x b,zcR x a,or_assoc]
 |.all t,out=>by rw[zaA,FvOcc];exact zcR x t out
theorem zh1(x:Name):(l:List Dt)->∀out,x∈zbg l out↔x∈out\/zaT x l
 |[],out=>by rw[zbg,zaT];simp
 |t::r,out=>by rw[zbg,zaT,zh1 x r,zcR x t,or_assoc]
end
theorem zqZ(x y:Nat)(l:List Nat):y∈addN x l↔y=x\/y∈l:=by
 unfold addN;split
 ·rename_i h
  constructor
  ·exact .inr
  ·rintro(rfl|h2)
   ·exact h
   ·exact h2
 ·simp;exact Or.comm
mutual
theorem zc1(n:Nat):(d:Dt)->∀out,n∈zbw d out↔n∈out\/MtOcc n d
 |.fv y,out=>by rw[zbw,MtOcc];simp
 |.bv _,out=>by rw[zbw,MtOcc];simp
 |.mt m,out=>by rw[zbw,zqZ,MtOcc];exact Or.comm
 |.con _ l,out=>by rw[zbw,MtOcc];exact zgR n l out
 |.fn a b,out=>by rw[zbw,MtOcc,zc1 n b,zc1 n a,or_assoc]
 |.all t,out=>by rw[zbw,MtOcc];exact zc1 n t out
theorem zgR(n:Nat):(l:List Dt)->∀out,n∈zcQ l out↔n∈out\/zck n l
 |[],out=>by rw[zcQ,zck];simp
 |t::r,out=>by rw[zcQ,zck,zgR n r,zc1 n t,or_assoc]
end
mutual
theorem zdZ(f:Name->Dt)(g:Nat->Dt):(d:Dt)->(∀x,FvOcc x d->f x=.fv x)->(∀n,MtOcc n d->g n=.mt n)->repD f g d=d
 |.fv x,hf,_=>by rw[repD];exact hf x (by rw[FvOcc])
 |.bv _,_,_=>by rw[repD]
 |.mt n,_,hg=>by rw[repD];exact hg n (by rw[MtOcc])
 |.con c l,hf,hg=>by rw[repD,zk4 f g l (λx h=>hf x (by rw[FvOcc];exact h)) (λn h=>hg n (by rw[MtOcc];exact h))]
 |.fn a b,hf,hg=>by
  rw[repD,zdZ f g a (λx h=>hf x (by rw[FvOcc];exact .inl h)) (λn h=>hg n (by rw[MtOcc];exact .inl h)),
   zdZ f g b (λx h=>hf x (by rw[FvOcc];exact .inr h)) (λn h=>hg n (by rw[MtOcc];exact .inr h))]
 |.all t,hf,hg=>by rw[repD,zdZ f g t (λx h=>hf x (by rw[FvOcc];exact h)) (λn h=>hg n (by rw[MtOcc];exact h))]
theorem zk4(f:Name->Dt)(g:Nat->Dt):(l:List Dt)->(∀x,zaT x l->f x=.fv x)->(∀n,zck n l->g n=.mt n)->zax f g l=l
 |[],_,_=>by rw[zax]
 |t::r,hf,hg=>by
  rw[zax,zdZ f g t (λx h=>hf x (by rw[zaT];exact .inl h)) (λn h=>hg n (by rw[zck];exact .inl h)),
   zk4 f g r (λx h=>hf x (by rw[zaT];exact .inr h)) (λn h=>hg n (by rw[zck];exact .inr h))]
end
mutual
theorem zcS(f f':Name->Dt)(g g':Nat->Dt):(d:Dt)->repD f g (repD f' g' d)=repD (λx=>repD f g (f' x)) (λn=>repD f g (g' n)) d
 |.fv x=>by rw[repD,repD]
 |.bv _=>by rw[repD,repD,repD]
 |.mt n=>by rw[repD,repD]
 |.con c l=>by rw[repD,repD,repD,zh2 f f' g g' l]
 |.fn a b=>by rw[repD,repD,repD,zcS f f' g g' a,zcS f f' g g' b]
 |.all t=>by rw[repD,repD,repD,zcS f f' g g' t]
theorem zh2(f f':Name->Dt)(g g':Nat->Dt):(l:List Dt)->zax f g (zax f' g' l)=zax (λx=>repD f g (f' x)) (λn=>repD f g (g' n)) l
 |[]=>by rw[zax,zax,zax]
 |t::r=>by rw[zax,zax,zax,zcS f f' g g' t,zh2 f f' g g' r]
end
def sub(a:Name)(U:Dt)(x:Name):Dt:=if x=a then U else .fv x
def subD(a:Name)(U:Dt)(d:Dt):Dt:=repD (sub a U) .mt d
theorem zpl(a:Name)(U d:Dt)(h:¬FvOcc a d):subD a U d=d :=
 zdZ _ _ d (λx hx=>by unfold sub;rw[if_neg];rintro rfl;exact h hx) (λ_ _=>rfl)
theorem zsa(x:Name)(l m:List Name)(h:x∉m):idx x (l++m)=idx x l:=by
 induction l with
 |nil=>exact(zb8 x m).2 h
 |cons y r ih=>rw[List.cons_append,idx,idx,ih]
mutual
theorem zgj(env:List Name):(u:Ty)->∀loc,(∀x,FvOcc x (db loc u)->x∉env)->db (loc++env) u=db loc u
 |.var x,loc,h=>by
  rw[db,db]
  cases hi:idx x loc with
  |none =>
   have hx:x∉env:=h x (by rw[db,hi,FvOcc]);rw[zsa x loc env hx,hi]
  |some i =>
   have key:∀(l:List Name) (i:Nat),idx x l=some i->idx x (l++env)=some i:=by
    intro l;induction l with
    |nil=>intro i h;simp[idx]at h
    |cons y r ih =>
     intro i h;rw[List.cons_append,idx]
     rw[idx]at h
     by_cases e:x=y
     ·rw[if_pos e]at h ⊢;exact h
     ·rw[if_neg e]at h ⊢
      cases hr:idx x r with
      |none=>rw[hr]at h;cases h
      |some j=>rw[hr]at h;rw[ih j hr];exact h
   rw[key loc i hi]
 |.mt n,loc,_=>by rw[db,db]
 |.con c l,loc,h=>by rw[db,db,zmd env l loc (λx hx=>h x (by rw[db,FvOcc];exact hx))]
 |.fn a b,loc,h=>by
  rw[db,db,zgj env a loc (λx hx=>h x (by rw[db,FvOcc];exact .inl hx)),zgj env b loc (λx hx=>h x (by rw[db,FvOcc];exact .inr hx))]
 |.all x t,loc,h=>by
  rw[db,db]
  have:=zgj env t (x::loc) (λy hy=>h y (by rw[db,FvOcc];exact hy));rw[List.cons_append]at this
  rw[this]
theorem zmd(env:List Name):(l:List Ty)->∀loc,(∀x,zaT x (dbL loc l)->x∉env)->dbL (loc++env) l=dbL loc l
 |[],loc,_=>by rw[dbL,dbL]
 |t::r,loc,h=>by
  rw[dbL,dbL,zgj env t loc (λx hx=>h x (by rw[dbL,zaT];exact .inl hx)),zmd env r loc (λx hx=>h x (by rw[dbL,zaT];exact .inr hx))]
end
theorem zfC(env:List Name)(u:Ty)(h:∀x,FvOcc x (db [] u)->x∉env):db env u=db [] u:=zgj env u [] h
structure Put (S:List Name) (f:Name->Ty) (g:Nat->Ty):Prop where
 same:∀x,x∉S->f x=.var x
 here:∀x,x∈S->∀y,FvOcc y (db [] (f x))->y∈S
 zbl:∀n y,FvOcc y (db [] (g n))->y∈S
end Tx
end Go.Proofs.YtaomnlcplmkokaaGreatDoor
namespace Go.Proofs.YtaomnlcplmkokaaGreatDoor
open Go.RowKit Lx Tx
def kd:Ty->Nat
 |.var _=>1
 |.mt _=>2
 |.con _ _=>3
 |.fn _ _=>4
 |.all _ _=>5
def nmB:Ty->ByteArray
 |.var x=>⟨x.toArray⟩
 |.mt _=>⟨#[]⟩
 |.con c _=>⟨c.toArray⟩
 |.fn _ _=>⟨#[]⟩
 |.all x _=>⟨x.toArray⟩
def nn:Ty->Nat
 |.mt n=>n
 |_=>0
def kids:Ty->List Ty
 |.var _=>[]
 |.mt _=>[]
 |.con _ l=>l
 |.fn a b=>[a,b]
 |.all _ t=>[t]
def Cell4(w:World)(t:Ty)(A:Option Addr)(cap:Nat)(g o:Nat):Prop :=
 w.cell? ⟨g,o,none⟩=some (.int .i64 (kd t:Nat))/\w.cell? ⟨g,o+1,none⟩=some (.string (nmB t))/\w.cell? ⟨g,o+2,none⟩=some (.int .i64 (nn t:Nat)) /\
  w.cell? ⟨g,o+3,none⟩=some (.slice A (kids t).length cap)
mutual
def Args(S:Nat->Prop)(w:World):Ty->Option Addr->Prop
 |.var _,_=>True
 |.mt _,_=>True
 |.con _ l,A=>l≠[]->∃g,A=some ⟨g,0,none⟩/\S g/\RowT S w l g 0
 |.fn a b,A=>∃g,A=some ⟨g,0,none⟩/\S g/\(∃A1 c1,Cell4 w a A1 c1 g 0/\Args S w a A1)/\(∃A2 c2,Cell4 w b A2 c2 g 4/\Args S w b A2)
 |.all _ t,A=>∃g,A=some ⟨g,0,none⟩/\S g/\∃A1 c1,Cell4 w t A1 c1 g 0/\Args S w t A1
def RowT(S:Nat->Prop)(w:World):List Ty->Nat->Nat->Prop
 |[],_,_=>True
 |t::r,g,o=>(∃A c,Cell4 w t A c g o/\Args S w t A)/\RowT S w r g (o+4)
end
def RdV(S:Nat->Prop)(w:World)(t:Ty)(v:Value):Prop :=
 ∃A c,v=.agg #[.int .i64 (kd t:Nat),.string (nmB t),.int .i64 (nn t:Nat),.slice A (kids t).length c]/\Args S w t A
theorem zcj(S:Nat->Prop)(w:World)(t:Ty)(A:Option Addr):Args S w t A↔(kids t≠[]->∃g,A=some ⟨g,0,none⟩/\S g/\RowT S w (kids t) g 0):=by
 cases t with
 |var x=>rw[Args,kids];simp
 |mt n=>rw[Args,kids];simp
 |con c l=>rw[Args,kids]
 |fn a b =>
  rw[Args,kids]
  constructor
  ·rintro⟨g,h1,h2,h3,h4⟩ _
   exact⟨g,h1,h2,by rw[RowT,RowT,RowT];exact⟨h3,h4,trivial⟩⟩
  ·intro h
   obtain⟨g,h1,h2,h3⟩:=h (by simp);rw[RowT,RowT,RowT]at h3
   exact⟨g,h1,h2,h3.1,h3.2.1⟩
 |all x t =>
  rw[Args,kids]
  constructor
  ·rintro⟨g,h1,h2,h3⟩ _
   exact⟨g,h1,h2,by rw[RowT,RowT];exact⟨h3,trivial⟩⟩
  ·intro h
   obtain⟨g,h1,h2,h3⟩:=h (by simp);rw[RowT,RowT]at h3
   exact⟨g,h1,h2,h3.1⟩
theorem Cell4.keep {w w':World} {t:Ty} {A:Option Addr} {c g o:Nat}(h:Cell4 w t A c g o)(hk:w'.heap[g]?=w.heap[g]?):Cell4 w' t A c g o:=by
 have e:∀i,w'.cell? ⟨g,i,none⟩=w.cell? ⟨g,i,none⟩:=λi=>World.cell?_of_block (w:=w) (a:=⟨g,i,none⟩) hk;exact⟨(e _).trans h.1,(e _).trans h.2.1,(e _).trans h.2.2.1,(e _).trans h.2.2.2⟩
mutual
theorem Args.keep {S S':Nat->Prop} {w w':World}(hS:∀g,S g->S' g)(hk:∀g,S g->w'.heap[g]?=w.heap[g]?):(t:Ty)->∀A,Args S w t A->Args S' w' t A
 |.var x,A,_=>by rw[Args];trivial
 |.mt n,A,_=>by rw[Args];trivial
 |.con c l,A,h=>by
  rw[Args]at h ⊢
  intro hl;obtain⟨g,h1,h2,h3⟩:=h hl;exact⟨g,h1,hS g h2,RowT.keep hS hk l g 0 (hk g h2) h3⟩
 |.fn a b,A,h=>by
  rw[Args]at h ⊢
  obtain⟨g,h1,h2,⟨A1,c1,h3,h4⟩,⟨A2,c2,h5,h6⟩⟩:=h;exact⟨g,h1,hS g h2,⟨A1,c1,h3.keep (hk g h2),Args.keep hS hk a A1 h4⟩,⟨A2,c2,h5.keep (hk g h2),Args.keep hS hk b A2 h6⟩⟩
 |.all x t,A,h=>by
  rw[Args]at h ⊢
  obtain⟨g,h1,h2,A1,c1,h3,h4⟩:=h;exact⟨g,h1,hS g h2,A1,c1,h3.keep (hk g h2),Args.keep hS hk t A1 h4⟩
theorem RowT.keep {S S':Nat->Prop} {w w':World}(hS:∀g,S g->S' g)(hk:∀g,S g->w'.heap[g]?=w.heap[g]?):(l:List Ty)->∀g o,w'.heap[g]?=w.heap[g]?->RowT S w l g o->RowT S' w' l g o
 |[],_,_,_,_=>by rw[RowT];trivial
 |t::r,g,o,hg,h=>by
  rw[RowT]at h ⊢
  obtain⟨⟨A,c,h1,h2⟩,h3⟩:=h;exact⟨⟨A,c,h1.keep hg,Args.keep hS hk t A h2⟩,RowT.keep hS hk r g (o+4) hg h3⟩
end
theorem RdV.keep {S S':Nat->Prop} {w w':World} {t:Ty} {v:Value}(h:RdV S w t v)(hS:∀g,S g->S' g)(hk:∀g,S g->w'.heap[g]?=w.heap[g]?):RdV S' w' t v:=by
 obtain⟨A,c,rfl,ha⟩:=h;exact⟨A,c,rfl,Args.keep hS hk t A ha⟩
theorem RowT.at_ {S:Nat->Prop} {w:World} :(l:List Ty)->∀g o i (hi:i<l.length),RowT S w l g o->∃A c,Cell4 w l[i] A c g (o+i*4)/\Args S w l[i] A
 |[],_,_,i,hi,_=>absurd hi (by simp)
 |t::r,g,o,0,_,h=>by rw[RowT]at h;simpa using h.1
 |t::r,g,o,i+1,hi,h=>by
  rw[RowT]at h
  have:=RowT.at_ r g (o+4) i (by simpa using hi) h.2;rw[show o+4+i*4=o+(i+1)*4 by omega]at this
  simpa using this
theorem Args.kid {S:Nat->Prop} {w:World} {t:Ty} {A:Option Addr}(h:Args S w t A)(i:Nat)(hi:i<(kids t).length):∃g,A=some ⟨g,0,none⟩/\S g/\∃A1 c1,Cell4 w (kids t)[i] A1 c1 g (i*4)/\Args S w (kids t)[i] A1:=by
 obtain⟨g,h1,h2,h3⟩:=(zcj S w t A).1 h (by intro e;rw[e]at hi;simp at hi);have:=RowT.at_ _ g 0 i hi h3;rw[Nat.zero_add]at this
 exact⟨g,h1,h2,this⟩
def tyV(t:Ty)(A:Option Addr)(c:Nat):List Value:=[.int .i64 (kd t:Nat),.string (nmB t),.int .i64 (nn t:Nat),.slice A (kids t).length c]
theorem RowT.snoc {S:Nat->Prop} {w:World} :(l:List Ty)->∀g o t A c,RowT S w l g o->Cell4 w t A c g (o+l.length*4)->Args S w t A->RowT S w (l++[t]) g o
 |[],g,o,t,A,c,_,h2,h3=>by rw[List.nil_append,RowT,RowT];exact⟨⟨A,c,by simpa using h2,h3⟩,trivial⟩
 |u::r,g,o,t,A,c,h1,h2,h3=>by
  rw[RowT]at h1
  rw[List.cons_append,RowT]
  refine⟨h1.1,RowT.snoc r g (o+4) t A c h1.2 ?_ h3⟩;rw[show o+4+r.length*4=o+(u::r).length*4 by simp;omega]
  exact h2
def TyRow(S:Nat->Prop)(w:World):List Ty->List Value->Prop
 |[],vs=>vs=[]
 |t::r,vs=>∃A c rest,vs=tyV t A c++rest/\Args S w t A/\TyRow S w r rest
theorem TyRow.len {S:Nat->Prop} {w:World} :(l:List Ty)->∀vs,TyRow S w l vs->vs.length=l.length*4
 |[],vs,h=>by rw[TyRow]at h;simp[h]
 |t::r,vs,h=>by
  rw[TyRow]at h
  obtain⟨A,c,rest,rfl,_,h⟩:=h;have:=TyRow.len r rest h;simp[tyV,this];omega
theorem TyRow.snoc {S:Nat->Prop} {w:World} {t:Ty} {A:Option Addr}(c:Nat)(ha:Args S w t A):(l:List Ty)->∀vs,TyRow S w l vs->TyRow S w (l++[t]) (vs++tyV t A c)
 |[],vs,h=>by
  rw[TyRow]at h
  rw[List.nil_append,TyRow]
  exact⟨A,c,[],by simp[h],ha,by rw[TyRow]⟩
 |u::r,vs,h=>by
  rw[TyRow]at h
  obtain⟨A',c',rest,rfl,h1,h2⟩:=h;rw[List.cons_append,TyRow]
  exact⟨A',c',rest++tyV t A c,by simp,h1,TyRow.snoc c ha r rest h2⟩
theorem TyRow.keep {S S':Nat->Prop} {w w':World}(hS:∀g,S g->S' g)(hk:∀g,S g->w'.heap[g]?=w.heap[g]?):(l:List Ty)->∀vs,TyRow S w l vs->TyRow S' w' l vs
 |[],vs,h=>by rw[TyRow]at h ⊢;exact h
 |t::r,vs,h=>by
  rw[TyRow]at h ⊢
  obtain⟨A,c,rest,e,h1,h2⟩:=h;exact⟨A,c,rest,e,Args.keep hS hk t A h1,TyRow.keep hS hk r rest h2⟩
theorem TyRow.row {S:Nat->Prop} {w:World} {g:Nat} :(l:List Ty)->∀vs o,TyRow S w l vs->(∀j u,vs[j]?=some u->w.cell? ⟨g,o+j,none⟩=some u)->RowT S w l g o
 |[],_,_,_,_=>by rw[RowT];trivial
 |t::r,vs,o,h,hc=>by
  rw[TyRow]at h
  obtain⟨A,c,rest,rfl,h1,h2⟩:=h;rw[RowT]
  refine⟨⟨A,c,⟨hc 0 _ rfl,hc 1 _ rfl,hc 2 _ rfl,hc 3 _ rfl⟩,h1⟩,TyRow.row r rest (o+4) h2 λj u hu=>?_⟩;rw[show o+4+j=o+(4+j) by omega]
  exact hc (4+j) u (by rw[List.getElem?_append_right (by simp[tyV])];simpa[tyV] using hu)
theorem own_below {w w':World} {B e size n:Nat} {v:Value} {xs:List Value}(h:w.ownsRow B e size v n xs)(hb:Below w.heap.size w w'):w'.ownsRow B e size v n xs:=by
 refine⟨h.1,?_⟩;rcases h.2 with hn|⟨g,cap,cur,rfl,hg,hgg,rest⟩
 ·exact .inl hn
 ·exact .inr ⟨g,cap,cur,rfl,hg,by rw[hb.block g (Array.getElem?_eq_some_iff.1 hgg).1];exact hgg,rest⟩
def Built(T:Nat->Prop)(B:Nat)(e:TypeId)(w:World)(l:List Ty)(v:Value):Prop :=
 ∃vs,w.ownsRow B e 4 v l.length vs/\TyRow (λg=>(T g\/B<=g/\g<w.heap.size)/\some g≠v.ownBlock) w l vs
theorem Built.nil(T:Nat->Prop)(B:Nat)(e:TypeId)(w:World):Built T B e w [] (.slice none 0 0):=⟨[],World.ownsRow_nil _ _ _ _,by rw[TyRow]⟩
theorem Built.below {T:Nat->Prop} {B:Nat} {e:TypeId} {w w':World} {l:List Ty} {v:Value}(h:Built T B e w l v)(hT:∀g,T g->g<w.heap.size)(hb:Below w.heap.size w w'):Built T B e w' l v:=by
 obtain⟨vs,h1,h2⟩:=h;refine⟨vs,own_below h1 hb,TyRow.keep ?_ ?_ l vs h2⟩
 ·rintro g ⟨h|h,h3⟩
  ·exact⟨.inl h,h3⟩
  ·exact⟨.inr ⟨h.1,Nat.lt_of_lt_of_le h.2 hb.size⟩,h3⟩
 ·rintro g ⟨h|h,h3⟩
  ·exact hb.block g (hT g h)
  ·exact hb.block g h.2
theorem Built.snoc {T:Nat->Prop} {B:Nat} {e:TypeId} {w w':World} {l:List Ty} {t:Ty} {v v':Value} {A:Option Addr} {c:Nat} {vs:List Value}
  (hT:∀g,T g->g<B)(hB:B<=w.heap.size)(hrow:TyRow (λg=>(T g\/B<=g/\g<w.heap.size)/\some g≠v.ownBlock) w l vs)
  (ha:Args (λg=>(T g\/B<=g/\g<w.heap.size)/\some g≠v.ownBlock) w t A)
  (hown:w'.ownsRow B e 4 v' (l.length+1) (vs++tyV t A c))(hg:w.grownBy w' v.ownBlock)(hat:v'.ownBlock=v.ownBlock\/v'.ownBlock=some w.heap.size):Built T B e w' (l++[t]) v':=by
 have hsz:w.heap.size<=w'.heap.size:=hg.size;have hk:∀g,((T g\/B<=g/\g<w.heap.size)/\some g≠v.ownBlock)->w'.heap[g]?=w.heap[g]?:=λg h=>hg.block g (by rcases h.1 with h1|h1;have:=hT g h1;omega;exact h1.2) h.2;have hS:∀g,((T g\/B<=g/\g<w.heap.size)/\some g≠v.ownBlock)->((T g\/B<=g/\g<w'.heap.size)/\some g≠v'.ownBlock):=by
  rintro g ⟨h1,h2⟩;have hlt:g<w.heap.size:=by rcases h1 with h1|h1;have:=hT g h1;omega;exact h1.2
  refine⟨?_,?_⟩
  ·rcases h1 with h1|h1
   ·exact .inl h1
   ·exact .inr ⟨h1.1,by omega⟩
  ·rcases hat with h|h
   ·rw[h];exact h2
   ·rw[h];intro e;injection e with e;omega
 refine⟨vs++tyV t A c,by rw[List.length_append];exact hown,TyRow.snoc c (Args.keep hS hk t A ha) l vs (TyRow.keep hS hk l vs hrow)⟩
theorem Built.next {T:Nat->Prop} {B:Nat} {e:TypeId} {w w1 w2 w3:World} {l:List Ty} {x:Ty} {v v':Value} {vs:List Value} {k z:Int} {s:ByteArray} {A:Option Addr} {m c:Nat}
  (hT:∀g,T g->g<B)(hB:B<=w.heap.size)(hown:w.ownsRow B e 4 v l.length vs)(hrow:TyRow (λg=>(T g\/B<=g/\g<w.heap.size)/\some g≠v.ownBlock) w l vs)
  (b1:Below w.heap.size w w1)(hr:RdV (λg=>T g\/w.heap.size<=g/\g<w1.heap.size) w1 x (.agg #[.int .i64 k,.string s,.int .i64 z,.slice A m c]))(b2:Below w1.heap.size w1 w2)
  (ho:w3.ownsRow B e 4 v' (l.length+1) (vs++[.int .i64 k,.string s,.int .i64 z,.slice A m c]))(hg:w2.grownBy w3 v.ownBlock)(hat:v'.ownBlock=v.ownBlock\/v'.ownBlock=some w2.heap.size):Built T B e w3 (l++[x]) v':=by
 obtain⟨A',c',hv,ha⟩:=hr;injection hv with hv;have hv:=congrArg Array.toList hv;simp only[List.cons.injEq,Value.int.injEq,Value.string.injEq,Value.slice.injEq,and_true,true_and]at hv;obtain⟨rfl,rfl,rfl,rfl,rfl,rfl⟩:=hv;have hlt:=hown.lt;have s1:=b1.size;have s2:=b2.size;have b12:Below w.heap.size w w2:=b1.trans (b2.mono s1);refine Built.snoc (w:=w2) (c:=c) hT (by omega) (TyRow.keep (λg h=>?_) (λg h=>?_) l vs hrow) (Args.keep (λg h=>?_) (λg h=>?_) x A ha) ho hg hat
 ·refine⟨?_,h.2⟩
  rcases h.1 with h1|h1
  ·exact .inl h1
  ·exact .inr ⟨h1.1,by omega⟩
 ·exact b12.block g (by rcases h.1 with h1|h1;have:=hT g h1;omega;exact h1.2)
 ·rcases h with h1|h1
  ·refine⟨.inl h1,λe=>?_⟩
   have:=hlt _ e.symm;have:=hT g h1;omega
  ·refine⟨.inr ⟨by omega,by omega⟩,λe=>?_⟩
   have:=hlt _ e.symm;omega
 ·exact b2.block g (by rcases h with h1|h1;have:=hT g h1;omega;exact h1.2)
theorem Built.setCell {T:Nat->Prop} {B:Nat} {e:TypeId} {w:World} {l:List Ty} {v:Value}(h:Built T B e w l v) {p:Addr}(u:Value)(hp:p.block<B)(hT:¬T p.block):Built T B e (w.setCell p u) l v:=by
 obtain⟨vs,h1,h2⟩:=h;have hlt:=h1.lt;have k1:∀g,(T g\/B<=g/\g<w.heap.size)/\some g≠v.ownBlock->(T g\/B<=g/\g<(w.setCell p u).heap.size)/\some g≠v.ownBlock:=by
  rintro g ⟨h3|h3,h4⟩
  ·exact⟨.inl h3,h4⟩
  ·exact⟨.inr ⟨h3.1,by simpa using h3.2⟩,h4⟩
 have k2:∀g,(T g\/B<=g/\g<w.heap.size)/\some g≠v.ownBlock->(w.setCell p u).heap[g]?=w.heap[g]?:=by
  rintro g ⟨h3,_⟩;refine Below.heap_setCell w p u g λe=>?_;rcases h3 with h3|h3
  ·exact hT (e▸h3)
  ·omega
 exact⟨vs,ownsRow_setCell_other h1 (λe=>by have:=hlt _ e;omega) u,TyRow.keep k1 k2 l vs h2⟩
theorem Built.args {T:Nat->Prop} {B:Nat} {e:TypeId} {w:World} {t:Ty} {A:Option Addr} {n c:Nat}(h:Built T B e w (kids t) (.slice A n c)):n=(kids t).length/\Args (λg=>T g\/B<=g/\g<w.heap.size) w t A:=by
 obtain⟨vs,h1,h2⟩:=h;have hc:=λg hg=>h1.cells (g:=g) hg;have hlt:=h1.lt;have hlen:=h2.len;rcases h1.2 with⟨h3,h0⟩|⟨g,cap,cur,h3,_⟩
 ·injection h3 with e1 e2 e3
  subst e1 e2 e3;have hk:kids t=[]:=by cases hk:kids t with|nil=>rfl|cons a b=>rw[hk]at h0;simp at h0
  exact⟨by rw[hk];rfl,(zcj _ _ _ _).2 λh=>absurd hk h⟩
 ·injection h3 with e1 e2 e3
  subst e1 e2 e3;refine⟨rfl,(zcj _ _ _ _).2 λh=>⟨g,rfl,.inr ⟨(hlt g rfl).1,(hlt g rfl).2⟩,RowT.keep (λ_ h=>h) (λ_ _=>rfl) _ _ _ rfl (TyRow.row (kids t) vs 0 (TyRow.keep (λ_ h=>h.1) (λ_ _=>rfl) _ _ h2) λj u hu=>?_)⟩⟩;have hadd:(⟨g,0,none⟩:Addr).add j=⟨g,j,none⟩:=by unfold Addr.add;split <;> simp_all
  have:=hc g rfl j u hu;rw[hadd]at this
  rw[Nat.zero_add];exact this
def RowV(w:World)(v:Value)(l:List Value):Prop :=
 ∃A c,v=.slice A l.length c/\(0<l.length->∃g,A=some ⟨g,0,none⟩/\g<w.heap.size/\∀j u,l[j]?=some u->w.cell? ⟨g,j,none⟩=some u)
theorem RowV.of_own {w:World} {base n:Nat} {v:Value} {l:List Value} {e:TypeId}(h:w.ownsRow base e 1 v n l):RowV w v l:=by
 have hc:=λg hg=>h.cells (g:=g) hg;have hlt:=h.lt;have hl:=h.1;rcases h.2 with⟨rfl,h0⟩|⟨g,cap,cur,rfl,_⟩
 ·exact⟨none,0,by rw[hl,h0],λhp=>by omega⟩
 ·refine⟨_,_,by rw[hl,Nat.mul_one],λ_=>⟨g,rfl,(hlt g rfl).2,λj u hu=>?_⟩⟩
  have hadd:(⟨g,0,none⟩:Addr).add j=⟨g,j,none⟩:=by unfold Addr.add;split <;> simp_all
  have:=hc g rfl j u hu;rwa [hadd]at this
theorem RowV.keep {w w':World} {v:Value} {l:List Value}(h:RowV w v l)(hs:w.heap.size<=w'.heap.size)(hk:∀k,k<w.heap.size->w'.heap[k]?=w.heap[k]?):RowV w' v l:=by
 obtain⟨A,c,hv,hp⟩:=h;refine⟨A,c,hv,λh0=>?_⟩;obtain⟨g,hA,hg,hc⟩:=hp h0;exact⟨g,hA,by omega,λj u hu=>by rw[World.cell?_of_block (w:=w) (hk g hg)];exact hc j u hu⟩
theorem RowV.below {w w':World} {v:Value} {l:List Value}(h:RowV w v l)(hb:Below w.heap.size w w'):RowV w' v l:=h.keep hb.size hb.block
def strV(l:List (List UInt8)):List Value:=l.map λx=>.string ⟨x.toArray⟩
def intV(l:List Nat):List Value:=l.map λn=>.int .i64 (n:Nat)
end Go.Proofs.YtaomnlcplmkokaaGreatDoor
