/-
  Contracts of the code's functions, part 4.
-/
import Derived.Test.YtknkclefoiohpaaGreatDoorKbC
import Derived.IntWalk
import Derived.Laws.Rows
namespace Go.Proofs.YtknkclefoiohpaaGreatDoor
open Go.RowKit Lx
set_option maxRecDepth 100000
theorem reader_any(s:ByteArray)(w:World) :
  Calls Tryz.prog 124 #[.string s] w λe w'=>e=.returned (.func (.func 157) #[] #[.pointer (some ⟨w.heap.size+1,0,none⟩),.pointer (some ⟨w.heap.size,0,none⟩)]) /\
   w'=(w.alloc (.cells #[.string s] 9)).alloc (.cells #[.int .i64 0] 3):=by
 have hmf:∀(fn:Fn) (first cap:Array Value) (w:World),(Instr.makeFunc fn first cap).run Tryz.prog w=.ok (.func fn first cap) w:=λ_ _ _ _=>rfl
 go_enter Tryz.func124,Tryz.ntmps124
 go_wp2
 go_ret
 exact⟨rfl,rfl⟩
theorem next_world(w:World)(ba nq:Nat)(t3 t30:TypeId)(x u v0 v1 v2 z0 z1 z2:Value)(ha:w.heap[ba]? = some (.cells #[x] t3 (0,0))) :
  (((((((w.alloc (.cells #[z0,z1,z2] t30)).drewN nq).setCell ⟨ba,0,none⟩ u).setCell ⟨w.heap.size,0,none⟩ v0).setCell ⟨w.heap.size,1,none⟩ v1).setCell ⟨w.heap.size,2,none⟩ v2).heap[w.heap.size]? = some (.cells #[v0,v1,v2] t30 (0,0))) /\
  (((((((w.alloc (.cells #[z0,z1,z2] t30)).drewN nq).setCell ⟨ba,0,none⟩ u).setCell ⟨w.heap.size,0,none⟩ v0).setCell ⟨w.heap.size,1,none⟩ v1).setCell ⟨w.heap.size,2,none⟩ v2).heap[ba]? = some (.cells #[u] t3 (0,0))) /\
  w.grownBy ((((((w.alloc (.cells #[z0,z1,z2] t30)).drewN nq).setCell ⟨ba,0,none⟩ u).setCell ⟨w.heap.size,0,none⟩ v0).setCell ⟨w.heap.size,1,none⟩ v1).setCell ⟨w.heap.size,2,none⟩ v2) (some ba):=by
 have hlt:=lt_of_block ha
 have n0:((w.alloc (.cells #[z0,z1,z2] t30)).drewN nq).heap[w.heap.size]? = some (.cells #[z0,z1,z2] t30 (0,0)):=heap_alloc_new w _
 have a0:((w.alloc (.cells #[z0,z1,z2] t30)).drewN nq).heap[ba]? = some (.cells #[x] t3 (0,0)):=(Below.heap_alloc w _ ba hlt).trans ha
 have n1:=(heap_setCell_other _ ⟨ba,0,none⟩ w.heap.size u (by simp;omega)).trans n0
 have a1:=one_setCell (u:=u) a0
 have n2:=heap_setCell_same _ w.heap.size 0 _ t30 v0 n1
 have a2:=(heap_setCell_other _ ⟨w.heap.size,0,none⟩ ba v0 (by simp;omega)).trans a1
 have n3:=heap_setCell_same _ w.heap.size 1 _ t30 v1 n2
 have a3:=(heap_setCell_other _ ⟨w.heap.size,1,none⟩ ba v1 (by simp;omega)).trans a2
 have n4:=heap_setCell_same _ w.heap.size 2 _ t30 v2 n3
 have a4:=(heap_setCell_other _ ⟨w.heap.size,2,none⟩ ba v2 (by simp;omega)).trans a3
 refine⟨n4,a4,⟨rfl,rfl,rfl,?_,?_⟩⟩
 ·simp[World.setCell]
 ·intro k hk hne
  have hne:k≠ba:=λe=>hne (by rw[e])
  rw[heap_setCell_other _ _ _ _ (by simp;omega),heap_setCell_other _ _ _ _ (by simp;omega),heap_setCell_other _ _ _ _ (by simp;omega),heap_setCell_other _ _ _ _ (by simpa using hne)]
  exact Below.heap_alloc w _ k hk
set_option maxHeartbeats 400000 in
theorem next_any(s:ByteArray)(i b n k ba bs:Nat)(w:World)(hs:s.size<=maxLen)(hi:i<=s.size)(hab:bs<ba)
  (ha:w.heap[ba]? = some (.cells #[.int .i64 i] 3 (0,0)))(hb:w.heap[bs]? = some (.cells #[.string s] 9 (0,0)))
  (hB:btw false (s.data.toList.drop i)=b)(hN:first (s.data.toList.drop (i+b))=(k,n))(hbs:i+b<=s.size)(hns:i+b+n<=s.size) :
  Calls Tryz.prog 157 #[.pointer (some ⟨ba,0,none⟩),.pointer (some ⟨bs,0,none⟩)] w λe w'=>e=.returned (.agg #[.int .i64 k,.string (s.extract (i+b) (i+b+n)),.int .i64 ((i:Int)+b)])/\w.grownBy w' (some ba)/\w'.heap[ba]? = some (.cells #[.int .i64 ((i:Int)+b+n)] 3 (0,0)):=by
 have ca:=cell_of_one ha
 have cb:=cell_of_one hb
 have hla:=lt_of_block ha
 have hlb:=lt_of_block hb
 have fa:=free_of_one ha
 have hA:=hidE ha
 have hBx:=hidE hb
 clear ha hb
 have hz:=drop_size s i
 have PB:∀w:World,Calls Tryz.prog 158 #[.string (s.extract i s.size)] w λe w'=>e=.returned (.int .i64 b)/\w'=w:=by
  intro w
  have:=between_any (s.extract i s.size) w (by omega)
  rw[drop_data,hB]at this
  exact this.mono λe w' h=>⟨h.1,h.2.symm⟩
 clear hz
 have hz:=drop_size s (i+b)
 have PF:∀w:World,Calls Tryz.prog 159 #[.string (s.extract (i+b) s.size)] w λe w'=>e=.returned (.tuple #[.int .i64 k,.int .i64 n])/\w=w':=by
  intro w
  have:=first_any (s.extract (i+b) s.size) w (by omega)
  rw[drop_data,hN]at this
  exact this
 clear hz hB hN
 unfold maxLen at hs
 go_enter Tryz.func157,Tryz.ntmps157
 go_wp2_with fail
 have sum1:IntKind.i64.wrap ((i:Int)+(b:Int))=(i:Int)+b:=by exact IntWalk.i64_in _ (by omega)
 go_quiet ((go_at_call 158;exact Calls.quiet_of_same (PB _)))
 clear sum1
 go_wp2_with (go_at_call 159;refine(PF _).mono ?_;rintro e w' ⟨rfl,rfl⟩)
 have HW:=next_world w ba nq 3 152 _ (.int .i64 ((i:Int)+b+n)) (.int .i64 k) (.string (s.extract (i+b) (i+b+n))) (.int .i64 ((i:Int)+b)) (.int .i64 0) (.string ⟨#[]⟩) (.int .i64 0) hA.out
 exact bodyPost_ret (results_cell_row rfl _ _ w.heap.size 152 _ (0,0) _ rfl HW.1 Tryz.underlying152 rfl (by kernel_rfl)) rfl ⟨rfl,HW.2.2,HW.2.1⟩
end Go.Proofs.YtknkclefoiohpaaGreatDoor

namespace Go.Proofs.YtknkclefoiohpaaGreatDoor
open Go.RowKit Lx
def tokV(t:Tok):List Value:=[.int .i64 t.kind,.string ⟨t.text.toArray⟩,.int .i64 t.at_]
def toksV(ts:List Tok):List Value:=ts.flatMap tokV
theorem toksV_snoc(ts:List Tok)(t:Tok):toksV (ts++[t])=toksV ts++tokV t:=by
 simp[toksV]
def scanS(l:List UInt8):List Tok × Nat × Nat :=
 if 4000<l.length then([],0,2) else match lex l with
 | .ok ts=>(ts,0,0)
 | .error a=>([],a,10)
def Step(s:ByteArray)(i p q k:Nat):Prop:=i<=p/\p<=q/\q<=s.size/\p=i+btw false (s.data.toList.drop i)/\first (s.data.toList.drop p)=(k,q-p)
theorem step_of(s:ByteArray)(i:Nat)(hi:i<=s.size):∃p q k,Step s i p q k:=by
 have h1:=btw_le false (s.data.toList.drop i)
 have h2:=first_le (s.data.toList.drop (i+btw false (s.data.toList.drop i)))
 have hz:=Lib.size_eq s
 rw[List.length_drop]at h1 h2
 refine⟨_,i+btw false (s.data.toList.drop i)+(first (s.data.toList.drop (i+btw false (s.data.toList.drop i)))).2,(first (s.data.toList.drop (i+btw false (s.data.toList.drop i)))).1,by omega,by omega,by omega,rfl,?_⟩
 rw[Nat.add_sub_cancel_left]
def Known(s:ByteArray)(i:Nat)(ts:List Tok):Prop:=lex s.data.toList=(sc i (s.data.toList.drop i)).map (ts++·)/\ts.length<=i
theorem known_start(s:ByteArray):Known s 0 []:=by
 refine⟨?_,Nat.le_refl _⟩
 rw[lex_sc,List.drop_zero]
 cases sc 0 s.data.toList <;> rfl
theorem known_done(s:ByteArray)(i p q k:Nat)(ts:List Tok)(hk:Known s i ts)(hst:Step s i p q k)(h:¬p<s.size):lex s.data.toList=.ok ts:=by
 obtain⟨_,_,_,h4,_⟩:=hst
 have hz:=Lib.size_eq s
 rw[hk.1,sc_unfold,if_pos]
 ·show Except.ok (ts++[])=_
  rw[List.append_nil]
 ·rw[List.drop_drop,<-h4,List.drop_eq_nil_of_le (by omega)]
theorem drop_ne(s:ByteArray)(p:Nat)(h:p<s.size):s.data.toList.drop p≠[]:=by
 rw[drop_at s p h];simp
theorem known_bad(s:ByteArray)(i p q:Nat)(ts:List Tok)(hk:Known s i ts)(hst:Step s i p q 0)(h:p<s.size):lex s.data.toList=.error p:=by
 obtain⟨_,_,_,h4,h5⟩:=hst
 rw[hk.1,sc_unfold,List.drop_drop,<-h4,if_neg (drop_ne s p h),h5,if_pos rfl]
 rfl
theorem known_next(s:ByteArray)(i p q k:Nat)(ts:List Tok)(hk:Known s i ts)(hst:Step s i p q k)(h:p<s.size)(h0:k≠0) :
  i<q/\Known s q (ts++[⟨k,(s.data.toList.drop p).take (q-p),p⟩]):=by
 obtain⟨h1,h2,h3,h4,h5⟩:=hst
 have hp:=first_pos (s.data.toList.drop p) (by rw[h5];exact h0)
 rw[h5]at hp
 have hq:i<q:=by omega
 refine⟨hq,?_,by have:=hk.2;simp;omega⟩
 rw[hk.1,sc_unfold i,List.drop_drop,<-h4,if_neg (drop_ne s p h),h5,if_neg h0,List.drop_drop,show p+(q-p)=q by omega]
 cases sc q (s.data.toList.drop q) with
 | error a=>rfl
 | ok us=>show Except.ok _=Except.ok _;simp
theorem tokV_extract(s:ByteArray)(p q k:Nat):tokV ⟨k,(s.data.toList.drop p).take (q-p),p⟩=[.int .i64 k,.string (s.extract p q),.int .i64 p]:=by
 unfold tokV
 rw[Lib.extract_eq]
theorem next_step(s:ByteArray)(i p q k ba bs:Nat)(w:World)(hs:s.size<=maxLen)(hst:Step s i p q k)(hab:bs<ba)
  (ha:w.heap[ba]? = some (.cells #[.int .i64 i] 3 (0,0)))(hb:w.heap[bs]? = some (.cells #[.string s] 9 (0,0))) :
  Calls Tryz.prog 157 #[.pointer (some ⟨ba,0,none⟩),.pointer (some ⟨bs,0,none⟩)] w λe w'=>e=.returned (.agg #[.int .i64 k,.string (s.extract p q),.int .i64 p])/\w.grownBy w' (some ba)/\w'.heap[ba]? = some (.cells #[.int .i64 q] 3 (0,0)):=by
 obtain⟨h1,h2,h3,h4,h5⟩:=hst
 obtain⟨b,rfl⟩:∃b,p=i+b:=⟨p-i,by omega⟩
 obtain⟨n,rfl⟩:∃n,q=i+b+n:=⟨q-(i+b),by omega⟩
 rw[Nat.add_sub_cancel_left]at h5
 refine(next_any s i b n k ba bs w hs (by omega) hab ha hb (by omega) h5 (by omega) h3).mono ?_
 rintro e w' ⟨rfl,hg,hh⟩
 refine⟨by simp,hg,?_⟩
 rw[hh]
 simp
def Blk(w:World)(g:Nat)(t:TypeId)(cs:Array Value):Prop:=w.heap[g]? = some (.cells cs t (0,0))
section
variable {w w':World} {g:Nat} {t:TypeId} {cs:Array Value}
theorem Blk.lt(h:Blk w g t cs):g<w.heap.size:=lt_of_block h
theorem Blk.cell(h:Blk w g t cs)(i:Nat):w.cell? ⟨g,i,none⟩=cs[i]?:=cell_of_row w g i cs t (0,0) h
theorem Blk.frozen(h:Blk w g t cs)(i:Nat):w.frozen? ⟨g,i,none⟩=false:=frozen_of_row w g i cs t h
theorem Blk.alloc(h:Blk w g t cs)(o:Obj):Blk (w.alloc o) g t cs:=(Below.heap_alloc w o g h.lt).trans h
theorem Blk.drew(h:Blk w g t cs):Blk w.drew g t cs:=h
theorem Blk.far(h:Blk w g t cs) {p:Addr}(hp:g≠p.block)(u:Value):Blk (w.setCell p u) g t cs:=(Below.heap_setCell w p u g hp).trans h
theorem Blk.grown {row:Option Nat}(h:Blk w g t cs)(hb:w.grownBy w' row)(hg:some g≠row):Blk w' g t cs:=(hb.block g h.lt hg).trans h
theorem Blk.below {B:Nat}(h:Blk w g t cs)(hb:Below B w w')(hg:g<B):Blk w' g t cs:=(hb.block g hg).trans h
theorem Blk.ne_ {g':Nat} {t':TypeId} {cs':Array Value}(h:Blk w g t cs)(h':Blk w g' t' cs')(hne:t≠t'):g≠g':=by
 rintro rfl
 unfold Blk at h h'
 rw[h]at h'
 injection h' with h'
 injection h' with _ ht
 exact hne ht
theorem own_blk_ne {base:Nat} {e:TypeId} {size n:Nat} {v:Value} {xs:List Value}(h:w.ownsRow base e size v n xs)(hg:Blk w g t cs)(hne:e≠t):some g≠v.ownBlock:=by
 rcases h.2 with⟨rfl,_⟩|⟨g',cap,cur,rfl,_,hh,_⟩
 ·simp[Value.ownBlock]
 ·intro he
  have:g=g':=by simpa[Value.ownBlock] using he
  subst this
  exact Blk.ne_ (t:=e) hh hg hne rfl
end
end Go.Proofs.YtknkclefoiohpaaGreatDoor

namespace Go.Proofs.YtknkclefoiohpaaGreatDoor
namespace Lx
theorem let_range(c:UInt8)(h:isLet c=true):(65<=c.toNat/\c.toNat<=90)\/(97<=c.toNat/\c.toNat<=122):=by
 simp[isLet,isUp]at h
 omega
theorem dig_range(c:UInt8)(h:isDig c=true):48<=c.toNat/\c.toNat<=57:=by
 simp[isDig]at h
 omega
end Lx
end Go.Proofs.YtknkclefoiohpaaGreatDoor

namespace Go.Proofs.YtknkclefoiohpaaGreatDoor
namespace Tx
open Lx
inductive Ty where
 | var (x:List UInt8)
 | mt (n:Nat)
 | con (c:List UInt8) (args:List Ty)
 | fn (a b:Ty)
 | all (x:List UInt8) (t:Ty)
def isKey(t:Tok)(s:List UInt8):Bool:=t.kind==3&&t.text==s
def isSign(t:Tok)(s:List UInt8):Bool:=t.kind==6&&t.text==s
def wForall:List UInt8:=[102,111,114,97,108,108]
def atomic(t:Tok):Bool:=t.kind==1||t.kind==5||t.kind==2||t.text==[40]
def vars:List Tok->List (List UInt8) × List Tok
 | []=>([],[])
 | t::r=>if t.kind=1 then(t.text::(vars r).1,(vars r).2) else([],t::r)
def numOf(l:List UInt8):Nat:=l.foldl (λn c=>10*n+(c.toNat-48)) 0
def alls(xs:List (List UInt8))(t:Ty):Ty:=xs.foldr Ty.all t
def eat(p:Tok->Bool):List Tok->Option (List Tok)
 | []=>none
 | t::r=>if p t then some r else none
mutual
def read:Nat->List Tok->Option (Ty × List Tok)
 | 0,_=>none
 | f+1,l =>
  match eat (isKey · wForall) l with
  | some r =>
   if(vars r).1=[] then none
   else match eat (isSign · [46]) (vars r).2 with
    | none=>none
    | some r2=>(read f r2).map λx=>(alls (vars r).1 x.1,x.2)
  | none =>
   match app f l with
   | none=>none
   | some (a,r) =>
    match eat (isSign · [45,62]) r with
    | none=>some (a,r)
    | some r2=>(read f r2).map λx=>(.fn a x.1,x.2)
def app:Nat->List Tok->Option (Ty × List Tok)
 | 0,_=>none
 | f+1,l =>
  match l with
  | []=>none
  | t::r=>if t.kind=2 then(args f r).map λx=>(.con t.text x.1,x.2) else atom f (t::r)
def args:Nat->List Tok->Option (List Ty × List Tok)
 | 0,_=>none
 | f+1,l =>
  match l with
  | []=>some ([],[])
  | t::r =>
   if atomic t then
    match atom f (t::r) with
    | none=>none
    | some (x,r2)=>(args f r2).map λy=>(x::y.1,y.2)
   else some ([],t::r)
def atom:Nat->List Tok->Option (Ty × List Tok)
 | 0,_=>none
 | f+1,l =>
  match l with
  | []=>none
  | t::r =>
   if t.kind=1 then some (.var t.text,r)
   else if t.kind=2 then some (.con t.text [],r)
   else if t.kind=5 then some (.mt (numOf (t.text.drop 1)),r)
   else if t.text=[40] then
    match read f r with
    | none=>none
    | some (x,r2)=>(eat (isSign · [41]) r2).map λr3=>(x,r3)
   else none
end
def enough(l:List Tok):Nat:=4*l.length+4
mutual
def Ty.depth:Ty->Nat
 | .var _=>1
 | .mt _=>1
 | .con _ l=>depthL l+1
 | .fn a b=>max a.depth b.depth+1
 | .all _ t=>t.depth+1
def depthL:List Ty->Nat
 | []=>0
 | t::r=>max t.depth (depthL r)
end
def digit(n:Nat):UInt8:=(48+n % 10).toUInt8
def decF:Nat->Nat->List UInt8
 | 0,_=>[]
 | f+1,n=>if n<10 then[digit n] else decF f (n / 10)++[digit n]
def dec(n:Nat):List UInt8:=decF 20 n
def Ty.isFA:Ty->Bool
 | .fn _ _=>true
 | .all _ _=>true
 | _=>false
def Ty.big:Ty->Bool
 | .fn _ _=>true
 | .all _ _=>true
 | .con _ (_::_)=>true
 | _=>false
mutual
def Ty.print:Ty->List UInt8
 | .var x=>x
 | .mt n=>63::dec n
 | .con c l=>c++printL l
 | .fn a b=>(if a.isFA then 40::(a.print++[41]) else a.print)++[32,45,62,32]++b.print
 | .all x t=>wForall++32::x++printA t
def printL:List Ty->List UInt8
 | []=>[]
 | t::r=>(if t.big then 32::40::(t.print++[41]) else 32::t.print)++printL r
def printA:Ty->List UInt8
 | .all y t=>32::y++printA t
 | .var x=>[46,32]++x
 | .mt n=>[46,32]++(63::dec n)
 | .con c l=>[46,32]++(c++printL l)
 | .fn a b=>[46,32]++((if a.isFA then 40::(a.print++[41]) else a.print)++[32,45,62,32]++b.print)
end
theorem printA_all(y:List UInt8)(t:Ty):printA (.all y t)=32::y++printA t:=by rw[printA]
theorem printA_other(t:Ty)(h:∀y u,t≠.all y u):printA t=[46,32]++t.print:=by
 cases t with
 | all y u=>exact absurd rfl (h y u)
 | var x=>rw[printA,Ty.print]
 | mt n=>rw[printA,Ty.print]
 | con c l=>rw[printA,Ty.print]
 | fn a b=>rw[printA,Ty.print]
def addN {α:Type} [DecidableEq α](x:α)(l:List α):List α:=if x∈l then l else l++[x]
end Tx
end Go.Proofs.YtknkclefoiohpaaGreatDoor

namespace Go.Proofs.YtknkclefoiohpaaGreatDoor
namespace Tx
open Lx
def K(k:Nat)(s:List UInt8):Tok:=⟨k,s,0⟩
def tL:Tok:=K 6 [40]
def tR:Tok:=K 6 [41]
def tArrow:Tok:=K 6 [45,62]
def tDot:Tok:=K 6 [46]
def tAll:Tok:=K 3 wForall
mutual
def Ty.toks:Ty->List Tok
 | .var x=>[K 1 x]
 | .mt n=>[K 5 (63::dec n)]
 | .con c l=>K 2 c::toksL l
 | .fn a b=>(if a.isFA then tL::(a.toks++[tR]) else a.toks)++tArrow::b.toks
 | .all x t=>tAll::K 1 x::toksA t
def toksL:List Ty->List Tok
 | []=>[]
 | t::r=>(if t.big then tL::(t.toks++[tR]) else t.toks)++toksL r
def toksA:Ty->List Tok
 | .all y t=>K 1 y::toksA t
 | .var x=>[tDot,K 1 x]
 | .mt n=>[tDot,K 5 (63::dec n)]
 | .con c l=>tDot::K 2 c::toksL l
 | .fn a b=>tDot::((if a.isFA then tL::(a.toks++[tR]) else a.toks)++tArrow::b.toks)
end
theorem toksA_other(t:Ty)(h:∀y u,t≠.all y u):toksA t=tDot::t.toks:=by
 cases t with
 | all y u=>exact absurd rfl (h y u)
 | var x=>rw[toksA,Ty.toks]
 | mt n=>rw[toksA,Ty.toks]
 | con c l=>rw[toksA,Ty.toks]
 | fn a b=>rw[toksA,Ty.toks]
inductive Wf:Ty->Prop
 | var (x):Wf (.var x)
 | mt (n):n<=999999->Wf (.mt n)
 | con (c l):(∀t∈l,Wf t)->Wf (.con c l)
 | fn (a b):Wf a->Wf b->Wf (.fn a b)
 | all (x t):Wf t->Wf (.all x t)
def Ty.peel:Ty->List (List UInt8) × Ty
 | .all x t=>(x::t.peel.1,t.peel.2)
 | t=>([],t)
theorem peel_alls(t:Ty):alls t.peel.1 t.peel.2=t:=by
 induction t using Ty.peel.induct with
 | case1 x t ih=>rw[Ty.peel];show Ty.all x (alls _ _)=_;rw[ih]
 | case2 t h=>rw[Ty.peel];rfl;exact h
theorem peel_toksA(t:Ty):toksA t=t.peel.1.map (K 1 ·)++tDot::t.peel.2.toks:=by
 induction t using Ty.peel.induct with
 | case1 x t ih=>rw[Ty.peel,toksA,ih];rfl
 | case2 t h=>rw[Ty.peel,toksA_other t h];rfl;exact h
theorem peel_wf(t:Ty)(h:Wf t):Wf t.peel.2:=by
 induction t using Ty.peel.induct with
 | case1 x t ih=>rw[Ty.peel];cases h with|all _ _ h=>exact ih h
 | case2 t h2=>rw[Ty.peel];exact h;exact h2
theorem vars_map(xs:List (List UInt8))(t:Tok)(r:List Tok)(h:t.kind≠1):vars (xs.map (K 1 ·)++t::r)=(xs,t::r):=by
 induction xs with
 | nil=>rw[List.map_nil,List.nil_append,vars,if_neg h]
 | cons x xs ih=>rw[List.map_cons,List.cons_append,vars,if_pos (show(K 1 x).kind=1 from rfl),ih];rfl
theorem digit_nat(n:Nat):(digit n).toNat=48+n % 10:=by
 unfold digit
 rw[Nat.toUInt8_eq,UInt8.toNat_ofNat']
 omega
theorem numOf_snoc(l:List UInt8)(c:UInt8):numOf (l++[c])=10*numOf l+(c.toNat-48):=by
 simp[numOf]
theorem numOf_decF(f n:Nat)(h:n<10 ^ f):numOf (decF f n)=n:=by
 induction f generalizing n with
 | zero=>simp at h;subst h;rfl
 | succ f ih =>
  rw[decF]
  split
  ·show 10*0+((digit n).toNat-48)=n
   rw[digit_nat];omega
  ·rw[numOf_snoc,ih (n / 10) (by rw[Nat.pow_succ]at h;omega),digit_nat]
   omega
theorem numOf_dec(n:Nat)(h:n<=999999):numOf (dec n)=n:=numOf_decF 20 n (by omega)
def stops(r:List Tok):Prop:=∀t,r.head? = some t->atomic t=false
def stopsF(r:List Tok):Prop:=stops r/\eat (isSign · [45,62]) r=none
theorem eat_key(t:Tok)(r:List Tok)(h:t.kind≠3):eat (isKey · wForall) (t::r)=none:=by
 rw[eat,if_neg]
 simp[isKey,h]
theorem back(n:Nat) :
  (∀t,Wf t->t.toks.length<=n->∀r,stopsF r->∀f,4*(t.toks.length+r.length)+4<=f->read f (t.toks++r)=some (t,r)) /\
  (∀l,(∀t∈l,Wf t)->(toksL l).length<=n->∀r,stops r->∀f,4*((toksL l).length+r.length)+2<=f->args f (toksL l++r)=some (l,r)):=by
 induction n using Nat.strongRecOn with
 | ind n ih =>
  have hatom:∀t,Wf t->(if t.big then tL::(t.toks++[tR]) else t.toks).length<=n->∀r,∀f,4*((if t.big then tL::(t.toks++[tR]) else t.toks).length+r.length)+1<=f ->
    atom f ((if t.big then tL::(t.toks++[tR]) else t.toks)++r)=some (t,r):=by
   intro t hw hl r f hf
   obtain⟨f,rfl⟩:∃g,f=g+1:=⟨f-1,by omega⟩
   by_cases hb:t.big=true
   ·rw[if_pos hb]at hl hf ⊢
    have hlen:t.toks.length<n:=by simp at hl;omega
    have hr:=(ih _ hlen).1 t hw (Nat.le_refl _) (tR::r) ⟨λx hx=>by simp at hx;subst hx;decide,by rw[eat,if_neg (by decide)]⟩ f (by simp at hf ⊢;omega)
    rw[show(tL::(t.toks++[tR]))++r=tL::(t.toks++tR::r) by simp]
    rw[atom,if_neg (by decide),if_neg (by decide),if_neg (by decide),if_pos (by decide),hr]
    simp only[eat]
    rw[if_pos (by decide)]
    rfl
   ·rw[if_neg hb]at hl hf ⊢
    cases hw with
    | var x=>rw[Ty.toks];show atom (f+1) (K 1 x::r)=_;rw[atom,if_pos (show(K 1 x).kind=1 from rfl)];rfl
    | mt m hm =>
     rw[Ty.toks]
     show atom (f+1) (K 5 (63::dec m)::r)=_
     rw[atom,if_neg (by show ¬(5=1);omega),if_neg (by show ¬(5=2);omega),if_pos (show(K 5 (63::dec m)).kind=5 from rfl)]
     show some (Ty.mt (numOf (dec m)),r)=_
     rw[numOf_dec m hm]
    | con c l h =>
     cases l with
     | nil=>rw[Ty.toks,toksL];show atom (f+1) (K 2 c::r)=_;rw[atom,if_neg (by show ¬(2=1);omega),if_pos (show(K 2 c).kind=2 from rfl)];rfl
     | cons a l=>exact absurd rfl hb
    | fn a b _ _=>exact absurd rfl hb
    | all x t _=>exact absurd rfl hb
  have hargs:∀l,(∀t∈l,Wf t)->(toksL l).length<=n->∀r,stops r->∀f,4*((toksL l).length+r.length)+2<=f->args f (toksL l++r)=some (l,r):=by
   intro l
   induction l with
   | nil =>
    intro _ _ r hr f hf
    obtain⟨f,rfl⟩:∃g,f=g+1:=⟨f-1,by omega⟩
    rw[toksL,List.nil_append]
    cases r with
    | nil=>rw[args]
    | cons t r=>rw[args,if_neg (by rw[hr t rfl];decide)]
   | cons t l ihl =>
    intro hw hl r hr f hf
    obtain⟨f,rfl⟩:∃g,f=g+1:=⟨f-1,by omega⟩
    rw[toksL]at hl hf ⊢
    rw[List.length_append]at hl hf
    have ha:=hatom t (hw t List.mem_cons_self) (by omega) (toksL l++r) f (by rw[List.length_append];omega)
    obtain⟨x,xs,hx,hxa⟩:∃x xs,(if t.big then tL::(t.toks++[tR]) else t.toks)=x::xs/\atomic x=true:=by
     by_cases hb:t.big=true
     ·rw[if_pos hb];exact⟨_,_,rfl,by decide⟩
     ·rw[if_neg hb]
      cases t with
      | var x=>exact⟨_,_,by rw[Ty.toks],rfl⟩
      | mt m=>exact⟨_,_,by rw[Ty.toks],rfl⟩
      | con c l=>exact⟨_,_,by rw[Ty.toks],rfl⟩
      | fn a b=>exact absurd rfl hb
      | all y u=>exact absurd rfl hb
    rw[List.append_assoc]
    have hx2:(if t.big then tL::(t.toks++[tR]) else t.toks)++(toksL l++r)=x::(xs++(toksL l++r)):=by rw[hx];rfl
    have hpos:1<=(if t.big then tL::(t.toks++[tR]) else t.toks).length:=by rw[hx];simp
    rw[hx2,args,if_pos hxa,<-hx2,ha]
    simp only
    rw[ihl (λu hu=>hw u (List.mem_cons_of_mem _ hu)) (by omega) r hr f (by omega)]
    rfl
  refine⟨?_,hargs⟩
  have happ:∀t,Wf t->t.isFA=false->t.toks.length<=n->∀r,stops r->∀f,4*(t.toks.length+r.length)+3<=f->app f (t.toks++r)=some (t,r):=by
   intro t hw hfa hl r hr f hf
   obtain⟨f,rfl⟩:∃g,f=g+1:=⟨f-1,by omega⟩
   cases t with
   | var x =>
    rw[Ty.toks]at hf ⊢
    show app (f+1) (K 1 x::r)=_
    rw[app,if_neg (by show ¬(1=2);omega)]
    obtain⟨f,rfl⟩:∃g,f=g+1:=⟨f-1,by omega⟩
    rw[atom,if_pos (show(K 1 x).kind=1 from rfl)];rfl
   | mt m =>
    have hat:=hatom (.mt m) hw (by rw[if_neg (by simp[Ty.big])];exact hl) r f (by rw[if_neg (by simp[Ty.big])];omega)
    rw[if_neg (by simp[Ty.big])]at hat
    rw[Ty.toks]at hat ⊢
    show app (f+1) (K 5 (63::dec m)::r)=_
    rw[app,if_neg (by show ¬(5=2);omega)]
    exact hat
   | con c l =>
    rw[Ty.toks]at hl hf ⊢
    rw[List.length_cons]at hl hf
    show app (f+1) (K 2 c::(toksL l++r))=_
    cases hw with
    | con _ _ h =>
     rw[app,if_pos (show(K 2 c).kind=2 from rfl),hargs l h (by omega) r hr f (by omega)]
     rfl
   | fn a b=>simp[Ty.isFA]at hfa
   | all x u=>simp[Ty.isFA]at hfa
  intro t hw hl r hr f hf
  obtain⟨f,rfl⟩:∃g,f=g+1:=⟨f-1,by omega⟩
  by_cases hfa:t.isFA=true
  ·cases t with
   | var x=>simp[Ty.isFA]at hfa
   | mt m=>simp[Ty.isFA]at hfa
   | con c l=>simp[Ty.isFA]at hfa
   | fn a b =>
    cases hw with
    | fn _ _ ha hb =>
     rw[Ty.toks]at hl hf ⊢
     rw[List.length_append,List.length_cons]at hl hf
     have hb1:read f (b.toks++r)=some (b,r):=(ih b.toks.length (by omega)).1 b hb (Nat.le_refl _) r hr f (by omega)
     have harrow:eat (isSign · [45,62]) (tArrow::(b.toks++r))=some (b.toks++r):=by rw[eat,if_pos (by decide)]
     have hst:stops (tArrow::(b.toks++r)):=λx hx=>by simp at hx;subst hx;decide
     by_cases hafa:a.isFA=true
     ·rw[if_pos hafa]at hl hf ⊢
      have hal:a.toks.length<n:=by simp at hl;omega
      obtain⟨f,rfl⟩:∃g,f=g+1:=⟨f-1,by omega⟩
      obtain⟨f,rfl⟩:∃g,f=g+1:=⟨f-1,by omega⟩
      have hra:=(ih _ hal).1 a ha (Nat.le_refl _) (tR::tArrow::(b.toks++r)) ⟨λx hx=>by simp at hx;subst hx;decide,by rw[eat,if_neg (by decide)]⟩ f (by simp at hf ⊢;omega)
      rw[show((tL::(a.toks++[tR]))++tArrow::b.toks)++r=tL::(a.toks++tR::tArrow::(b.toks++r)) by simp]
      have happL:app (f+1+1) (tL::(a.toks++tR::tArrow::(b.toks++r)))=some (a,tArrow::(b.toks++r)):=by
       rw[app,if_neg (by decide),atom,if_neg (by decide),if_neg (by decide),if_neg (by decide),if_pos (by decide),hra]
       simp only[eat]
       rw[if_pos (by decide)]
       rfl
      rw[read,eat_key _ _ (by decide)]
      simp only[happL,harrow,hb1]
      rfl
     ·have hafa:a.isFA=false:=by simpa using hafa
      rw[hafa]at hl hf ⊢
      simp only[Bool.false_eq_true,if_false]at hl hf ⊢
      have happA:=happ a ha hafa (by omega) (tArrow::(b.toks++r)) hst f (by simp;omega)
      rw[show(a.toks++tArrow::b.toks)++r=a.toks++tArrow::(b.toks++r) by simp]
      have hkey:eat (isKey · wForall) (a.toks++tArrow::(b.toks++r))=none:=by
       cases a with
       | var x=>rw[Ty.toks];exact eat_key _ _ (by show ¬(1=3);omega)
       | mt m=>rw[Ty.toks];exact eat_key _ _ (by show ¬(5=3);omega)
       | con c l=>rw[Ty.toks];exact eat_key _ _ (by show ¬(2=3);omega)
       | fn a b=>simp[Ty.isFA]at hafa
       | all x u=>simp[Ty.isFA]at hafa
      rw[read,hkey]
      simp only[happA,harrow,hb1]
      rfl
   | all x u =>
    cases hw with
    | all _ _ hu =>
     rw[Ty.toks,peel_toksA]at hl hf ⊢
     have hbl:u.peel.2.toks.length<n:=by simp at hl;omega
     have hrb:=(ih _ hbl).1 u.peel.2 (peel_wf u hu) (Nat.le_refl _) r hr f (by simp at hf;omega)
     rw[show(tAll::K 1 x::(u.peel.1.map (K 1 ·)++tDot::u.peel.2.toks))++r=tAll::((x::u.peel.1).map (K 1 ·)++tDot::(u.peel.2.toks++r)) by simp]
     have hkey:eat (isKey · wForall) (tAll::((x::u.peel.1).map (K 1 ·)++tDot::(u.peel.2.toks++r)))=some ((x::u.peel.1).map (K 1 ·)++tDot::(u.peel.2.toks++r)):=by
      rw[eat,if_pos (by decide)]
     have hdot:eat (isSign · [46]) (tDot::(u.peel.2.toks++r))=some (u.peel.2.toks++r):=by rw[eat,if_pos (by decide)]
     rw[read,hkey]
     simp only[vars_map _ _ _ (show tDot.kind≠1 by decide),hdot,hrb]
     rw[if_neg (by simp)]
     show some (Ty.all x (alls u.peel.1 u.peel.2),r)=_
     rw[peel_alls]
  ·have hfa:t.isFA=false:=by simpa using hfa
   have hkey:eat (isKey · wForall) (t.toks++r)=none:=by
    cases t with
    | var x=>rw[Ty.toks];exact eat_key _ _ (by show ¬(1=3);omega)
    | mt m=>rw[Ty.toks];exact eat_key _ _ (by show ¬(5=3);omega)
    | con c l=>rw[Ty.toks];exact eat_key _ _ (by show ¬(2=3);omega)
    | fn a b=>simp[Ty.isFA]at hfa
    | all x u=>simp[Ty.isFA]at hfa
   rw[read,hkey]
   simp only[happ t hw hfa hl r hr.1 f (by omega),hr.2]
end Tx
end Go.Proofs.YtknkclefoiohpaaGreatDoor

namespace Go.Proofs.YtknkclefoiohpaaGreatDoor
namespace Lx
def stp(m:Bool)(c:UInt8):Bool:=if c=10 then false else if c=35 then true else m
def rm:Bool->List UInt8->Bool
 | m,[]=>m
 | m,c::r=>rm (stp m c) r
def okg:Bool->List UInt8->Prop
 | _,[]=>True
 | m,c::r=>(stp m c=true\/c=32\/c=9\/c=10)/\okg (stp m c) r
theorem btw_ok(m:Bool)(l:List UInt8):okg m (l.take (btw m l))/\(btw m l<l.length->rm m (l.take (btw m l))=false):=by
 induction l generalizing m with
 | nil=>simp[btw,okg]
 | cons c r ih =>
  cases m with
  | true =>
   have e:btw true (c::r)=btw (c != 10) r+1:=rfl
   have hs:stp true c=(c != 10):=by
    unfold stp
    by_cases h:c=10
    ·simp[h]
    ·have h2:(c != 10)=true:=by simpa using h
     rw[if_neg h,h2];split <;> rfl
   rw[e,List.take_succ_cons]
   obtain⟨h1,h2⟩:=ih (c != 10)
   refine⟨⟨?_,by rw[hs];exact h1⟩,λhl=>?_⟩
   ·by_cases h:c=10
    ·exact .inr (.inr (.inr h))
    ·left;rw[hs];simpa using h
   ·show rm (stp true c) _=false
    rw[hs]
    exact h2 (by simpa using hl)
  | false =>
   by_cases hb:c=32\/c=9\/c=10
   ·have e:btw false (c::r)=btw false r+1:=by rw[btw,if_pos hb]
    have hs:stp false c=false:=by
     unfold stp
     rcases hb with h|h|h <;> rw[h] <;> decide
    rw[e,List.take_succ_cons]
    obtain⟨h1,h2⟩:=ih false
    refine⟨⟨.inr hb,by rw[hs];exact h1⟩,λhl=>?_⟩
    show rm (stp false c) _=false
    rw[hs]
    exact h2 (by simpa using hl)
   ·by_cases h35:c=35
    ·have e:btw false (c::r)=btw true r+1:=by rw[btw,if_neg hb,if_pos h35]
     have hs:stp false c=true:=by rw[h35];decide
     rw[e,List.take_succ_cons]
     obtain⟨h1,h2⟩:=ih true
     refine⟨⟨.inl hs,by rw[hs];exact h1⟩,λhl=>?_⟩
     show rm (stp false c) _=false
     rw[hs]
     exact h2 (by simpa using hl)
    ·have e:btw false (c::r)=0:=by rw[btw,if_neg hb,if_neg h35]
     rw[e]
     exact⟨trivial,λ_=>rfl⟩
def Cov(l:List UInt8):Nat->List Tok->Prop
 | f,[]=>f<=l.length/\okg false (l.drop f)
 | f,t::r=>f<=t.at_/\t.text≠[]/\t.at_+t.text.length<=l.length/\(l.drop t.at_).take t.text.length=t.text /\
   okg false ((l.drop f).take (t.at_-f))/\rm false ((l.drop f).take (t.at_-f))=false/\Cov l (t.at_+t.text.length) r
theorem cov_sc(L:List UInt8)(n:Nat):∀(i:Nat)(ts:List Tok),L.length-i<=n->i<=L.length->sc i (L.drop i)=.ok ts->Cov L i ts:=by
 induction n with
 | zero =>
  intro i ts hn hi h
  have hl:L.drop i=[]:=List.drop_eq_nil_of_le (by omega)
  rw[hl,sc]at h
  injection h with h
  subst h
  exact⟨hi,by rw[hl];trivial⟩
 | succ n ih =>
  intro i ts hn hi h
  obtain⟨hk1,hk2⟩:=btw_ok false (L.drop i)
  have hbl:=btw_le false (L.drop i)
  rw[sc_unfold,List.drop_drop]at h
  split at h
  ·rename_i h0
   injection h with h
   subst h
   refine⟨hi,?_⟩
   have h1:=List.drop_eq_nil_iff.1 h0
   rw[List.take_of_length_le (by rw[List.length_drop];omega)]at hk1
   exact hk1
  ·rename_i h0
   split at h
   ·cases h
   ·rename_i h1
    have hp:=first_pos _ h1
    rw[List.length_drop]at hp hbl hk2
    have hlt:i+btw false (L.drop i)<L.length:=by
     rcases Nat.lt_or_ge (i+btw false (L.drop i)) L.length with h|h
     ·exact h
     ·exact absurd (List.drop_eq_nil_of_le h) h0
    rw[List.drop_drop]at h
    cases hx:sc (i+btw false (L.drop i)+(first (L.drop (i+btw false (L.drop i)))).2) (L.drop (i+btw false (L.drop i)+(first (L.drop (i+btw false (L.drop i)))).2)) with
    | error e=>rw[hx]at h;cases h
    | ok us =>
     rw[hx]at h
     have h:Except.ok (_::us)=Except.ok ts:=h
     injection h with h
     subst h
     have hlen:((L.drop (i+btw false (L.drop i))).take (first (L.drop (i+btw false (L.drop i)))).2).length=(first (L.drop (i+btw false (L.drop i)))).2:=by
      rw[List.length_take,List.length_drop];omega
     refine⟨by simp,?_,?_,?_,?_,?_,?_⟩
     ·intro e
      have e2:=congrArg List.length e
      rw[hlen]at e2
      simp at e2
      omega
     ·simp only[hlen];omega
     ·simp only[hlen]
     ·simp only[Nat.add_sub_cancel_left];exact hk1
     ·simp only[Nat.add_sub_cancel_left];exact hk2 (by omega)
     ·simp only[hlen]
      exact ih _ us (by omega) (by omega) hx
theorem lex_cov(l:List UInt8)(ts:List Tok)(h:lex l=.ok ts):Cov l 0 ts :=
 cov_sc l l.length 0 ts (by omega) (by omega) (by rw[List.drop_zero,<-lex_sc];exact h)
end Lx
end Go.Proofs.YtknkclefoiohpaaGreatDoor

namespace Go.Proofs.YtknkclefoiohpaaGreatDoor
namespace Lx
def ends(d:UInt8):Prop:=inW d=false/\isDig d=false/\d≠62
theorem span_take(p:UInt8->Bool)(l:List UInt8)(n:Nat)(h:span p l=n):span p (l.take n)=n:=by
 induction l generalizing n with
 | nil=>simp[span]at h ⊢;omega
 | cons c r ih =>
  rw[span]at h
  by_cases hp:p c=true
  ·rw[if_pos hp]at h
   obtain⟨m,rfl⟩:∃m,n=m+1:=⟨n-1,by omega⟩
   rw[List.take_succ_cons,span,if_pos hp,ih m (by omega)]
  ·rw[if_neg hp]at h
   subst h
   rfl
theorem number_take(l:List UInt8)(n:Nat)(h:number l=(4,n)):number (l.take n)=(4,n):=by
 have hb:badNum l=false:=by
  cases hx:badNum l with
  | false=>rfl
  | true=>unfold number at h;rw[if_pos hx]at h;simp at h
 unfold number at h
 rw[hb,if_neg (by simp)]at h
 have hs:span isDig l=n:=by injection h
 have hn:n≠0:=by intro e;subst e;simp[badNum,hs]at hb
 have hh:(l.take n).headD 0=l.headD 0:=by
  cases l with
  | nil=>simp
  | cons c r=>obtain⟨m,rfl⟩:∃m,n=m+1:=⟨n-1,by omega⟩;rfl
 have hb2:badNum (l.take n)=badNum l:=by unfold badNum;rw[span_take _ _ _ hs,hs,hh]
 unfold number
 rw[hb2,hb,if_neg (by simp),span_take _ _ _ hs]
theorem first_take(r:List UInt8)(k n:Nat)(h:first r=(k,n))(hk:k≠0):first (r.take n)=(k,n):=by
 have hp:=first_pos r (by rw[h];exact hk)
 rw[h]at hp
 simp only at hp
 cases r with
 | nil=>simp[first]at h;omega
 | cons c r =>
  obtain⟨m,rfl⟩:∃m,n=m+1:=⟨n-1,by omega⟩
  rw[List.take_succ_cons,first]
  rw[first]at h
  have e:c::r.take m=(c::r).take (m+1):=rfl
  by_cases h1:isLet c=true
  ·rw[if_pos h1]at h ⊢
   unfold word at h ⊢
   by_cases hs:16<span inW (c::r)
   ·rw[if_pos hs]at h;injection h with h _;omega
   ·rw[if_neg hs]at h
    injection h with ha hb
    have ht:=span_take inW (c::r) (m+1) hb
    rw[e,ht,if_neg (by omega),List.take_take,Nat.min_self,<-ha,hb]
  ·rw[if_neg h1]at h ⊢
   by_cases h2:isDig c=true
   ·rw[if_pos h2]at h ⊢
    have hk4:number (c::r)=(4,m+1):=by
     rcases number_cases (c::r) with e|⟨e,_,_⟩
     ·rw[e]at h;injection h with h _;omega
     ·rw[e]at h ⊢;injection h with _ hb;rw[hb]
    rw[hk4]at h
    rw[e,number_take _ _ hk4]
    exact h
   ·rw[if_neg h2]at h ⊢
    by_cases h3:c=63
    ·rw[if_pos h3]at h ⊢
     unfold meta_ at h ⊢
     rw[show(c::r).drop 1=r from rfl]at h
     rw[show(c::r.take m).drop 1=r.take m from rfl]
     by_cases h0:(number r).2=0
     ·rw[if_pos h0]at h;injection h with h _;omega
     ·rw[if_neg h0]at h
      injection h with ha hb
      have hm:(number r).2=m:=by omega
      have hk4:number r=(4,m):=by
       rcases number_cases r with e|⟨e,_,_⟩
       ·rw[e]at h0;exact absurd rfl h0
       ·rw[e]at hm ⊢;rw[<-hm]
      rw[number_take _ _ hk4,if_neg (by rw[<-hm];exact h0),<-ha]
      simp
      omega
    ·rw[if_neg h3]at h ⊢
     unfold sign at h ⊢
     by_cases hpre:(pre [45,62] (c::r)||pre [124,62] (c::r))=true
     ·rw[if_pos hpre]at h
      injection h with ha hb
      obtain rfl:m=1:=by omega
      have hq:(pre [45,62] (c::r.take 1)||pre [124,62] (c::r.take 1))=true:=by
       cases r with
       | nil=>simp[pre,List.isPrefixOf]at hpre
       | cons x r=>simpa[pre,List.isPrefixOf] using hpre
      rw[if_pos hq,<-ha]
     ·rw[if_neg hpre]at h
      by_cases hs:(c::r).headD 0∈signs
      ·rw[if_pos hs]at h
       injection h with ha hb
       obtain rfl:m=0:=by omega
       rw[List.take_zero,if_neg (by simp[pre,List.isPrefixOf]),if_pos (by simpa using hs),<-ha]
      ·rw[if_neg hs]at h;injection h with h _;omega
def Good(t:Tok):Prop:=t.text≠[]/\first t.text=(t.kind,t.text.length)/\t.kind≠0
theorem good_sc(n:Nat):∀(i:Nat)(l:List UInt8)(ts:List Tok),l.length<=n->sc i l=.ok ts->∀t∈ts,Good t:=by
 induction n with
 | zero =>
  intro i l ts hn h t ht
  have:l=[]:=List.eq_nil_of_length_eq_zero (by omega)
  subst this
  injection h with h
  subst h
  cases ht
 | succ n ih =>
  intro i l ts hn h t ht
  rw[sc_unfold]at h
  split at h
  ·injection h with h;subst h;cases ht
  ·rename_i h0
   split at h
   ·cases h
   ·rename_i h1
    have hp:=first_pos _ h1
    cases hx:sc (i+btw false l+(first (l.drop (btw false l))).2) ((l.drop (btw false l)).drop (first (l.drop (btw false l))).2) with
    | error e=>rw[hx]at h;cases h
    | ok us =>
     rw[hx]at h
     have h:Except.ok (_::us)=Except.ok ts:=h
     injection h with h
     subst h
     rcases List.mem_cons.1 ht with rfl|ht
     ·have hlen:((l.drop (btw false l)).take (first (l.drop (btw false l))).2).length=(first (l.drop (btw false l))).2:=by
       rw[List.length_take];omega
      refine⟨?_,?_,h1⟩
      ·intro e
       have e2:=congrArg List.length e
       rw[hlen]at e2
       simp at e2
       omega
      ·simp only[hlen]
       exact first_take _ _ _ rfl h1
     ·exact ih _ _ us (by simp only[List.length_drop]at hp ⊢;omega) hx t ht
theorem good_lex(l:List UInt8)(ts:List Tok)(h:lex l=.ok ts):∀t∈ts,Good t:=good_sc l.length 0 l ts (Nat.le_refl _) (by rw[<-lex_sc];exact h)
def sep(b:Bool):List UInt8:=if b then[35,32,120,32,41,32,63,10] else[32]
end Lx
end Go.Proofs.YtknkclefoiohpaaGreatDoor

namespace Go.Proofs.YtknkclefoiohpaaGreatDoor
namespace Tx
open Lx
def Gd(k:Nat)(s:List UInt8):Prop:=s≠[]/\first s=(k,s.length)/\k≠0
inductive Nm:Ty->Prop
 | var (x):Gd 1 x->Nm (.var x)
 | mt (n):n<=999999->Nm (.mt n)
 | con (c l):Gd 2 c->(∀t∈l,Nm t)->Nm (.con c l)
 | fn (a b):Nm a->Nm b->Nm (.fn a b)
 | all (x t):Gd 1 x->Nm t->Nm (.all x t)
theorem decF_len(f g n:Nat)(hg:n<10 ^ g)(h1:1<=g):(decF f n).length<=g:=by
 induction f generalizing n g with
 | zero=>simp[decF]
 | succ f ih =>
  rw[decF]
  split
  ·simpa using h1
  ·rename_i hn
   obtain⟨g,rfl⟩:∃k,g=k+1:=⟨g-1,by omega⟩
   have hg0:1<=g:=by
    rcases Nat.eq_zero_or_pos g with e|e
    ·subst e;simp at hg;omega
    ·exact e
   have:=ih g (n / 10) (by rw[Nat.pow_succ]at hg;omega) hg0
   simp
   omega
end Tx
end Go.Proofs.YtknkclefoiohpaaGreatDoor

namespace Go.Proofs.YtknkclefoiohpaaGreatDoor
namespace Tx
open Lx
mutual
def Ty.size:Ty->Nat
 | .var _=>1
 | .mt _=>1
 | .con _ l=>sizeL l+1
 | .fn a b=>a.size+b.size+1
 | .all _ t=>t.size+1
def sizeL:List Ty->Nat
 | []=>0
 | t::r=>t.size+sizeL r
end
def AllG(l:List Tok):Prop:=∀t∈l,Lx.Good t
theorem AllG.tail {t:Tok} {l:List Tok}(h:AllG (t::l)):AllG l:=λx hx=>h x (List.mem_cons_of_mem _ hx)
theorem AllG.head {t:Tok} {l:List Tok}(h:AllG (t::l)):Lx.Good t:=h t List.mem_cons_self
theorem eat_some(p:Tok->Bool)(l r:List Tok)(h:eat p l=some r):∃t,l=t::r/\p t=true:=by
 cases l with
 | nil=>simp[eat]at h
 | cons t l =>
  rw[eat]at h
  split at h
  ·rename_i hp
   injection h with h
   exact⟨t,by rw[h],hp⟩
  ·cases h
theorem vars_spec(l:List Tok)(h:AllG l):(∀x∈(vars l).1,Gd 1 x)/\AllG (vars l).2/\(vars l).1.length+(vars l).2.length=l.length:=by
 induction l with
 | nil=>exact⟨λx hx=>by simp[vars]at hx,λx hx=>by simp[vars]at hx,rfl⟩
 | cons t r ih =>
  obtain⟨i1,i2,i3⟩:=ih h.tail
  rw[vars]
  by_cases hk:t.kind=1
  ·rw[if_pos hk]
   refine⟨λx hx=>?_,i2,by simp;omega⟩
   rcases List.mem_cons.1 hx with rfl|hx
   ·have:=h.head
    rw[Lx.Good,hk]at this
    exact⟨this.1,this.2.1,by omega⟩
   ·exact i1 x hx
  ·rw[if_neg hk]
   exact⟨λx hx=>by simp at hx,h,by simp⟩
theorem numOf_lt(l:List UInt8)(h:∀d∈l,isDig d=true):numOf l<10 ^ l.length:=by
 have key:∀(l:List UInt8) (a:Nat),(∀d∈l,isDig d=true)->l.foldl (λn c=>10*n+(c.toNat-48)) a<(a+1)*10 ^ l.length:=by
  intro l
  induction l with
  | nil=>intro a _;simp
  | cons c r ih =>
   intro a h
   have hc:=dig_range c (h c List.mem_cons_self)
   have:=ih (10*a+(c.toNat-48)) (λd hd=>h d (List.mem_cons_of_mem _ hd))
   rw[List.foldl_cons,List.length_cons,Nat.pow_succ]
   refine Nat.lt_of_lt_of_le this ?_
   rw[Nat.mul_comm (10 ^ r.length) 10,<-Nat.mul_assoc]
   exact Nat.mul_le_mul_right _ (by omega)
 have:=key l 0 h
 simpa[numOf] using this
theorem span_full(p:UInt8->Bool)(l:List UInt8)(h:span p l=l.length):∀d∈l,p d=true:=by
 induction l with
 | nil=>intro d hd;cases hd
 | cons c r ih =>
  rw[span]at h
  by_cases hp:p c=true
  ·rw[if_pos hp]at h
   intro d hd
   rcases List.mem_cons.1 hd with rfl|hd
   ·exact hp
   ·exact ih (by simpa using h) d hd
  ·rw[if_neg hp]at h;simp at h
theorem meta_num(t:Tok)(h:Lx.Good t)(hk:t.kind=5):numOf (t.text.drop 1)<=999999:=by
 obtain⟨h1,h2,_⟩:=h
 rw[hk]at h2
 cases hx:t.text with
 | nil=>exact absurd hx h1
 | cons c r =>
  rw[hx]at h2
  show numOf r<=999999
  rw[first]at h2
  split at h2
  ·exfalso
   unfold word at h2
   split at h2
   ·injection h2 with a _;omega
   ·injection h2 with a _
    unfold wordKind at a
    split at a
    ·omega
    ·split at a <;> omega
  ·split at h2
   ·exfalso
    rcases number_cases (c::r) with e|⟨e,_,_⟩ <;> rw[e]at h2 <;> injection h2 with a _ <;> omega
   ·split at h2
    ·unfold meta_ at h2
     split at h2
     ·injection h2 with a _;omega
     ·rename_i hn
      injection h2 with _ b
      rw[show(c::r).drop 1=r from rfl]at b hn
      rcases number_cases r with e|⟨e,_,h6⟩
      ·rw[e]at hn;exact absurd rfl hn
      ·rw[e]at b
       simp at b
       have hs:span isDig r=r.length:=by omega
       have:=numOf_lt r (span_full isDig r hs)
       have:(10:Nat) ^ r.length<=10 ^ 6:=Nat.pow_le_pow_right (by omega) (by omega)
       omega
    ·exfalso
     unfold sign at h2
     split at h2
     ·injection h2 with a _;omega
     ·split at h2
      ·injection h2 with a _;omega
      ·injection h2 with a _;omega
theorem alls_nm(xs:List (List UInt8))(t:Ty)(hx:∀x∈xs,Gd 1 x)(ht:Nm t):Nm (alls xs t):=by
 induction xs with
 | nil=>exact ht
 | cons x xs ih=>exact .all x _ (hx x List.mem_cons_self) (ih λy hy=>hx y (List.mem_cons_of_mem _ hy))
theorem alls_size(xs:List (List UInt8))(t:Ty):(alls xs t).size=xs.length+t.size:=by
 induction xs with
 | nil=>simp[alls]
 | cons x xs ih =>
  show(Ty.all x (alls xs t)).size=_
  rw[Ty.size,ih,List.length_cons];omega
theorem read_nm(f:Nat) :
  (∀l t r,AllG l->read f l=some (t,r)->Nm t/\AllG r/\t.size+r.length<=l.length) /\
  (∀l t r,AllG l->app f l=some (t,r)->Nm t/\AllG r/\t.size+r.length<=l.length) /\
  (∀l ts r,AllG l->args f l=some (ts,r)->(∀t∈ts,Nm t)/\AllG r/\sizeL ts+r.length<=l.length) /\
  (∀l t r,AllG l->atom f l=some (t,r)->Nm t/\AllG r/\t.size+r.length<=l.length):=by
 induction f with
 | zero=>exact⟨(λ_ _ _ _ h=>by simp[read]at h),(λ_ _ _ _ h=>by simp[app]at h),(λ_ _ _ _ h=>by simp[args]at h),(λ_ _ _ _ h=>by simp[atom]at h)⟩
 | succ f ih =>
  obtain⟨i1,i2,i3,i4⟩:=ih
  refine⟨λl t r hg h=>?_,λl t r hg h=>?_,λl ts r hg h=>?_,λl t r hg h=>?_⟩
  ·rw[read]at h
   cases he:eat (isKey · wForall) l with
   | some r1 =>
    rw[he]at h
    simp only at h
    obtain⟨t0,rfl,_⟩:=eat_some _ _ _ he
    obtain⟨v1,v2,v3⟩:=vars_spec r1 hg.tail
    split at h
    ·cases h
    ·cases he2:eat (isSign · [46]) (vars r1).2 with
     | none=>rw[he2]at h;cases h
     | some r2 =>
      rw[he2]at h
      simp only at h
      obtain⟨t1,e1,_⟩:=eat_some _ _ _ he2
      rw[e1]at v2 v3
      cases hr:read f r2 with
      | none=>rw[hr]at h;cases h
      | some x =>
       obtain⟨u,r3⟩:=x
       rw[hr]at h
       simp only[Option.map_some,Option.some.injEq,Prod.mk.injEq]at h
       obtain⟨rfl,rfl⟩:=h
       obtain⟨a,b,c⟩:=i1 r2 u r3 v2.tail hr
       refine⟨alls_nm _ _ v1 a,b,?_⟩
       rw[alls_size]
       simp only[List.length_cons]at v3 ⊢
       omega
   | none =>
    rw[he]at h
    simp only at h
    cases ha:app f l with
    | none=>rw[ha]at h;cases h
    | some x =>
     obtain⟨u,r1⟩:=x
     rw[ha]at h
     simp only at h
     obtain⟨a,b,c⟩:=i2 l u r1 hg ha
     cases he2:eat (isSign · [45,62]) r1 with
     | none =>
      rw[he2]at h
      simp only[Option.some.injEq,Prod.mk.injEq]at h
      obtain⟨rfl,rfl⟩:=h
      exact⟨a,b,c⟩
     | some r2 =>
      rw[he2]at h
      simp only at h
      obtain⟨t1,rfl,_⟩:=eat_some _ _ _ he2
      cases hr:read f r2 with
      | none=>rw[hr]at h;cases h
      | some x =>
       obtain⟨v,r3⟩:=x
       rw[hr]at h
       simp only[Option.map_some,Option.some.injEq,Prod.mk.injEq]at h
       obtain⟨rfl,rfl⟩:=h
       obtain⟨a2,b2,c2⟩:=i1 r2 v r3 b.tail hr
       refine⟨.fn _ _ a a2,b2,?_⟩
       rw[Ty.size]
       simp only[List.length_cons]at c
       omega
  ·cases l with
   | nil=>rw[app]at h;cases h
   | cons t0 l =>
    rw[app]at h
    split at h
    ·rename_i hk
     cases ha:args f l with
     | none=>rw[ha]at h;cases h
     | some x =>
      obtain⟨us,r1⟩:=x
      rw[ha]at h
      simp only[Option.map_some,Option.some.injEq,Prod.mk.injEq]at h
      obtain⟨rfl,rfl⟩:=h
      obtain⟨a,b,c⟩:=i3 l us r1 hg.tail ha
      have hgd:=hg.head
      rw[Lx.Good,hk]at hgd
      refine⟨.con _ _ ⟨hgd.1,hgd.2.1,by omega⟩ a,b,?_⟩
      rw[Ty.size]
      simp only[List.length_cons]
      omega
    ·exact i4 _ _ _ hg h
  ·cases l with
   | nil =>
    rw[args]at h
    simp only[Option.some.injEq,Prod.mk.injEq]at h
    obtain⟨rfl,rfl⟩:=h
    exact⟨(λt ht=>by cases ht),hg,by simp[sizeL]⟩
   | cons t0 l =>
    rw[args]at h
    split at h
    ·cases ha:atom f (t0::l) with
     | none=>rw[ha]at h;cases h
     | some x =>
      obtain⟨u,r1⟩:=x
      rw[ha]at h
      simp only at h
      obtain⟨a,b,c⟩:=i4 _ u r1 hg ha
      cases hb:args f r1 with
      | none=>rw[hb]at h;cases h
      | some y =>
       obtain⟨us,r2⟩:=y
       rw[hb]at h
       simp only[Option.map_some,Option.some.injEq,Prod.mk.injEq]at h
       obtain⟨rfl,rfl⟩:=h
       obtain⟨a2,b2,c2⟩:=i3 _ us r2 b hb
       refine⟨λt ht=>?_,b2,?_⟩
       ·rcases List.mem_cons.1 ht with rfl|ht
        ·exact a
        ·exact a2 t ht
       ·rw[sizeL];omega
    ·simp only[Option.some.injEq,Prod.mk.injEq]at h
     obtain⟨rfl,rfl⟩:=h
     exact⟨(λt ht=>by cases ht),hg,by simp[sizeL]⟩
  ·cases l with
   | nil=>rw[atom]at h;cases h
   | cons t0 l =>
    rw[atom]at h
    have hgd:=hg.head
    split at h
    ·rename_i hk
     simp only[Option.some.injEq,Prod.mk.injEq]at h
     obtain⟨rfl,rfl⟩:=h
     rw[Lx.Good,hk]at hgd
     exact⟨.var _ ⟨hgd.1,hgd.2.1,by omega⟩,hg.tail,by rw[Ty.size];simp;omega⟩
    ·split at h
     ·rename_i hk
      simp only[Option.some.injEq,Prod.mk.injEq]at h
      obtain⟨rfl,rfl⟩:=h
      rw[Lx.Good,hk]at hgd
      exact⟨.con _ _ ⟨hgd.1,hgd.2.1,by omega⟩ (λt ht=>by cases ht),hg.tail,by rw[Ty.size,sizeL];simp;omega⟩
     ·split at h
      ·rename_i hk
       simp only[Option.some.injEq,Prod.mk.injEq]at h
       obtain⟨rfl,rfl⟩:=h
       exact⟨.mt _ (meta_num t0 hgd hk),hg.tail,by rw[Ty.size];simp;omega⟩
      ·split at h
       ·cases hr:read f l with
        | none=>rw[hr]at h;cases h
        | some x =>
         obtain⟨u,r1⟩:=x
         rw[hr]at h
         simp only at h
         obtain⟨a,b,c⟩:=i1 l u r1 hg.tail hr
         cases he:eat (isSign · [41]) r1 with
         | none=>rw[he]at h;cases h
         | some r2 =>
          rw[he]at h
          simp only[Option.map_some,Option.some.injEq,Prod.mk.injEq]at h
          obtain⟨rfl,rfl⟩:=h
          obtain⟨t1,rfl,_⟩:=eat_some _ _ _ he
          refine⟨a,b.tail,?_⟩
          simp only[List.length_cons]at c ⊢
          omega
       ·cases h
end Tx
end Go.Proofs.YtknkclefoiohpaaGreatDoor

namespace Go.Proofs.YtknkclefoiohpaaGreatDoor
namespace Tx
open Lx
abbrev Name:=List UInt8
inductive Dt where
 | fv (x:Name)
 | bv (i:Nat)
 | mt (n:Nat)
 | con (c:Name) (l:List Dt)
 | fn (a b:Dt)
 | all (t:Dt)
def idx(x:Name):List Name->Option Nat
 | []=>none
 | y::r=>if x=y then some 0 else(idx x r).map (· + 1)
mutual
def db(env:List Name):Ty->Dt
 | .var x=>match idx x env with|some i=>.bv i|none=>.fv x
 | .mt n=>.mt n
 | .con c l=>.con c (dbL env l)
 | .fn a b=>.fn (db env a) (db env b)
 | .all x t=>.all (db (x::env) t)
def dbL(env:List Name):List Ty->List Dt
 | []=>[]
 | t::r=>db env t::dbL env r
end
def nm(letter:UInt8)(k:Nat):Name:=letter::dec k
mutual
def freeD:Dt->List Name->List Name
 | .fv x,out=>addN x out
 | .bv _,out=>out
 | .mt _,out=>out
 | .con _ l,out=>freeDL l out
 | .fn a b,out=>freeD b (freeD a out)
 | .all t,out=>freeD t out
def freeDL:List Dt->List Name->List Name
 | [],out=>out
 | t::r,out=>freeDL r (freeD t out)
end
end Tx
end Go.Proofs.YtknkclefoiohpaaGreatDoor

namespace Go.Proofs.YtknkclefoiohpaaGreatDoor
namespace Tx
open Lx
mutual
def allsD:Dt->Nat
 | .fv _=>0
 | .bv _=>0
 | .mt _=>0
 | .con _ l=>allsDL l
 | .fn a b=>allsD a+allsD b
 | .all t=>allsD t+1
def allsDL:List Dt->Nat
 | []=>0
 | t::r=>allsD t+allsDL r
end
def Small(d:Dt):Prop:=(allsD d+1)*((freeD d []).length+1)<10 ^ 15
end Tx
end Go.Proofs.YtknkclefoiohpaaGreatDoor

namespace Go.Proofs.YtknkclefoiohpaaGreatDoor
namespace Tx
open Lx
mutual
def FvOcc(x:Name):Dt->Prop
 | .fv y=>x=y
 | .bv _=>False
 | .mt _=>False
 | .con _ l=>FvOccL x l
 | .fn a b=>FvOcc x a\/FvOcc x b
 | .all t=>FvOcc x t
def FvOccL(x:Name):List Dt->Prop
 | []=>False
 | t::r=>FvOcc x t\/FvOccL x r
end
structure Put (S:List Name) (f:Name->Ty) (g:Nat->Ty):Prop where
 same:∀x,x∉S->f x=.var x
 here:∀x,x∈S->∀y,FvOcc y (db [] (f x))->y∈S
 meta_:∀n y,FvOcc y (db [] (g n))->y∈S
end Tx
end Go.Proofs.YtknkclefoiohpaaGreatDoor

namespace Go.Proofs.YtknkclefoiohpaaGreatDoor
open Go.RowKit Lx Tx
def kd:Ty->Nat
 | .var _=>1
 | .mt _=>2
 | .con _ _=>3
 | .fn _ _=>4
 | .all _ _=>5
def nmB:Ty->ByteArray
 | .var x=>⟨x.toArray⟩
 | .mt _=>⟨#[]⟩
 | .con c _=>⟨c.toArray⟩
 | .fn _ _=>⟨#[]⟩
 | .all x _=>⟨x.toArray⟩
def nn:Ty->Nat
 | .mt n=>n
 | _=>0
def kids:Ty->List Ty
 | .var _=>[]
 | .mt _=>[]
 | .con _ l=>l
 | .fn a b=>[a,b]
 | .all _ t=>[t]
def Cell4(w:World)(t:Ty)(A:Option Addr)(cap:Nat)(g o:Nat):Prop :=
 w.cell? ⟨g,o,none⟩=some (.int .i64 (kd t:Nat))/\w.cell? ⟨g,o+1,none⟩=some (.string (nmB t))/\w.cell? ⟨g,o+2,none⟩=some (.int .i64 (nn t:Nat)) /\
  w.cell? ⟨g,o+3,none⟩=some (.slice A (kids t).length cap)
mutual
def Args(S:Nat->Prop)(w:World):Ty->Option Addr->Prop
 | .var _,_=>True
 | .mt _,_=>True
 | .con _ l,A=>l≠[]->∃g,A=some ⟨g,0,none⟩/\S g/\RowT S w l g 0
 | .fn a b,A=>∃g,A=some ⟨g,0,none⟩/\S g/\(∃A1 c1,Cell4 w a A1 c1 g 0/\Args S w a A1)/\(∃A2 c2,Cell4 w b A2 c2 g 4/\Args S w b A2)
 | .all _ t,A=>∃g,A=some ⟨g,0,none⟩/\S g/\∃A1 c1,Cell4 w t A1 c1 g 0/\Args S w t A1
def RowT(S:Nat->Prop)(w:World):List Ty->Nat->Nat->Prop
 | [],_,_=>True
 | t::r,g,o=>(∃A c,Cell4 w t A c g o/\Args S w t A)/\RowT S w r g (o+4)
end
def RdV(S:Nat->Prop)(w:World)(t:Ty)(v:Value):Prop :=
 ∃A c,v=.agg #[.int .i64 (kd t:Nat),.string (nmB t),.int .i64 (nn t:Nat),.slice A (kids t).length c]/\Args S w t A
theorem kids_row(S:Nat->Prop)(w:World)(t:Ty)(A:Option Addr):Args S w t A↔(kids t≠[]->∃g,A=some ⟨g,0,none⟩/\S g/\RowT S w (kids t) g 0):=by
 cases t with
 | var x=>rw[Args,kids];simp
 | mt n=>rw[Args,kids];simp
 | con c l=>rw[Args,kids]
 | fn a b =>
  rw[Args,kids]
  constructor
  ·rintro⟨g,h1,h2,h3,h4⟩ _
   exact⟨g,h1,h2,by rw[RowT,RowT,RowT];exact⟨h3,h4,trivial⟩⟩
  ·intro h
   obtain⟨g,h1,h2,h3⟩:=h (by simp)
   rw[RowT,RowT,RowT]at h3
   exact⟨g,h1,h2,h3.1,h3.2.1⟩
 | all x t =>
  rw[Args,kids]
  constructor
  ·rintro⟨g,h1,h2,h3⟩ _
   exact⟨g,h1,h2,by rw[RowT,RowT];exact⟨h3,trivial⟩⟩
  ·intro h
   obtain⟨g,h1,h2,h3⟩:=h (by simp)
   rw[RowT,RowT]at h3
   exact⟨g,h1,h2,h3.1⟩
theorem Cell4.keep {w w':World} {t:Ty} {A:Option Addr} {c g o:Nat}(h:Cell4 w t A c g o)(hk:w'.heap[g]? = w.heap[g]?):Cell4 w' t A c g o:=by
 have e:∀i,w'.cell? ⟨g,i,none⟩=w.cell? ⟨g,i,none⟩:=λi=>World.cell?_of_block (w:=w) (a:=⟨g,i,none⟩) hk
 exact⟨(e _).trans h.1,(e _).trans h.2.1,(e _).trans h.2.2.1,(e _).trans h.2.2.2⟩
mutual
theorem Args.keep {S S':Nat->Prop} {w w':World}(hS:∀g,S g->S' g)(hk:∀g,S g->w'.heap[g]? = w.heap[g]?):(t:Ty)->∀A,Args S w t A->Args S' w' t A
 | .var x,A,_=>by rw[Args];trivial
 | .mt n,A,_=>by rw[Args];trivial
 | .con c l,A,h=>by
  rw[Args]at h ⊢
  intro hl
  obtain⟨g,h1,h2,h3⟩:=h hl
  exact⟨g,h1,hS g h2,RowT.keep hS hk l g 0 (hk g h2) h3⟩
 | .fn a b,A,h=>by
  rw[Args]at h ⊢
  obtain⟨g,h1,h2,⟨A1,c1,h3,h4⟩,⟨A2,c2,h5,h6⟩⟩:=h
  exact⟨g,h1,hS g h2,⟨A1,c1,h3.keep (hk g h2),Args.keep hS hk a A1 h4⟩,⟨A2,c2,h5.keep (hk g h2),Args.keep hS hk b A2 h6⟩⟩
 | .all x t,A,h=>by
  rw[Args]at h ⊢
  obtain⟨g,h1,h2,A1,c1,h3,h4⟩:=h
  exact⟨g,h1,hS g h2,A1,c1,h3.keep (hk g h2),Args.keep hS hk t A1 h4⟩
theorem RowT.keep {S S':Nat->Prop} {w w':World}(hS:∀g,S g->S' g)(hk:∀g,S g->w'.heap[g]? = w.heap[g]?):(l:List Ty)->∀g o,w'.heap[g]? = w.heap[g]?->RowT S w l g o->RowT S' w' l g o
 | [],_,_,_,_=>by rw[RowT];trivial
 | t::r,g,o,hg,h=>by
  rw[RowT]at h ⊢
  obtain⟨⟨A,c,h1,h2⟩,h3⟩:=h
  exact⟨⟨A,c,h1.keep hg,Args.keep hS hk t A h2⟩,RowT.keep hS hk r g (o+4) hg h3⟩
end
theorem RdV.keep {S S':Nat->Prop} {w w':World} {t:Ty} {v:Value}(h:RdV S w t v)(hS:∀g,S g->S' g)(hk:∀g,S g->w'.heap[g]? = w.heap[g]?):RdV S' w' t v:=by
 obtain⟨A,c,rfl,ha⟩:=h
 exact⟨A,c,rfl,Args.keep hS hk t A ha⟩
theorem RowT.at_ {S:Nat->Prop} {w:World} :(l:List Ty)->∀g o i (hi:i<l.length),RowT S w l g o->∃A c,Cell4 w l[i] A c g (o+i*4)/\Args S w l[i] A
 | [],_,_,i,hi,_=>absurd hi (by simp)
 | t::r,g,o,0,_,h=>by rw[RowT]at h;simpa using h.1
 | t::r,g,o,i+1,hi,h=>by
  rw[RowT]at h
  have:=RowT.at_ r g (o+4) i (by simpa using hi) h.2
  rw[show o+4+i*4=o+(i+1)*4 by omega]at this
  simpa using this
theorem Args.kid {S:Nat->Prop} {w:World} {t:Ty} {A:Option Addr}(h:Args S w t A)(i:Nat)(hi:i<(kids t).length) :
  ∃g,A=some ⟨g,0,none⟩/\S g/\∃A1 c1,Cell4 w (kids t)[i] A1 c1 g (i*4)/\Args S w (kids t)[i] A1:=by
 obtain⟨g,h1,h2,h3⟩:=(kids_row S w t A).1 h (by intro e;rw[e]at hi;simp at hi)
 have:=RowT.at_ _ g 0 i hi h3
 rw[Nat.zero_add]at this
 exact⟨g,h1,h2,this⟩
def tyV(t:Ty)(A:Option Addr)(c:Nat):List Value:=[.int .i64 (kd t:Nat),.string (nmB t),.int .i64 (nn t:Nat),.slice A (kids t).length c]
def TyRow(S:Nat->Prop)(w:World):List Ty->List Value->Prop
 | [],vs=>vs=[]
 | t::r,vs=>∃A c rest,vs=tyV t A c++rest/\Args S w t A/\TyRow S w r rest
theorem TyRow.len {S:Nat->Prop} {w:World} :(l:List Ty)->∀vs,TyRow S w l vs->vs.length=l.length*4
 | [],vs,h=>by rw[TyRow]at h;simp[h]
 | t::r,vs,h=>by
  rw[TyRow]at h
  obtain⟨A,c,rest,rfl,_,h⟩:=h
  have:=TyRow.len r rest h
  simp[tyV,this];omega
theorem TyRow.snoc {S:Nat->Prop} {w:World} {t:Ty} {A:Option Addr}(c:Nat)(ha:Args S w t A):(l:List Ty)->∀vs,TyRow S w l vs->TyRow S w (l++[t]) (vs++tyV t A c)
 | [],vs,h=>by
  rw[TyRow]at h
  rw[List.nil_append,TyRow]
  exact⟨A,c,[],by simp[h],ha,by rw[TyRow]⟩
 | u::r,vs,h=>by
  rw[TyRow]at h
  obtain⟨A',c',rest,rfl,h1,h2⟩:=h
  rw[List.cons_append,TyRow]
  exact⟨A',c',rest++tyV t A c,by simp,h1,TyRow.snoc c ha r rest h2⟩
theorem TyRow.keep {S S':Nat->Prop} {w w':World}(hS:∀g,S g->S' g)(hk:∀g,S g->w'.heap[g]? = w.heap[g]?):(l:List Ty)->∀vs,TyRow S w l vs->TyRow S' w' l vs
 | [],vs,h=>by rw[TyRow]at h ⊢;exact h
 | t::r,vs,h=>by
  rw[TyRow]at h ⊢
  obtain⟨A,c,rest,e,h1,h2⟩:=h
  exact⟨A,c,rest,e,Args.keep hS hk t A h1,TyRow.keep hS hk r rest h2⟩
theorem TyRow.row {S:Nat->Prop} {w:World} {g:Nat} :(l:List Ty)->∀vs o,TyRow S w l vs->(∀j u,vs[j]? = some u->w.cell? ⟨g,o+j,none⟩=some u)->RowT S w l g o
 | [],_,_,_,_=>by rw[RowT];trivial
 | t::r,vs,o,h,hc=>by
  rw[TyRow]at h
  obtain⟨A,c,rest,rfl,h1,h2⟩:=h
  rw[RowT]
  refine⟨⟨A,c,⟨hc 0 _ rfl,hc 1 _ rfl,hc 2 _ rfl,hc 3 _ rfl⟩,h1⟩,TyRow.row r rest (o+4) h2 λj u hu=>?_⟩
  rw[show o+4+j=o+(4+j) by omega]
  exact hc (4+j) u (by rw[List.getElem?_append_right (by simp[tyV])];simpa[tyV] using hu)
theorem own_below {w w':World} {B e size n:Nat} {v:Value} {xs:List Value}(h:w.ownsRow B e size v n xs)(hb:Below w.heap.size w w'):w'.ownsRow B e size v n xs:=by
 refine⟨h.1,?_⟩
 rcases h.2 with hn|⟨g,cap,cur,rfl,hg,hgg,rest⟩
 ·exact .inl hn
 ·exact .inr ⟨g,cap,cur,rfl,hg,by rw[hb.block g (Array.getElem?_eq_some_iff.1 hgg).1];exact hgg,rest⟩
def Built(T:Nat->Prop)(B:Nat)(e:TypeId)(w:World)(l:List Ty)(v:Value):Prop :=
 ∃vs,w.ownsRow B e 4 v l.length vs/\TyRow (λg=>(T g\/B<=g/\g<w.heap.size)/\some g≠v.ownBlock) w l vs
theorem Built.nil(T:Nat->Prop)(B:Nat)(e:TypeId)(w:World):Built T B e w [] (.slice none 0 0):=⟨[],World.ownsRow_nil _ _ _ _,by rw[TyRow]⟩
theorem Built.below {T:Nat->Prop} {B:Nat} {e:TypeId} {w w':World} {l:List Ty} {v:Value}(h:Built T B e w l v)(hT:∀g,T g->g<w.heap.size)(hb:Below w.heap.size w w'):Built T B e w' l v:=by
 obtain⟨vs,h1,h2⟩:=h
 refine⟨vs,own_below h1 hb,TyRow.keep ?_ ?_ l vs h2⟩
 ·rintro g ⟨h|h,h3⟩
  ·exact⟨.inl h,h3⟩
  ·exact⟨.inr ⟨h.1,Nat.lt_of_lt_of_le h.2 hb.size⟩,h3⟩
 ·rintro g ⟨h|h,h3⟩
  ·exact hb.block g (hT g h)
  ·exact hb.block g h.2
theorem Built.snoc {T:Nat->Prop} {B:Nat} {e:TypeId} {w w':World} {l:List Ty} {t:Ty} {v v':Value} {A:Option Addr} {c:Nat} {vs:List Value}
  (hT:∀g,T g->g<B)(hB:B<=w.heap.size)(hrow:TyRow (λg=>(T g\/B<=g/\g<w.heap.size)/\some g≠v.ownBlock) w l vs)
  (ha:Args (λg=>(T g\/B<=g/\g<w.heap.size)/\some g≠v.ownBlock) w t A)
  (hown:w'.ownsRow B e 4 v' (l.length+1) (vs++tyV t A c))(hg:w.grownBy w' v.ownBlock)(hat:v'.ownBlock=v.ownBlock\/v'.ownBlock=some w.heap.size) :
  Built T B e w' (l++[t]) v':=by
 have hsz:w.heap.size<=w'.heap.size:=hg.size
 have hk:∀g,((T g\/B<=g/\g<w.heap.size)/\some g≠v.ownBlock)->w'.heap[g]? = w.heap[g]?:=λg h=>hg.block g (by rcases h.1 with h1|h1;have:=hT g h1;omega;exact h1.2) h.2
 have hS:∀g,((T g\/B<=g/\g<w.heap.size)/\some g≠v.ownBlock)->((T g\/B<=g/\g<w'.heap.size)/\some g≠v'.ownBlock):=by
  rintro g ⟨h1,h2⟩
  have hlt:g<w.heap.size:=by rcases h1 with h1|h1;have:=hT g h1;omega;exact h1.2
  refine⟨?_,?_⟩
  ·rcases h1 with h1|h1
   ·exact .inl h1
   ·exact .inr ⟨h1.1,by omega⟩
  ·rcases hat with h|h
   ·rw[h];exact h2
   ·rw[h];intro e;injection e with e;omega
 refine⟨vs++tyV t A c,by rw[List.length_append];exact hown,TyRow.snoc c (Args.keep hS hk t A ha) l vs (TyRow.keep hS hk l vs hrow)⟩
theorem Built.next {T:Nat->Prop} {B:Nat} {e:TypeId} {w w1 w2 w3:World} {l:List Ty} {x:Ty} {v v':Value} {vs:List Value} {k z:Int} {s:ByteArray} {A:Option Addr} {m c:Nat}
  (hT:∀g,T g->g<B)(hB:B<=w.heap.size)(hown:w.ownsRow B e 4 v l.length vs)(hrow:TyRow (λg=>(T g\/B<=g/\g<w.heap.size)/\some g≠v.ownBlock) w l vs)
  (b1:Below w.heap.size w w1)(hr:RdV (λg=>T g\/w.heap.size<=g/\g<w1.heap.size) w1 x (.agg #[.int .i64 k,.string s,.int .i64 z,.slice A m c]))(b2:Below w1.heap.size w1 w2)
  (ho:w3.ownsRow B e 4 v' (l.length+1) (vs++[.int .i64 k,.string s,.int .i64 z,.slice A m c]))(hg:w2.grownBy w3 v.ownBlock)(hat:v'.ownBlock=v.ownBlock\/v'.ownBlock=some w2.heap.size) :
  Built T B e w3 (l++[x]) v':=by
 obtain⟨A',c',hv,ha⟩:=hr
 injection hv with hv
 have hv:=congrArg Array.toList hv
 simp only[List.cons.injEq,Value.int.injEq,Value.string.injEq,Value.slice.injEq,and_true,true_and]at hv
 obtain⟨rfl,rfl,rfl,rfl,rfl,rfl⟩:=hv
 have hlt:=hown.lt
 have s1:=b1.size
 have s2:=b2.size
 have b12:Below w.heap.size w w2:=b1.trans (b2.mono s1)
 refine Built.snoc (w:=w2) (c:=c) hT (by omega) (TyRow.keep (λg h=>?_) (λg h=>?_) l vs hrow) (Args.keep (λg h=>?_) (λg h=>?_) x A ha) ho hg hat
 ·refine⟨?_,h.2⟩
  rcases h.1 with h1|h1
  ·exact .inl h1
  ·exact .inr ⟨h1.1,by omega⟩
 ·exact b12.block g (by rcases h.1 with h1|h1;have:=hT g h1;omega;exact h1.2)
 ·rcases h with h1|h1
  ·refine⟨.inl h1,λe=>?_⟩
   have:=hlt _ e.symm
   have:=hT g h1
   omega
  ·refine⟨.inr ⟨by omega,by omega⟩,λe=>?_⟩
   have:=hlt _ e.symm
   omega
 ·exact b2.block g (by rcases h with h1|h1;have:=hT g h1;omega;exact h1.2)
theorem Built.setCell {T:Nat->Prop} {B:Nat} {e:TypeId} {w:World} {l:List Ty} {v:Value}(h:Built T B e w l v) {p:Addr}(u:Value)(hp:p.block<B)(hT:¬T p.block):Built T B e (w.setCell p u) l v:=by
 obtain⟨vs,h1,h2⟩:=h
 have hlt:=h1.lt
 have k1:∀g,(T g\/B<=g/\g<w.heap.size)/\some g≠v.ownBlock->(T g\/B<=g/\g<(w.setCell p u).heap.size)/\some g≠v.ownBlock:=by
  rintro g ⟨h3|h3,h4⟩
  ·exact⟨.inl h3,h4⟩
  ·exact⟨.inr ⟨h3.1,by simpa using h3.2⟩,h4⟩
 have k2:∀g,(T g\/B<=g/\g<w.heap.size)/\some g≠v.ownBlock->(w.setCell p u).heap[g]? = w.heap[g]?:=by
  rintro g ⟨h3,_⟩
  refine Below.heap_setCell w p u g λe=>?_
  rcases h3 with h3|h3
  ·exact hT (e▸h3)
  ·omega
 exact⟨vs,ownsRow_setCell_other h1 (λe=>by have:=hlt _ e;omega) u,TyRow.keep k1 k2 l vs h2⟩
theorem Built.args {T:Nat->Prop} {B:Nat} {e:TypeId} {w:World} {t:Ty} {A:Option Addr} {n c:Nat}(h:Built T B e w (kids t) (.slice A n c)) :
  n=(kids t).length/\Args (λg=>T g\/B<=g/\g<w.heap.size) w t A:=by
 obtain⟨vs,h1,h2⟩:=h
 have hc:=λg hg=>h1.cells (g:=g) hg
 have hlt:=h1.lt
 have hlen:=h2.len
 rcases h1.2 with⟨h3,h0⟩|⟨g,cap,cur,h3,_⟩
 ·injection h3 with e1 e2 e3
  subst e1 e2 e3
  have hk:kids t=[]:=by cases hk:kids t with|nil=>rfl|cons a b=>rw[hk]at h0;simp at h0
  exact⟨by rw[hk];rfl,(kids_row _ _ _ _).2 λh=>absurd hk h⟩
 ·injection h3 with e1 e2 e3
  subst e1 e2 e3
  refine⟨rfl,(kids_row _ _ _ _).2 λh=>⟨g,rfl,.inr ⟨(hlt g rfl).1,(hlt g rfl).2⟩,RowT.keep (λ_ h=>h) (λ_ _=>rfl) _ _ _ rfl (TyRow.row (kids t) vs 0 (TyRow.keep (λ_ h=>h.1) (λ_ _=>rfl) _ _ h2) λj u hu=>?_)⟩⟩
  have hadd:(⟨g,0,none⟩:Addr).add j=⟨g,j,none⟩:=by unfold Addr.add;split <;> simp_all
  have:=hc g rfl j u hu
  rw[hadd]at this
  rw[Nat.zero_add];exact this
def strV(l:List (List UInt8)):List Value:=l.map λx=>.string ⟨x.toArray⟩
end Go.Proofs.YtknkclefoiohpaaGreatDoor

namespace Go.Proofs.YtknkclefoiohpaaGreatDoor
namespace Sx
open Lx Tx
abbrev Nm:=List UInt8
mutual
inductive Ex where
 | var (x:Nm)
 | con (c:Nm)
 | lam (x:Nm) (e:Ex)
 | app (a b:Ex)
 | lt (x:Nm) (t:Option Ty) (a b:Ex)
 | cs (e:Ex) (l:List Al)
 | ann (e:Ex) (t:Ty)
inductive Al where
 | mk (c:Nm) (vs:List Nm) (b:Ex)
end
inductive De where
 | data (n:Nm) (ps:List Nm) (cs:List (Nm × Ty))
 | sig (x:Nm) (t:Ty)
 | bind (x:Nm) (e:Ex)
def wLet:Nm:=[108,101,116]
def wIn:Nm:=[105,110]
def wCase:Nm:=[99,97,115,101]
def wOf:Nm:=[111,102]
def wData:Nm:=[100,97,116,97]
def pArr(t:Tok):Bool:=isSign t [45,62]
def pEq(t:Tok):Bool:=isSign t [61]
def pCol(t:Tok):Bool:=isSign t [58]
def pSem(t:Tok):Bool:=isSign t [59]
def pOpn(t:Tok):Bool:=isSign t [123]
def pCls(t:Tok):Bool:=isSign t [125]
def pLam(t:Tok):Bool:=isSign t [92]
def pLp(t:Tok):Bool:=isSign t [40]
def pRp(t:Tok):Bool:=isSign t [41]
def atomE(t:Tok):Bool:=t.kind==1||t.kind==2||pLp t
def tok1(k:Nat):List Tok->Option (Nm × List Tok)
 | []=>none
 | t::r=>if t.kind=k then some (t.text,r) else none
def typ(l:List Tok):Option (Ty × List Tok):=read (enough l) l
def told(l:List Tok):Option (Option Ty × List Tok) :=
 match eat pCol l with
 | none=>some (none,l)
 | some r=>(typ r).map λy=>(some y.1,y.2)
mutual
def rdE:Nat->List Tok->Option (Ex × List Tok)
 | 0,_=>none
 | f+1,l =>
  match eat pLam l with
  | some r =>
   match tok1 1 r with
   | none=>none
   | some (x,r2) =>
    match eat pArr r2 with
    | none=>none
    | some r3=>(rdE f r3).map λy=>(.lam x y.1,y.2)
  | none =>
   match eat (isKey · wLet) l with
   | some r=>rdLet f r
   | none =>
    match eat (isKey · wCase) l with
    | some r=>rdCase f r
    | none=>rdApp f l
def rdLet:Nat->List Tok->Option (Ex × List Tok)
 | 0,_=>none
 | f+1,l =>
  match tok1 1 l with
  | none=>none
  | some (x,r) =>
   match told r with
   | none=>none
   | some (t,r2) =>
    match eat pEq r2 with
    | none=>none
    | some r3 =>
     match rdE f r3 with
     | none=>none
     | some (a,r4) =>
      match eat (isKey · wIn) r4 with
      | none=>none
      | some r5=>(rdE f r5).map λy=>(.lt x t a y.1,y.2)
def rdCase:Nat->List Tok->Option (Ex × List Tok)
 | 0,_=>none
 | f+1,l =>
  match rdE f l with
  | none=>none
  | some (a,r) =>
   match eat (isKey · wOf) r with
   | none=>none
   | some r2 =>
    match eat pOpn r2 with
    | none=>none
    | some r3 =>
     match eat pCls r3 with
     | some r4=>some (.cs a [],r4)
     | none =>
      match rdAlts f r3 with
      | none=>none
      | some (als,r4)=>(eat pCls r4).map λr5=>(.cs a als,r5)
def rdAlts:Nat->List Tok->Option (List Al × List Tok)
 | 0,_=>none
 | f+1,l =>
  match tok1 2 l with
  | none=>none
  | some (c,r) =>
   match eat pArr (vars r).2 with
   | none=>none
   | some r2 =>
    match rdE f r2 with
    | none=>none
    | some (b,r3) =>
     match eat pSem r3 with
     | none=>some ([.mk c (vars r).1 b],r3)
     | some r4=>(rdAlts f r4).map λy=>(.mk c (vars r).1 b::y.1,y.2)
def rdApp:Nat->List Tok->Option (Ex × List Tok)
 | 0,_=>none
 | f+1,l =>
  match rdAtom f l with
  | none=>none
  | some (a,r)=>rdArgs f a r
def rdArgs:Nat->Ex->List Tok->Option (Ex × List Tok)
 | 0,_,_=>none
 | f+1,a,l =>
  match l with
  | []=>some (a,[])
  | t::r =>
   if atomE t then
    match rdAtom f (t::r) with
    | none=>none
    | some (b,r2)=>rdArgs f (.app a b) r2
   else some (a,t::r)
def rdAtom:Nat->List Tok->Option (Ex × List Tok)
 | 0,_=>none
 | f+1,l =>
  match tok1 1 l with
  | some (x,r)=>some (.var x,r)
  | none =>
   match eat pLp l with
   | some r =>
    match rdE f r with
    | none=>none
    | some (a,r2) =>
     match told r2 with
     | none=>none
     | some (none,r3)=>(eat pRp r3).map λr4=>(a,r4)
     | some (some t,r3)=>(eat pRp r3).map λr4=>(.ann a t,r4)
   | none=>(tok1 2 l).map λy=>(.con y.1,y.2)
end
def enoughE(l:List Tok):Nat:=3*l.length+3
def rdCon(l:List Tok):Option ((Nm × Ty) × List Tok) :=
 match tok1 2 l with
 | none=>none
 | some (c,r) =>
  match eat pCol r with
  | none=>none
  | some r2=>(typ r2).map λy=>((c,y.1),y.2)
def sepF {α:Type}(p:List Tok->Option (α × List Tok)):Nat->List Tok->Option (List α × List Tok)
 | 0,_=>none
 | f+1,l =>
  match p l with
  | none=>none
  | some (x,r) =>
   match eat pSem r with
   | none=>some ([x],r)
   | some r2=>(sepF p f r2).map λy=>(x::y.1,y.2)
def sep {α:Type}(p:List Tok->Option (α × List Tok))(l:List Tok):Option (List α × List Tok):=sepF p (l.length+1) l
def rdData(l:List Tok):Option (De × List Tok) :=
 match tok1 2 l with
 | none=>none
 | some (n,r) =>
  match eat pOpn (vars r).2 with
  | none=>none
  | some r2 =>
   match eat pCls r2 with
   | some r3=>some (.data n (vars r).1 [],r3)
   | none =>
    match sep rdCon r2 with
    | none=>none
    | some (cs,r3)=>(eat pCls r3).map λr4=>(.data n (vars r).1 cs,r4)
def rdDecl(l:List Tok):Option (De × List Tok) :=
 match eat (isKey · wData) l with
 | some r=>rdData r
 | none =>
  match tok1 1 l with
  | none=>none
  | some (x,r) =>
   match eat pCol r with
   | some r2=>(typ r2).map λy=>(.sig x y.1,y.2)
   | none =>
    match eat pEq r with
    | none=>none
    | some r2=>(rdE (enoughE r2) r2).map λy=>(.bind x y.1,y.2)
def rdProg(l:List Tok):Option (List De × List Tok):=if l=[] then some ([],[]) else sep rdDecl l
mutual
def Ex.size:Ex->Nat
 | .var _=>1
 | .con _=>1
 | .lam _ e=>e.size+1
 | .app a b=>a.size+b.size+1
 | .lt _ _ a b=>a.size+b.size+1
 | .cs e l=>e.size+sizeA l+1
 | .ann e _=>e.size+1
def Al.size:Al->Nat
 | .mk _ _ b=>b.size
def sizeA:List Al->Nat
 | []=>0
 | a::r=>a.size+sizeA r
end
mutual
def Ex.depth:Ex->Nat
 | .var _=>1
 | .con _=>1
 | .lam _ e=>e.depth+1
 | .app a b=>max a.depth b.depth+1
 | .lt _ _ a b=>max a.depth b.depth+1
 | .cs e l=>max e.depth (depthA l)+1
 | .ann e _=>e.depth+1
def Al.depth:Al->Nat
 | .mk _ _ b=>b.depth
def depthA:List Al->Nat
 | []=>0
 | a::r=>max a.depth (depthA r)
end
def deepO:Option Ty->Bool
 | none=>false
 | some t=>decide (50<t.depth)
mutual
def Ex.deepT:Ex->Bool
 | .var _=>false
 | .con _=>false
 | .lam _ e=>e.deepT
 | .app a b=>a.deepT||b.deepT
 | .lt _ t a b=>deepO t ||(a.deepT||b.deepT)
 | .cs e l=>e.deepT||deepA l
 | .ann e t=>decide (50<t.depth)||e.deepT
def Al.deepT:Al->Bool
 | .mk _ _ b=>b.deepT
def deepA:List Al->Bool
 | []=>false
 | a::r=>a.deepT||deepA r
end
def Ex.tooDeep(e:Ex):Bool:=decide (50<e.depth)||e.deepT
def De.tooDeep:De->Bool
 | .data _ _ cs=>cs.any λc=>decide (50<c.2.depth)
 | .sig _ t=>decide (50<t.depth)
 | .bind _ e=>e.tooDeep
def parseE(s:List UInt8):Except Nat Ex :=
 match scanS s with
 |(ts,_,0) =>
  match rdE (enoughE ts) ts with
  | some (e,[])=>if e.tooDeep then .error 3 else .ok e
  | _=>.error 80
 |(_,_,e)=>.error e
def parseP(s:List UInt8):Except Nat (List De) :=
 match scanS s with
 |(ts,_,0) =>
  match rdProg ts with
  | some (l,[])=>if l.any De.tooDeep then .error 3 else .ok l
  | _=>.error 80
 |(_,_,e)=>.error e
def Ex.wide:Ex->Bool
 | .lam _ _=>true
 | .lt _ _ _ _=>true
 | .cs _ _=>true
 | _=>false
def Ex.isApp:Ex->Bool
 | .app _ _=>true
 | _=>false
def par(b:Bool)(s:Nm):Nm:=if b then 40::(s++[41]) else s
def sArr:Nm:=[32,45,62,32]
def sCol:Nm:=[32,58,32]
def sEq:Nm:=[32,61,32]
def sSem:Nm:=[59,32]
def toldS:Option Ty->Nm
 | none=>[]
 | some t=>sCol++t.print
def spaced(l:List Nm):Nm:=l.flatMap λx=>32::x
mutual
def Ex.print:Ex->Nm
 | .var x=>x
 | .con c=>c
 | .lam x e=>92::x++sArr++e.print
 | .app a b=>par a.wide a.print++[32]++par (b.wide||b.isApp) b.print
 | .lt x t a b=>wLet++[32]++x++toldS t++sEq++a.print++[32]++wIn++[32]++b.print
 | .cs e l=>wCase++[32]++e.print++[32]++wOf++[32,123]++printAs l++[125]
 | .ann e t=>40::e.print++sCol++t.print++[41]
def Al.print:Al->Nm
 | .mk c vs b=>c++spaced vs++sArr++b.print
def printAs:List Al->Nm
 | []=>[]
 | a::r=>a.print++printAr r
def printAr:List Al->Nm
 | []=>[]
 | a::r=>sSem++a.print++printAr r
end
def conS(c:Nm × Ty):Nm:=c.1++sCol++c.2.print
def sepS:List Nm->Nm
 | []=>[]
 | x::r=>x++r.flatMap λy=>sSem++y
def De.print:De->Nm
 | .data n ps cs=>wData++[32]++n++spaced ps++[32,123]++sepS (cs.map conS)++[125]
 | .sig x t=>x++sCol++t.print
 | .bind x e=>x++sEq++e.print
def printP(l:List De):Nm:=sepS (l.map De.print)
end Sx
end Go.Proofs.YtknkclefoiohpaaGreatDoor

namespace Go.Proofs.YtknkclefoiohpaaGreatDoor
namespace Sx
def but(vs:List Nm)(l:List Nm):List Nm:=l.filter λy=>!vs.contains y
mutual
def fr:Ex->List Nm
 | .var x=>[x]
 | .con _=>[]
 | .lam x e=>but [x] (fr e)
 | .app a b=>fr a++fr b
 | .lt x _ a b=>fr a++but [x] (fr b)
 | .cs e l=>fr e++frA l
 | .ann e _=>fr e
def fr1:Al->List Nm
 | .mk _ vs b=>but vs (fr b)
def frA:List Al->List Nm
 | []=>[]
 | a::r=>fr1 a++frA r
end
end Sx
end Go.Proofs.YtknkclefoiohpaaGreatDoor

namespace Go.Proofs.YtknkclefoiohpaaGreatDoor
namespace Sx
open Lx Tx
def conNames(cs:List (Nm × Ty)):List Nm:=cs.map (·.1)
def bindOf:De->List Nm
 | .bind x _=>[x]
 | _=>[]
def conOf:De->List Nm
 | .data _ _ cs=>conNames cs
 | _=>[]
def binds(l:List De):List Nm:=l.flatMap bindOf
def cons(l:List De):List Nm:=l.flatMap conOf
end Sx
end Go.Proofs.YtknkclefoiohpaaGreatDoor

namespace Go.Proofs.YtknkclefoiohpaaGreatDoor
namespace Sx
open Lx Tx
mutual
def Ex.Ok:Ex->Prop
 | .var x=>Gd 1 x
 | .con c=>Gd 2 c
 | .lam x e=>Gd 1 x/\e.Ok
 | .app a b=>a.Ok/\b.Ok
 | .lt x t a b=>Gd 1 x/\(∀u,t=some u->Tx.Nm u)/\a.Ok/\b.Ok
 | .cs e l=>e.Ok/\okA l
 | .ann e t=>e.Ok/\Tx.Nm t
def Al.Ok:Al->Prop
 | .mk c vs b=>Gd 2 c/\(∀x∈vs,Gd 1 x)/\b.Ok
def okA:List Al->Prop
 | []=>True
 | a::r=>a.Ok/\okA r
end
def toldW:Option Ty->Nat
 | none=>0
 | some t=>t.size
mutual
def Ex.wt:Ex->Nat
 | .var _=>1
 | .con _=>1
 | .lam _ e=>e.wt+1
 | .app a b=>a.wt+b.wt
 | .lt _ t a b=>toldW t+a.wt+b.wt+1
 | .cs e l=>e.wt+wtA l+1
 | .ann e t=>e.wt+t.size+1
def Al.wt:Al->Nat
 | .mk _ vs b=>vs.length+b.wt+1
def wtA:List Al->Nat
 | []=>0
 | a::r=>a.wt+wtA r
end
theorem eat_facts {p:Tok->Bool} {l r:List Tok}(hg:AllG l)(h:eat p l=some r):AllG r/\r.length+1=l.length:=by
 obtain⟨t,rfl,_⟩:=eat_some _ _ _ h
 exact⟨hg.tail,rfl⟩
theorem tok1_facts {k:Nat} {l r:List Tok} {x:Nm}(hk:k≠0)(hg:AllG l)(h:tok1 k l=some (x,r)):Gd k x/\AllG r/\r.length+1=l.length:=by
 cases l with
 | nil=>cases h
 | cons t r' =>
  rw[tok1]at h
  split at h
  ·rename_i ht
   injection h with h
   injection h with h1 h2
   subst h1 h2
   have:=hg.head
   rw[Lx.Good,ht]at this
   exact⟨⟨this.1,this.2.1,hk⟩,hg.tail,rfl⟩
  ·cases h
theorem typ_facts {l r:List Tok} {t:Ty}(hg:AllG l)(h:typ l=some (t,r)):Tx.Nm t/\AllG r/\t.size+r.length<=l.length:=(read_nm _).1 l t r hg h
theorem told_facts {l r:List Tok} {t:Option Ty}(hg:AllG l)(h:told l=some (t,r)):(∀u,t=some u->Tx.Nm u)/\AllG r/\toldW t+r.length<=l.length:=by
 unfold told at h
 cases he:eat pCol l with
 | none =>
  rw[he]at h
  simp only[Option.some.injEq,Prod.mk.injEq]at h
  obtain⟨rfl,rfl⟩:=h
  exact⟨(λu h=>by cases h),hg,by simp[toldW]⟩
 | some r1 =>
  rw[he]at h
  obtain⟨g1,l1⟩:=eat_facts hg he
  simp only at h
  cases hr:typ r1 with
  | none=>rw[hr]at h;cases h
  | some y =>
   obtain⟨u,r2⟩:=y
   rw[hr]at h
   simp only[Option.map_some,Option.some.injEq,Prod.mk.injEq]at h
   obtain⟨rfl,rfl⟩:=h
   obtain⟨a,b,c⟩:=typ_facts g1 hr
   exact⟨(λv hv=>by injection hv with hv;subst hv;exact a),b,by simp only[toldW];omega⟩
theorem rd_facts(f:Nat) :
  (∀l e r,AllG l->rdE f l=some (e,r)->e.Ok/\AllG r/\e.wt+r.length<=l.length) /\
  (∀l e r,AllG l->rdLet f l=some (e,r)->e.Ok/\AllG r/\e.wt+r.length<=l.length+1) /\
  (∀l e r,AllG l->rdCase f l=some (e,r)->e.Ok/\AllG r/\e.wt+r.length<=l.length+1) /\
  (∀l als r,AllG l->rdAlts f l=some (als,r)->okA als/\AllG r/\wtA als+r.length<=l.length) /\
  (∀l e r,AllG l->rdApp f l=some (e,r)->e.Ok/\AllG r/\e.wt+r.length<=l.length) /\
  (∀a l e r,a.Ok->AllG l->rdArgs f a l=some (e,r)->e.Ok/\AllG r/\e.wt+r.length<=a.wt+l.length) /\
  (∀l e r,AllG l->rdAtom f l=some (e,r)->e.Ok/\AllG r/\e.wt+r.length<=l.length):=by
 induction f with
 | zero=>exact⟨(λ_ _ _ _ h=>by simp[rdE]at h),(λ_ _ _ _ h=>by simp[rdLet]at h),(λ_ _ _ _ h=>by simp[rdCase]at h),(λ_ _ _ _ h=>by simp[rdAlts]at h),(λ_ _ _ _ h=>by simp[rdApp]at h),(λ_ _ _ _ _ _ h=>by simp[rdArgs]at h),(λ_ _ _ _ h=>by simp[rdAtom]at h)⟩
 | succ f ih =>
  obtain⟨iE,iL,iC,iA,iP,iG,iT⟩:=ih
  refine⟨λl e r hg h=>?_,λl e r hg h=>?_,λl e r hg h=>?_,λl als r hg h=>?_,λl e r hg h=>?_,λa l e r ha hg h=>?_,λl e r hg h=>?_⟩
  ·rw[rdE]at h
   cases he:eat pLam l with
   | some r1 =>
    rw[he]at h
    obtain⟨g1,l1⟩:=eat_facts hg he
    simp only at h
    cases h1:tok1 1 r1 with
    | none=>rw[h1]at h;cases h
    | some y =>
     obtain⟨x,r2⟩:=y
     rw[h1]at h
     obtain⟨x1,g2,l2⟩:=tok1_facts (by omega) g1 h1
     simp only at h
     cases h2:eat pArr r2 with
     | none=>rw[h2]at h;cases h
     | some r3 =>
      rw[h2]at h
      obtain⟨g3,l3⟩:=eat_facts g2 h2
      simp only at h
      cases h3:rdE f r3 with
      | none=>rw[h3]at h;cases h
      | some y =>
       obtain⟨b,r4⟩:=y
       rw[h3]at h
       simp only[Option.map_some,Option.some.injEq,Prod.mk.injEq]at h
       obtain⟨rfl,rfl⟩:=h
       obtain⟨o,g4,l4⟩:=iE _ _ _ g3 h3
       exact⟨⟨x1,o⟩,g4,by simp only[Ex.wt];omega⟩
   | none =>
    rw[he]at h
    simp only at h
    cases h1:eat (isKey · wLet) l with
    | some r1 =>
     rw[h1]at h
     obtain⟨g1,l1⟩:=eat_facts hg h1
     obtain⟨o,g2,l2⟩:=iL _ _ _ g1 h
     exact⟨o,g2,by omega⟩
    | none =>
     rw[h1]at h
     simp only at h
     cases h2:eat (isKey · wCase) l with
     | some r1 =>
      rw[h2]at h
      obtain⟨g1,l1⟩:=eat_facts hg h2
      obtain⟨o,g2,l2⟩:=iC _ _ _ g1 h
      exact⟨o,g2,by omega⟩
     | none =>
      rw[h2]at h
      exact iP _ _ _ hg h
  ·rw[rdLet]at h
   cases h1:tok1 1 l with
   | none=>rw[h1]at h;cases h
   | some y =>
    obtain⟨x,r1⟩:=y
    rw[h1]at h
    obtain⟨x1,g1,l1⟩:=tok1_facts (by omega) hg h1
    simp only at h
    cases h2:told r1 with
    | none=>rw[h2]at h;cases h
    | some y =>
     obtain⟨t,r2⟩:=y
     rw[h2]at h
     obtain⟨t1,g2,l2⟩:=told_facts g1 h2
     simp only at h
     cases h3:eat pEq r2 with
     | none=>rw[h3]at h;cases h
     | some r3 =>
      rw[h3]at h
      obtain⟨g3,l3⟩:=eat_facts g2 h3
      simp only at h
      cases h4:rdE f r3 with
      | none=>rw[h4]at h;cases h
      | some y =>
       obtain⟨a,r4⟩:=y
       rw[h4]at h
       obtain⟨o4,g4,l4⟩:=iE _ _ _ g3 h4
       simp only at h
       cases h5:eat (isKey · wIn) r4 with
       | none=>rw[h5]at h;cases h
       | some r5 =>
        rw[h5]at h
        obtain⟨g5,l5⟩:=eat_facts g4 h5
        simp only at h
        cases h6:rdE f r5 with
        | none=>rw[h6]at h;cases h
        | some y =>
         obtain⟨b,r6⟩:=y
         rw[h6]at h
         simp only[Option.map_some,Option.some.injEq,Prod.mk.injEq]at h
         obtain⟨rfl,rfl⟩:=h
         obtain⟨o6,g6,l6⟩:=iE _ _ _ g5 h6
         exact⟨⟨x1,t1,o4,o6⟩,g6,by simp only[Ex.wt];omega⟩
  ·rw[rdCase]at h
   cases h1:rdE f l with
   | none=>rw[h1]at h;cases h
   | some y =>
    obtain⟨a,r1⟩:=y
    rw[h1]at h
    obtain⟨o1,g1,l1⟩:=iE _ _ _ hg h1
    simp only at h
    cases h2:eat (isKey · wOf) r1 with
    | none=>rw[h2]at h;cases h
    | some r2 =>
     rw[h2]at h
     obtain⟨g2,l2⟩:=eat_facts g1 h2
     simp only at h
     cases h3:eat pOpn r2 with
     | none=>rw[h3]at h;cases h
     | some r3 =>
      rw[h3]at h
      obtain⟨g3,l3⟩:=eat_facts g2 h3
      simp only at h
      cases h4:eat pCls r3 with
      | some r4 =>
       rw[h4]at h
       obtain⟨g4,l4⟩:=eat_facts g3 h4
       simp only[Option.some.injEq,Prod.mk.injEq]at h
       obtain⟨rfl,rfl⟩:=h
       exact⟨⟨o1,trivial⟩,g4,by simp only[Ex.wt,wtA];omega⟩
      | none =>
       rw[h4]at h
       simp only at h
       cases h5:rdAlts f r3 with
       | none=>rw[h5]at h;cases h
       | some y =>
        obtain⟨als,r5⟩:=y
        rw[h5]at h
        obtain⟨o5,g5,l5⟩:=iA _ _ _ g3 h5
        simp only at h
        cases h6:eat pCls r5 with
        | none=>rw[h6]at h;cases h
        | some r6 =>
         rw[h6]at h
         obtain⟨g6,l6⟩:=eat_facts g5 h6
         simp only[Option.map_some,Option.some.injEq,Prod.mk.injEq]at h
         obtain⟨rfl,rfl⟩:=h
         exact⟨⟨o1,o5⟩,g6,by simp only[Ex.wt];omega⟩
  ·rw[rdAlts]at h
   cases h1:tok1 2 l with
   | none=>rw[h1]at h;cases h
   | some y =>
    obtain⟨c,r1⟩:=y
    rw[h1]at h
    obtain⟨c1,g1,l1⟩:=tok1_facts (by omega) hg h1
    obtain⟨v1,v2,v3⟩:=vars_spec r1 g1
    simp only at h
    cases h2:eat pArr (vars r1).2 with
    | none=>rw[h2]at h;cases h
    | some r2 =>
     rw[h2]at h
     obtain⟨g2,l2⟩:=eat_facts v2 h2
     simp only at h
     cases h3:rdE f r2 with
     | none=>rw[h3]at h;cases h
     | some y =>
      obtain⟨b,r3⟩:=y
      rw[h3]at h
      obtain⟨o3,g3,l3⟩:=iE _ _ _ g2 h3
      simp only at h
      cases h4:eat pSem r3 with
      | none =>
       rw[h4]at h
       simp only[Option.some.injEq,Prod.mk.injEq]at h
       obtain⟨rfl,rfl⟩:=h
       exact⟨⟨⟨c1,v1,o3⟩,trivial⟩,g3,by simp only[wtA,Al.wt];omega⟩
      | some r4 =>
       rw[h4]at h
       obtain⟨g4,l4⟩:=eat_facts g3 h4
       simp only at h
       cases h5:rdAlts f r4 with
       | none=>rw[h5]at h;cases h
       | some y =>
        obtain⟨als',r5⟩:=y
        rw[h5]at h
        simp only[Option.map_some,Option.some.injEq,Prod.mk.injEq]at h
        obtain⟨rfl,rfl⟩:=h
        obtain⟨o5,g5,l5⟩:=iA _ _ _ g4 h5
        exact⟨⟨⟨c1,v1,o3⟩,o5⟩,g5,by simp only[wtA,Al.wt];omega⟩
  ·rw[rdApp]at h
   cases h1:rdAtom f l with
   | none=>rw[h1]at h;cases h
   | some y =>
    obtain⟨a,r1⟩:=y
    rw[h1]at h
    obtain⟨o1,g1,l1⟩:=iT _ _ _ hg h1
    obtain⟨o2,g2,l2⟩:=iG _ _ _ _ o1 g1 h
    exact⟨o2,g2,by omega⟩
  ·cases l with
   | nil =>
    rw[rdArgs]at h
    simp only[Option.some.injEq,Prod.mk.injEq]at h
    obtain⟨rfl,rfl⟩:=h
    exact⟨ha,hg,by simp⟩
   | cons t r1 =>
    rw[rdArgs]at h
    split at h
    ·cases h1:rdAtom f (t::r1) with
     | none=>rw[h1]at h;cases h
     | some y =>
      obtain⟨b,r2⟩:=y
      rw[h1]at h
      obtain⟨o1,g1,l1⟩:=iT _ _ _ hg h1
      obtain⟨o2,g2,l2⟩:=iG _ _ _ _ (show(Ex.app a b).Ok from⟨ha,o1⟩) g1 h
      exact⟨o2,g2,by simp only[Ex.wt]at l2;omega⟩
    ·simp only[Option.some.injEq,Prod.mk.injEq]at h
     obtain⟨rfl,rfl⟩:=h
     exact⟨ha,hg,by simp⟩
  ·rw[rdAtom]at h
   cases h1:tok1 1 l with
   | some y =>
    obtain⟨x,r1⟩:=y
    rw[h1]at h
    obtain⟨x1,g1,l1⟩:=tok1_facts (by omega) hg h1
    simp only[Option.some.injEq,Prod.mk.injEq]at h
    obtain⟨rfl,rfl⟩:=h
    exact⟨x1,g1,by simp only[Ex.wt];omega⟩
   | none =>
    rw[h1]at h
    simp only at h
    cases h2:eat pLp l with
    | some r1 =>
     rw[h2]at h
     obtain⟨g1,l1⟩:=eat_facts hg h2
     simp only at h
     cases h3:rdE f r1 with
     | none=>rw[h3]at h;cases h
     | some y =>
      obtain⟨a,r2⟩:=y
      rw[h3]at h
      obtain⟨o3,g3,l3⟩:=iE _ _ _ g1 h3
      simp only at h
      cases h4:told r2 with
      | none=>rw[h4]at h;cases h
      | some y =>
       obtain⟨t,r3⟩:=y
       rw[h4]at h
       obtain⟨t4,g4,l4⟩:=told_facts g3 h4
       cases t with
       | none =>
        simp only at h
        cases h5:eat pRp r3 with
        | none=>rw[h5]at h;cases h
        | some r4 =>
         rw[h5]at h
         obtain⟨g5,l5⟩:=eat_facts g4 h5
         simp only[Option.map_some,Option.some.injEq,Prod.mk.injEq]at h
         obtain⟨rfl,rfl⟩:=h
         exact⟨o3,g5,by omega⟩
       | some t =>
        simp only at h
        cases h5:eat pRp r3 with
        | none=>rw[h5]at h;cases h
        | some r4 =>
         rw[h5]at h
         obtain⟨g5,l5⟩:=eat_facts g4 h5
         simp only[Option.map_some,Option.some.injEq,Prod.mk.injEq]at h
         obtain⟨rfl,rfl⟩:=h
         exact⟨⟨o3,t4 t rfl⟩,g5,by simp only[Ex.wt];simp only[toldW]at l4;omega⟩
    | none =>
     rw[h2]at h
     simp only at h
     cases h3:tok1 2 l with
     | none=>rw[h3]at h;cases h
     | some y =>
      obtain⟨x,r1⟩:=y
      rw[h3]at h
      obtain⟨x1,g1,l1⟩:=tok1_facts (by omega) hg h3
      simp only[Option.map_some,Option.some.injEq,Prod.mk.injEq]at h
      obtain⟨rfl,rfl⟩:=h
      exact⟨x1,g1,by simp only[Ex.wt];omega⟩
end Sx
end Go.Proofs.YtknkclefoiohpaaGreatDoor

namespace Go.Proofs.YtknkclefoiohpaaGreatDoor
open Go.RowKit Lx Tx
namespace Sx
def kdE:Ex->Nat
 | .var _=>1
 | .con _=>2
 | .lam _ _=>3
 | .app _ _=>4
 | .lt _ _ _ _=>5
 | .cs _ _=>6
 | .ann _ _=>7
def nmE:Ex->Nm
 | .var x=>x
 | .con c=>c
 | .lam x _=>x
 | .app _ _=>[]
 | .lt x _ _ _=>x
 | .cs _ _=>[]
 | .ann _ _=>[]
def toE:Ex->Bool
 | .lt _ (some _) _ _=>true
 | _=>false
def tyE:Ex->Option Ty
 | .lt _ t _ _=>t
 | .ann _ t=>some t
 | _=>none
def kidsE:Ex->List Ex
 | .var _=>[]
 | .con _=>[]
 | .lam _ e=>[e]
 | .app a b=>[a,b]
 | .lt _ _ a b=>[a,b]
 | .cs e _=>[e]
 | .ann e _=>[e]
def altsE:Ex->List Al
 | .cs _ l=>l
 | _=>[]
def strV(x:Nm):Value:=.string ⟨x.toArray⟩
structure Pls where
 A:Option Addr
 a:Nat
 K:Option Addr
 k:Nat
 L:Option Addr
 l:Nat
def tyC:Option Ty->Option Addr->Nat->List Value
 | none,_,_=>[.int .i64 0,.string ⟨#[]⟩,.int .i64 0,.slice none 0 0]
 | some t,A,c=>tyV t A c
def exC(e:Ex)(P:Pls):List Value :=
 [.int .i64 (kdE e:Nat),strV (nmE e),.bool (toE e)]++tyC (tyE e) P.A P.a++[.slice P.K (kidsE e).length ((kidsE e).length+P.k),.slice P.L (altsE e).length P.l]
theorem tyC_length(t:Option Ty)(A:Option Addr)(c:Nat):(tyC t A c).length=4:=by cases t <;> rfl
theorem exC_length(e:Ex)(P:Pls):(exC e P).length=9:=by simp[exC,tyC_length]
def Lie(w:World)(g o:Nat)(vs:List Value):Prop:=∀(j:Nat)(v:Value),vs[j]? = some v->w.cell? ⟨g,o+j,none⟩=some v
def TyA(S:Nat->Prop)(w:World):Option Ty->Option Addr->Prop
 | none,_=>True
 | some t,A=>Args S w t A
def NmsIn(S:Nat->Prop)(w:World)(vs:List Nm)(V:Option Addr):Prop:=vs≠[]->∃g,V=some ⟨g,0,none⟩/\S g/\Lie w g 0 (vs.map strV)
mutual
def ExIn(S:Nat->Prop)(w:World):Ex->Option Addr->Option Addr->Prop
 | .var _,_,_=>True
 | .con _,_,_=>True
 | .lam _ e,K,_=>∃g,K=some ⟨g,0,none⟩/\S g/\∃P:Pls,Lie w g 0 (exC e P)/\TyA S w (tyE e) P.A/\ExIn S w e P.K P.L
 | .app a b,K,_=>∃g,K=some ⟨g,0,none⟩/\S g/\(∃P:Pls,Lie w g 0 (exC a P)/\TyA S w (tyE a) P.A/\ExIn S w a P.K P.L)/\∃P:Pls,Lie w g 9 (exC b P)/\TyA S w (tyE b) P.A/\ExIn S w b P.K P.L
 | .lt _ _ a b,K,_=>∃g,K=some ⟨g,0,none⟩/\S g/\(∃P:Pls,Lie w g 0 (exC a P)/\TyA S w (tyE a) P.A/\ExIn S w a P.K P.L)/\∃P:Pls,Lie w g 9 (exC b P)/\TyA S w (tyE b) P.A/\ExIn S w b P.K P.L
 | .cs e l,K,L=>(∃g,K=some ⟨g,0,none⟩/\S g/\∃P:Pls,Lie w g 0 (exC e P)/\TyA S w (tyE e) P.A/\ExIn S w e P.K P.L)/\(l≠[]->∃g,L=some ⟨g,0,none⟩/\S g/\AlsIn S w l g 0)
 | .ann e _,K,_=>∃g,K=some ⟨g,0,none⟩/\S g/\∃P:Pls,Lie w g 0 (exC e P)/\TyA S w (tyE e) P.A/\ExIn S w e P.K P.L
def AlIn(S:Nat->Prop)(w:World):Al->Nat->Nat->Prop
 | .mk c vs b,g,o=>w.cell? ⟨g,o,none⟩=some (strV c)/\(∃V,∃v : {v:Nat // vs.length<=v},w.cell? ⟨g,o+1,none⟩=some (.slice V vs.length v)/\NmsIn S w vs V) /\
   ∃P:Pls,Lie w g (o+2) (exC b P)/\TyA S w (tyE b) P.A/\ExIn S w b P.K P.L
def AlsIn(S:Nat->Prop)(w:World):List Al->Nat->Nat->Prop
 | [],_,_=>True
 | a::r,g,o=>AlIn S w a g o/\AlsIn S w r g (o+11)
end
def ExAt(S:Nat->Prop)(w:World)(e:Ex)(g o:Nat):Prop:=∃P:Pls,Lie w g o (exC e P)/\TyA S w (tyE e) P.A/\ExIn S w e P.K P.L
def RdX(S:Nat->Prop)(w:World)(e:Ex)(v:Value):Prop:=∃P:Pls,v=.agg (exC e P).toArray/\TyA S w (tyE e) P.A/\ExIn S w e P.K P.L
def ExsAt(S:Nat->Prop)(w:World):List Ex->Nat->Nat->Prop
 | [],_,_=>True
 | e::r,g,o=>ExAt S w e g o/\ExsAt S w r g (o+9)
theorem Lie.keep {w w':World} {g o:Nat} {vs:List Value}(h:Lie w g o vs)(hk:w'.heap[g]? = w.heap[g]?):Lie w' g o vs:=λj v hj =>
 (World.cell?_of_block (w:=w) (a:=⟨g,o+j,none⟩) hk).trans (h j v hj)
theorem cell_keep {w w':World} {g o:Nat} {v:Value}(h:w.cell? ⟨g,o,none⟩=some v)(hk:w'.heap[g]? = w.heap[g]?):w'.cell? ⟨g,o,none⟩=some v :=
 (World.cell?_of_block (w:=w) (a:=⟨g,o,none⟩) hk).trans h
theorem TyA.keep {S S':Nat->Prop} {w w':World}(hS:∀g,S g->S' g)(hk:∀g,S g->w'.heap[g]? = w.heap[g]?) {t:Option Ty} {A:Option Addr}(h:TyA S w t A):TyA S' w' t A:=by
 cases t with
 | none=>trivial
 | some t=>exact Args.keep hS hk t A h
theorem NmsIn.keep {S S':Nat->Prop} {w w':World}(hS:∀g,S g->S' g)(hk:∀g,S g->w'.heap[g]? = w.heap[g]?) {vs:List Nm} {V:Option Addr}(h:NmsIn S w vs V):NmsIn S' w' vs V:=λhv=>by
 obtain⟨g,h1,h2,h3⟩:=h hv
 exact⟨g,h1,hS g h2,h3.keep (hk g h2)⟩
mutual
theorem ExIn.keep {S S':Nat->Prop} {w w':World}(hS:∀g,S g->S' g)(hk:∀g,S g->w'.heap[g]? = w.heap[g]?):(e:Ex)->∀K L,ExIn S w e K L->ExIn S' w' e K L
 | .var _,_,_,_=>by rw[ExIn];trivial
 | .con _,_,_,_=>by rw[ExIn];trivial
 | .lam _ e,K,L,h=>by
  rw[ExIn]at h ⊢
  obtain⟨g,h1,h2,P,h3,h4,h5⟩:=h
  exact⟨g,h1,hS g h2,P,h3.keep (hk g h2),h4.keep hS hk,ExIn.keep hS hk e _ _ h5⟩
 | .app a b,K,L,h=>by
  rw[ExIn]at h ⊢
  obtain⟨g,h1,h2,⟨P,h3,h4,h5⟩,Q,h6,h7,h8⟩:=h
  exact⟨g,h1,hS g h2,⟨P,h3.keep (hk g h2),h4.keep hS hk,ExIn.keep hS hk a _ _ h5⟩,Q,h6.keep (hk g h2),h7.keep hS hk,ExIn.keep hS hk b _ _ h8⟩
 | .lt _ _ a b,K,L,h=>by
  rw[ExIn]at h ⊢
  obtain⟨g,h1,h2,⟨P,h3,h4,h5⟩,Q,h6,h7,h8⟩:=h
  exact⟨g,h1,hS g h2,⟨P,h3.keep (hk g h2),h4.keep hS hk,ExIn.keep hS hk a _ _ h5⟩,Q,h6.keep (hk g h2),h7.keep hS hk,ExIn.keep hS hk b _ _ h8⟩
 | .cs e l,K,L,h=>by
  rw[ExIn]at h ⊢
  obtain⟨⟨g,h1,h2,P,h3,h4,h5⟩,h6⟩:=h
  refine⟨⟨g,h1,hS g h2,P,h3.keep (hk g h2),h4.keep hS hk,ExIn.keep hS hk e _ _ h5⟩,λhl=>?_⟩
  obtain⟨g2,a1,a2,a3⟩:=h6 hl
  exact⟨g2,a1,hS g2 a2,AlsIn.keep hS hk l g2 0 (hk g2 a2) a3⟩
 | .ann e _,K,L,h=>by
  rw[ExIn]at h ⊢
  obtain⟨g,h1,h2,P,h3,h4,h5⟩:=h
  exact⟨g,h1,hS g h2,P,h3.keep (hk g h2),h4.keep hS hk,ExIn.keep hS hk e _ _ h5⟩
theorem AlIn.keep {S S':Nat->Prop} {w w':World}(hS:∀g,S g->S' g)(hk:∀g,S g->w'.heap[g]? = w.heap[g]?):(a:Al)->∀g o,w'.heap[g]? = w.heap[g]?->AlIn S w a g o->AlIn S' w' a g o
 | .mk c vs b,g,o,hg,h=>by
  rw[AlIn]at h ⊢
  obtain⟨h1,⟨V,v,h2,h3⟩,P,h4,h5,h6⟩:=h
  exact⟨cell_keep h1 hg,⟨V,v,cell_keep h2 hg,h3.keep hS hk⟩,P,h4.keep hg,h5.keep hS hk,ExIn.keep hS hk b _ _ h6⟩
theorem AlsIn.keep {S S':Nat->Prop} {w w':World}(hS:∀g,S g->S' g)(hk:∀g,S g->w'.heap[g]? = w.heap[g]?):(l:List Al)->∀g o,w'.heap[g]? = w.heap[g]?->AlsIn S w l g o->AlsIn S' w' l g o
 | [],_,_,_,_=>by rw[AlsIn];trivial
 | a::r,g,o,hg,h=>by
  rw[AlsIn]at h ⊢
  exact⟨AlIn.keep hS hk a g o hg h.1,AlsIn.keep hS hk r g (o+11) hg h.2⟩
end
theorem ExAt.keep {S S':Nat->Prop} {w w':World} {e:Ex} {g o:Nat}(h:ExAt S w e g o)(hS:∀g,S g->S' g)(hk:∀g,S g->w'.heap[g]? = w.heap[g]?)(hg:w'.heap[g]? = w.heap[g]?):ExAt S' w' e g o:=by
 obtain⟨P,h1,h2,h3⟩:=h
 exact⟨P,h1.keep hg,h2.keep hS hk,ExIn.keep hS hk e _ _ h3⟩
theorem RdX.keep {S S':Nat->Prop} {w w':World} {e:Ex} {v:Value}(h:RdX S w e v)(hS:∀g,S g->S' g)(hk:∀g,S g->w'.heap[g]? = w.heap[g]?):RdX S' w' e v:=by
 obtain⟨P,rfl,h2,h3⟩:=h
 exact⟨P,rfl,h2.keep hS hk,ExIn.keep hS hk e _ _ h3⟩
theorem kids_at {S:Nat->Prop} {w:World}(e:Ex)(K L:Option Addr):ExIn S w e K L↔((kidsE e≠[]->∃g,K=some ⟨g,0,none⟩/\S g/\ExsAt S w (kidsE e) g 0)/\(altsE e≠[]->∃g,L=some ⟨g,0,none⟩/\S g/\AlsIn S w (altsE e) g 0)):=by
 cases e with
 | var x=>rw[ExIn];simp[kidsE,altsE]
 | con c=>rw[ExIn];simp[kidsE,altsE]
 | lam x e =>
  rw[ExIn]
  refine⟨λ⟨g,h1,h2,h3⟩=>⟨λ_=>⟨g,h1,h2,h3,trivial⟩,λh=>absurd rfl h⟩,λ⟨h,_⟩=>?_⟩
  obtain⟨g,h1,h2,h3,_⟩:=h (by simp[kidsE])
  exact⟨g,h1,h2,h3⟩
 | app a b =>
  rw[ExIn]
  refine⟨λ⟨g,h1,h2,h3,h4⟩=>⟨λ_=>⟨g,h1,h2,h3,h4,trivial⟩,λh=>absurd rfl h⟩,λ⟨h,_⟩=>?_⟩
  obtain⟨g,h1,h2,h3,h4,_⟩:=h (by simp[kidsE])
  exact⟨g,h1,h2,h3,h4⟩
 | lt x t a b =>
  rw[ExIn]
  refine⟨λ⟨g,h1,h2,h3,h4⟩=>⟨λ_=>⟨g,h1,h2,h3,h4,trivial⟩,λh=>absurd rfl h⟩,λ⟨h,_⟩=>?_⟩
  obtain⟨g,h1,h2,h3,h4,_⟩:=h (by simp[kidsE])
  exact⟨g,h1,h2,h3,h4⟩
 | cs e l =>
  rw[ExIn]
  refine⟨λ⟨⟨g,h1,h2,h3⟩,h4⟩=>⟨λ_=>⟨g,h1,h2,h3,trivial⟩,h4⟩,λ⟨h,h4⟩=>⟨?_,h4⟩⟩
  obtain⟨g,h1,h2,h3,_⟩:=h (by simp[kidsE])
  exact⟨g,h1,h2,h3⟩
 | ann e t =>
  rw[ExIn]
  refine⟨λ⟨g,h1,h2,h3⟩=>⟨λ_=>⟨g,h1,h2,h3,trivial⟩,λh=>absurd rfl h⟩,λ⟨h,_⟩=>?_⟩
  obtain⟨g,h1,h2,h3,_⟩:=h (by simp[kidsE])
  exact⟨g,h1,h2,h3⟩
theorem ExsAt.at_ {S:Nat->Prop} {w:World} :(l:List Ex)->∀g o i (hi:i<l.length),ExsAt S w l g o->ExAt S w l[i] g (o+i*9)
 | [],_,_,i,hi,_=>absurd hi (by simp)
 | e::r,g,o,0,_,h=>by rw[ExsAt]at h;simpa using h.1
 | e::r,g,o,i+1,hi,h=>by
  rw[ExsAt]at h
  have:=ExsAt.at_ r g (o+9) i (by simpa using hi) h.2
  rw[show o+9+i*9=o+(i+1)*9 by omega]at this
  simpa using this
theorem AlsIn.at_ {S:Nat->Prop} {w:World} :(l:List Al)->∀g o i (hi:i<l.length),AlsIn S w l g o->AlIn S w l[i] g (o+i*11)
 | [],_,_,i,hi,_=>absurd hi (by simp)
 | a::r,g,o,0,_,h=>by rw[AlsIn]at h;simpa using h.1
 | a::r,g,o,i+1,hi,h=>by
  rw[AlsIn]at h
  have:=AlsIn.at_ r g (o+11) i (by simpa using hi) h.2
  rw[show o+11+i*11=o+(i+1)*11 by omega]at this
  simpa using this
def alB:Al->Ex
 | .mk _ _ b=>b
def parts(e:Ex):List Ex:=kidsE e++(altsE e).map alB
theorem size_parts(e:Ex):e.size=1+((parts e).map Ex.size).sum:=by
 have hA:∀l:List Al,sizeA l=((l.map alB).map Ex.size).sum:=by
  intro l
  induction l with
  | nil=>rfl
  | cons a r ih=>cases a;simp[sizeA,Al.size,alB,ih]
 cases e <;> simp[Ex.size,parts,kidsE,altsE,hA] <;> omega
theorem depth_parts(e:Ex):e.depth=1+((parts e).map Ex.depth).foldl max 0:=by
 have hm:∀(l:List Nat) (a:Nat),l.foldl max a=max a (l.foldl max 0):=by
  intro l
  induction l with
  | nil=>intro a;simp
  | cons x r ih=>intro a;rw[List.foldl_cons,List.foldl_cons,ih (max a x),ih (max 0 x)];omega
 have hA:∀l:List Al,depthA l=((l.map alB).map Ex.depth).foldl max 0:=by
  intro l
  induction l with
  | nil=>rfl
  | cons a r ih=>cases a;rw[depthA,ih];simp only[Al.depth,alB,List.map_cons,List.foldl_cons];rw[hm _ (max 0 _)];omega
 cases e with
 | var x=>rfl
 | con x=>rfl
 | lam x e=>simp[Ex.depth,parts,kidsE,altsE];omega
 | app a b=>simp[Ex.depth,parts,kidsE,altsE];omega
 | lt x t a b=>simp[Ex.depth,parts,kidsE,altsE];omega
 | cs e l =>
  simp only[Ex.depth,parts,kidsE,altsE,hA,List.map_append,List.foldl_append,List.map_cons,List.map_nil,List.foldl_cons,List.foldl_nil]
  rw[hm _ (max 0 e.depth)];omega
 | ann e t=>simp[Ex.depth,parts,kidsE,altsE];omega
theorem deep_parts(e:Ex):e.deepT=(deepO (tyE e) ||(parts e).any Ex.deepT):=by
 have hA:∀l:List Al,deepA l=(l.map alB).any Ex.deepT:=by
  intro l
  induction l with
  | nil=>rfl
  | cons a r ih=>cases a;simp[deepA,Al.deepT,alB,ih]
 cases e <;> simp[Ex.deepT,parts,kidsE,altsE,tyE,deepO,hA]
end Sx
end Go.Proofs.YtknkclefoiohpaaGreatDoor
