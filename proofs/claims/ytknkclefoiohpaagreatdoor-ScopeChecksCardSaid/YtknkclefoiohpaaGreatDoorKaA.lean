import Derived.Below
import Derived.Laws.AppendOwn
import Derived.Laws.Rows
import Derived.Lib.Strings
import Derived.Maps.AppendAt
import Derived.OwnWalk
import Derived.Tactics
set_option maxHeartbeats 12800000
namespace Go.Proofs
abbrev tV:=@Nat.le_refl
abbrev tW:=@Go.heap_alloc_new
abbrev tY:=@Go.RowKit.Below.heap_setCell
abbrev ua:=@Go.RowKit.Below.refl
abbrev ub:=@Go.bodyPost_ret
abbrev uc:=@Go.RowKit.Below.heap_alloc
abbrev ud:=@if_pos
abbrev ue:=@if_neg
abbrev uf:=@List.length_append
abbrev ug:=@List.getElem?_eq_getElem
abbrev uh:=@List.setIfInBounds_toArray
abbrev ui:=@List.length_cons
abbrev uj:=@List.getElem?_eq_some_iff
abbrev uk:=@Go.heap_setCell_same
abbrev um:=@Option.some.injEq
abbrev uo:=@beq_eq_false_iff_ne
abbrev uq:=@Option.map_some
abbrev ur:=@List.take_of_length_le
abbrev uu:=@List.set_cons_zero
abbrev uv:=@List.set_cons_succ
abbrev uw:=@Prod.mk.injEq
abbrev ux:=@decide_eq_false
abbrev uy:=@List.append_assoc
abbrev uz:=@List.mem_append
abbrev uA:=@List.flatMap_append
abbrev uB:=@decide_eq_true
abbrev uC:=@congrArg
abbrev uD:=@List.drop_eq_nil_of_le
abbrev uE:=@Option.bind_some
abbrev uF:=@List.length_nil
abbrev uG:=@List.drop_eq_getElem_cons
abbrev uH:=@List.flatMap_cons
abbrev uI:=@List.getElem?_append_right
abbrev uJ:=@Nat.zero_add
abbrev uK:=@Go.Lib.toList_data
abbrev uL:=@List.take_add_one
abbrev uM:=@List.mem_of_getElem?
abbrev uN:=@Go.RowKit.Below.alloc
abbrev uO:=@Nat.lt_of_lt_of_le
abbrev uP:=@Go.wpList_append_own_at
abbrev uQ:=@Go.RowKit.Below.drew
abbrev uR:=@List.length_drop
abbrev uS:=@List.cons_append
abbrev uT:=@List.mem_cons
abbrev uU:=@List.findSome?_cons
abbrev uV:=@Go.World.cell?_of_block
abbrev uW:=@List.append_nil
abbrev uX:=@Nat.le_trans
abbrev uY:=@Bool.eq_false_iff
abbrev uZ:=@Go.World.ownsRow_nil
abbrev u9:=@List.not_mem_nil
abbrev vd:=@List.mem_iff_getElem?
abbrev ve:=@List.mem_cons_self
abbrev vf:=@Go.Lib.size_eq
abbrev vg:=@of_decide_eq_true
abbrev vh:=@of_decide_eq_false
abbrev vp:=@List.mem_cons_of_mem
abbrev vr:=@List.flatMap_nil
abbrev vt:=@Nat.add_sub_cancel_left
abbrev vw:=@List.length_eq_zero_iff
abbrev vy:=@Bool.false_eq_true
abbrev vz:=@Go.info_parts
abbrev vA:=@List.getElem?_map
abbrev vB:=@List.getElem?_append_left
abbrev vC:=@List.nil_append
abbrev vD:=@List.findSome?_append
abbrev vE:=@Go.results_none
abbrev vF:=@List.foldl_cons
abbrev vG:=@List.find?_cons
abbrev vH:=@List.cons.injEq
abbrev vI:=@List.map_cons
abbrev vJ:=@Option.map_map
abbrev vK:=@Nat.zero_le
abbrev vL:=@List.mem_singleton
abbrev vM:=@Go.RowKit.Below.setCell
abbrev vN:=@List.length_take
abbrev vO:=@List.take_succ_cons
abbrev vP:=@List.foldl_append
abbrev vQ:=@List.take_append_drop
abbrev vR:=@List.tail_cons
abbrev vS:=@List.drop_zero
abbrev vT:=@List.mem_flatMap
abbrev vU:=@List.drop_length
abbrev vV:=@Bool.and_eq_true
abbrev vW:=@List.take_zero
abbrev vX:=@List.drop_drop
abbrev vY:=@or_false
abbrev vZ:=@if_false
abbrev v8:=@List.singleton_append
abbrev wb:=@List.map_append
abbrev we:=@List.length_singleton
abbrev wg:=@List.mem_of_find?_eq_some
abbrev wh:=@List.map_nil
abbrev wj:=@true_and
abbrev wk:=@Nat.add_assoc
abbrev wm:=@List.getElem?_cons_succ
abbrev wu:=@false_or
abbrev wz:=@and_true
abbrev wA:=@if_true
abbrev wB:=@List.any_eq_true
abbrev wC:=@Iff.rfl
abbrev wD:=@Bool.false_or
abbrev wE:=@beq_iff_eq
abbrev wF:=@List.length_pos_iff
abbrev wG:=@List.length_map
abbrev wH:=@List.getD_eq_getElem?_getD
abbrev wI:=@List.mem_map
end Go.Proofs
namespace Go.Proofs.YtknkclefoiohpaaGreatDoor
namespace Lx
def isUp(c:UInt8):Bool:=decide (65<=c.toNat/\c.toNat<=90)
def isLet(c:UInt8):Bool:=isUp c||decide (97<=c.toNat/\c.toNat<=122)
def isDig(c:UInt8):Bool:=decide (48<=c.toNat/\c.toNat<=57)
def inW(c:UInt8):Bool:=isLet c||isDig c||c==95
def span(p:UInt8->Bool):List UInt8->Nat
 |[]=>0
 |c::r=>if p c then span p r+1 else 0
def btw:Bool->List UInt8->Nat
 |_,[]=>0
 |true,c::r=>btw (c != 10) r+1
 |false,c::r=>if c=32\/c=9\/c=10 then btw false r+1 else if c=35 then btw true r+1 else 0
def keys:List (List UInt8):=[[100,97,116,97],[108,101,116],[105,110],[99,97,115,101],[111,102],[102,111,114,97,108,108]]
def wordKind(w:List UInt8):Nat:=if w∈keys then 3 else if isUp (w.headD 0) then 2 else 1
def word(l:List UInt8):Nat × Nat:=if 16<span inW l then(0,0) else(wordKind (l.take (span inW l)),span inW l)
def badNum(l:List UInt8):Bool:=decide (span isDig l=0\/6<span isDig l\/(1<span isDig l/\l.headD 0=48))
def number(l:List UInt8):Nat × Nat:=if badNum l then(0,0) else(4,span isDig l)
def zbf(l:List UInt8):Nat × Nat:=if(number (l.drop 1)).2=0 then(0,0) else(5,1+(number (l.drop 1)).2)
def signs:List UInt8:=[92,58,61,59,123,125,40,41,46,126,64,60,62,44,91,93,33]
def pre(p l:List UInt8):Bool:=p.isPrefixOf l
def sign(l:List UInt8):Nat × Nat :=
 if pre [45,62] l||pre [124,62] l then(6,2) else if l.headD 0∈signs then(6,1) else(0,0)
def first:List UInt8->Nat × Nat
 |[]=>(0,0)
 |c::r=>if isLet c then word (c::r) else if isDig c then number (c::r) else if c=63 then zbf (c::r) else sign (c::r)
structure Tok where
 kind:Nat
 text:List UInt8
 at_:Nat
deriving DecidableEq
def scan:Nat->Nat->List UInt8->Except Nat (List Tok)
 |0,_,_=>.ok []
 |f+1,i,l =>
  let b:=btw false l
  let r:=l.drop b
  if r=[] then .ok []
  else if(first r).1=0 then .error (i+b)
  else(scan f (i+b+(first r).2) (r.drop (first r).2)).map (⟨(first r).1,r.take (first r).2,i+b⟩::·)
def lex(l:List UInt8):Except Nat (List Tok):=scan (l.length+1) 0 l
theorem zdv(p:UInt8->Bool)(l:List UInt8):span p l<=l.length:=by
 induction l with
 |nil=>simp[span]
 |cons c r ih=>simp only[span];split <;> simp <;> omega
theorem zkg(m:Bool)(l:List UInt8):btw m l<=l.length:=by
 induction l generalizing m with
 |nil=>simp[btw]
 |cons c r ih =>
  cases m with
  |true=>simp only[btw,ui];have:=ih (c != 10);omega
  |false =>
   simp only[btw,ui];split
   ·have:=ih false;omega
   ·split
    ·have:=ih true;omega
    ·omega
theorem zaD(l:List UInt8):(number l=(0,0))\/(number l=(4,span isDig l)/\1<=span isDig l/\span isDig l<=6):=by
 unfold number;by_cases h:badNum l
 ·simp[h]
 ·right
  simp only[h,vy,vZ,wj];simp[badNum]at h
  omega
theorem zdG(c:UInt8)(r:List UInt8)(h:isLet c=true):1<=span inW (c::r):=by
 simp[span,inW,h]
theorem zbP(l:List UInt8)(h:(first l).1≠0):1<=(first l).2/\(first l).2<=l.length:=by
 cases l with
 |nil=>simp[first]at h
 |cons c r =>
  simp only[first]at h ⊢;split at h
  ·rename_i hl
   simp only[ud hl];unfold word at h ⊢;split at h
   ·simp at h
   ·rename_i hw
    simp only[ue hw];exact⟨zdG c r hl,zdv _ _⟩
  ·rename_i hl
   rw[ue hl]
   split at h
   ·rename_i hd
    rw[ud hd]
    rcases zaD (c::r) with e|⟨e,h1,h2⟩
    ·rw[e]at h;simp at h
    ·rw[e];exact⟨h1,zdv _ _⟩
   ·rename_i hd
    rw[ue hd]
    split at h
    ·rename_i hq
     rw[ud hq]
     unfold zbf at h ⊢;split at h
     ·simp at h
     ·rename_i hm
      rw[ue hm]
      simp only[List.drop_succ_cons,vS,ui]at *;rcases zaD r with e|⟨e,h1,h2⟩
      ·rw[e]at hm;simp at hm
      ·rw[e];have:=zdv isDig r;simp only;omega
    ·rename_i hq
     rw[ue hq]
     unfold sign at h ⊢;split at h
     ·rename_i hp
      rw[ud hp]
      refine⟨by simp,?_⟩;cases r with
      |nil=>simp[pre,List.isPrefixOf]at hp
      |cons d r'=>simp
     ·rename_i hp
      rw[ue hp]
      split at h
      ·rename_i hs
       rw[ud hs];simp
      ·simp at h
theorem zjh(l:List UInt8)(h:(first l).1=0):(first l).2=0:=by
 cases l with
 |nil=>rfl
 |cons c r =>
  simp only[first]at h ⊢;split at h
  ·rename_i hl
   rw[ud hl]
   unfold word at h ⊢;split at h
   ·rename_i hw;rw[ud hw]
   ·exfalso;revert h;unfold wordKind;split
    ·simp
    ·split <;> simp
  ·rename_i hl
   rw[ue hl]
   split at h
   ·rename_i hd
    rw[ud hd]
    rcases zaD (c::r) with e|⟨e,h1,h2⟩
    ·rw[e]
    ·rw[e]at h;simp at h
   ·rename_i hd
    rw[ue hd]
    split at h
    ·rename_i hq
     rw[ud hq]
     unfold zbf at h ⊢;split at h
     ·rename_i hm;rw[ud hm]
     ·simp at h
    ·rename_i hq
     rw[ue hq]
     unfold sign at h ⊢;split at h
     ·simp at h
     ·rename_i hp
      rw[ue hp]
      split at h
      ·simp at h
      ·rename_i hs;rw[ue hs]
theorem zgP(l:List UInt8):(first l).2<=l.length:=by
 by_cases h:(first l).1=0
 ·rw[zjh l h];omega
 ·exact(zbP l h).2
theorem zkh(f g i:Nat)(l:List UInt8)(hf:l.length<f)(hg:l.length<g):scan f i l=scan g i l:=by
 induction f generalizing g i l with
 |zero=>omega
 |succ f ih =>
  obtain⟨g,rfl⟩:∃k,g=k+1:=⟨g-1,by omega⟩;simp only[scan];split
  ·rfl
  ·split
   ·rfl
   ·rename_i h0 h1
    have:=zbP _ h1;have hl:((l.drop (btw false l)).drop (first (l.drop (btw false l))).2).length<l.length:=by
     simp only[uR]at this ⊢;omega
    rw[ih g _ _ (by omega) (by omega)]
def sc(i:Nat)(l:List UInt8):Except Nat (List Tok):=scan (l.length+1) i l
theorem zki(f i:Nat)(l:List UInt8):scan (f+1) i l =
  if l.drop (btw false l)=[] then .ok []
  else if(first (l.drop (btw false l))).1=0 then .error (i+btw false l)
  else(scan f (i+btw false l+(first (l.drop (btw false l))).2) ((l.drop (btw false l)).drop (first (l.drop (btw false l))).2)).map (⟨(first (l.drop (btw false l))).1,(l.drop (btw false l)).take (first (l.drop (btw false l))).2,i+btw false l⟩::·):=rfl
theorem zb7(i:Nat)(l:List UInt8):sc i l =
  if l.drop (btw false l)=[] then .ok []
  else if(first (l.drop (btw false l))).1=0 then .error (i+btw false l)
  else(sc (i+btw false l+(first (l.drop (btw false l))).2) ((l.drop (btw false l)).drop (first (l.drop (btw false l))).2)).map (⟨(first (l.drop (btw false l))).1,(l.drop (btw false l)).take (first (l.drop (btw false l))).2,i+btw false l⟩::·):=by
 refine(zki l.length i l).trans ?_;by_cases h0:l.drop (btw false l)=[]
 ·rw[ud h0,ud h0]
 ·rw[ue h0,ue h0]
  by_cases h1:(first (l.drop (btw false l))).1=0
  ·rw[ud h1,ud h1]
  ·rw[ue h1,ue h1]
   have:=zbP _ h1;have hl:((l.drop (btw false l)).drop (first (l.drop (btw false l))).2).length<l.length:=by
    simp only[uR]at this ⊢;omega
   rw[zkh l.length _ _ _ hl (Nat.lt_succ_self _)]
   rfl
theorem zgQ(l:List UInt8):lex l=sc 0 l:=rfl
end Lx
end Go.Proofs.YtknkclefoiohpaaGreatDoor
