/-
  Contracts of the code's functions, part 1.
-/
namespace Go.Proofs.YtknkclefoiohpaaGreatDoor
namespace Lx
def isUp(c:UInt8):Bool:=decide (65<=c.toNat/\c.toNat<=90)
def isLet(c:UInt8):Bool:=isUp c||decide (97<=c.toNat/\c.toNat<=122)
def isDig(c:UInt8):Bool:=decide (48<=c.toNat/\c.toNat<=57)
def inW(c:UInt8):Bool:=isLet c||isDig c||c==95
def span(p:UInt8->Bool):List UInt8->Nat
 | []=>0
 | c::r=>if p c then span p r+1 else 0
def btw:Bool->List UInt8->Nat
 | _,[]=>0
 | true,c::r=>btw (c != 10) r+1
 | false,c::r=>if c=32\/c=9\/c=10 then btw false r+1 else if c=35 then btw true r+1 else 0
def keys:List (List UInt8):=[[100,97,116,97],[108,101,116],[105,110],[99,97,115,101],[111,102],[102,111,114,97,108,108]]
def wordKind(w:List UInt8):Nat:=if w∈keys then 3 else if isUp (w.headD 0) then 2 else 1
def word(l:List UInt8):Nat × Nat:=if 16<span inW l then(0,0) else(wordKind (l.take (span inW l)),span inW l)
def badNum(l:List UInt8):Bool:=decide (span isDig l=0\/6<span isDig l\/(1<span isDig l/\l.headD 0=48))
def number(l:List UInt8):Nat × Nat:=if badNum l then(0,0) else(4,span isDig l)
def meta_(l:List UInt8):Nat × Nat:=if(number (l.drop 1)).2=0 then(0,0) else(5,1+(number (l.drop 1)).2)
def signs:List UInt8:=[92,58,61,59,123,125,40,41,46,126,64,60,62,44,91,93,33]
def pre(p l:List UInt8):Bool:=p.isPrefixOf l
def sign(l:List UInt8):Nat × Nat :=
 if pre [45,62] l||pre [124,62] l then(6,2) else if l.headD 0∈signs then(6,1) else(0,0)
def first:List UInt8->Nat × Nat
 | []=>(0,0)
 | c::r=>if isLet c then word (c::r) else if isDig c then number (c::r) else if c=63 then meta_ (c::r) else sign (c::r)
structure Tok where
 kind:Nat
 text:List UInt8
 at_:Nat
deriving DecidableEq
def scan:Nat->Nat->List UInt8->Except Nat (List Tok)
 | 0,_,_=>.ok []
 | f+1,i,l =>
  let b:=btw false l
  let r:=l.drop b
  if r=[] then .ok []
  else if(first r).1=0 then .error (i+b)
  else(scan f (i+b+(first r).2) (r.drop (first r).2)).map (⟨(first r).1,r.take (first r).2,i+b⟩::·)
def lex(l:List UInt8):Except Nat (List Tok):=scan (l.length+1) 0 l
theorem span_le(p:UInt8->Bool)(l:List UInt8):span p l<=l.length:=by
 induction l with
 | nil=>simp[span]
 | cons c r ih=>simp only[span];split <;> simp <;> omega
theorem btw_le(m:Bool)(l:List UInt8):btw m l<=l.length:=by
 induction l generalizing m with
 | nil=>simp[btw]
 | cons c r ih =>
  cases m with
  | true=>simp only[btw,List.length_cons];have:=ih (c != 10);omega
  | false =>
   simp only[btw,List.length_cons]
   split
   ·have:=ih false;omega
   ·split
    ·have:=ih true;omega
    ·omega
theorem number_cases(l:List UInt8):(number l=(0,0))\/(number l=(4,span isDig l)/\1<=span isDig l/\span isDig l<=6):=by
 unfold number
 by_cases h:badNum l
 ·simp[h]
 ·right
  simp only[h,Bool.false_eq_true,if_false,true_and]
  simp[badNum]at h
  omega
theorem isLet_span(c:UInt8)(r:List UInt8)(h:isLet c=true):1<=span inW (c::r):=by
 simp[span,inW,h]
theorem first_pos(l:List UInt8)(h:(first l).1≠0):1<=(first l).2/\(first l).2<=l.length:=by
 cases l with
 | nil=>simp[first]at h
 | cons c r =>
  simp only[first]at h ⊢
  split at h
  ·rename_i hl
   simp only[if_pos hl]
   unfold word at h ⊢
   split at h
   ·simp at h
   ·rename_i hw
    simp only[if_neg hw]
    exact⟨isLet_span c r hl,span_le _ _⟩
  ·rename_i hl
   rw[if_neg hl]
   split at h
   ·rename_i hd
    rw[if_pos hd]
    rcases number_cases (c::r) with e|⟨e,h1,h2⟩
    ·rw[e]at h;simp at h
    ·rw[e];exact⟨h1,span_le _ _⟩
   ·rename_i hd
    rw[if_neg hd]
    split at h
    ·rename_i hq
     rw[if_pos hq]
     unfold meta_ at h ⊢
     split at h
     ·simp at h
     ·rename_i hm
      rw[if_neg hm]
      simp only[List.drop_succ_cons,List.drop_zero,List.length_cons]at *
      rcases number_cases r with e|⟨e,h1,h2⟩
      ·rw[e]at hm;simp at hm
      ·rw[e];have:=span_le isDig r;simp only;omega
    ·rename_i hq
     rw[if_neg hq]
     unfold sign at h ⊢
     split at h
     ·rename_i hp
      rw[if_pos hp]
      refine⟨by simp,?_⟩
      cases r with
      | nil=>simp[pre,List.isPrefixOf]at hp
      | cons d r'=>simp
     ·rename_i hp
      rw[if_neg hp]
      split at h
      ·rename_i hs
       rw[if_pos hs];simp
      ·simp at h
theorem first_zero(l:List UInt8)(h:(first l).1=0):(first l).2=0:=by
 cases l with
 | nil=>rfl
 | cons c r =>
  simp only[first]at h ⊢
  split at h
  ·rename_i hl
   rw[if_pos hl]
   unfold word at h ⊢
   split at h
   ·rename_i hw;rw[if_pos hw]
   ·exfalso;revert h;unfold wordKind;split
    ·simp
    ·split <;> simp
  ·rename_i hl
   rw[if_neg hl]
   split at h
   ·rename_i hd
    rw[if_pos hd]
    rcases number_cases (c::r) with e|⟨e,h1,h2⟩
    ·rw[e]
    ·rw[e]at h;simp at h
   ·rename_i hd
    rw[if_neg hd]
    split at h
    ·rename_i hq
     rw[if_pos hq]
     unfold meta_ at h ⊢
     split at h
     ·rename_i hm;rw[if_pos hm]
     ·simp at h
    ·rename_i hq
     rw[if_neg hq]
     unfold sign at h ⊢
     split at h
     ·simp at h
     ·rename_i hp
      rw[if_neg hp]
      split at h
      ·simp at h
      ·rename_i hs;rw[if_neg hs]
theorem first_le(l:List UInt8):(first l).2<=l.length:=by
 by_cases h:(first l).1=0
 ·rw[first_zero l h];omega
 ·exact(first_pos l h).2
theorem scan_fuel(f g i:Nat)(l:List UInt8)(hf:l.length<f)(hg:l.length<g):scan f i l=scan g i l:=by
 induction f generalizing g i l with
 | zero=>omega
 | succ f ih =>
  obtain⟨g,rfl⟩:∃k,g=k+1:=⟨g-1,by omega⟩
  simp only[scan]
  split
  ·rfl
  ·split
   ·rfl
   ·rename_i h0 h1
    have:=first_pos _ h1
    have hl:((l.drop (btw false l)).drop (first (l.drop (btw false l))).2).length<l.length:=by
     simp only[List.length_drop]at this ⊢
     omega
    rw[ih g _ _ (by omega) (by omega)]
def sc(i:Nat)(l:List UInt8):Except Nat (List Tok):=scan (l.length+1) i l
theorem scan_succ(f i:Nat)(l:List UInt8):scan (f+1) i l =
  if l.drop (btw false l)=[] then .ok []
  else if(first (l.drop (btw false l))).1=0 then .error (i+btw false l)
  else(scan f (i+btw false l+(first (l.drop (btw false l))).2) ((l.drop (btw false l)).drop (first (l.drop (btw false l))).2)).map (⟨(first (l.drop (btw false l))).1,(l.drop (btw false l)).take (first (l.drop (btw false l))).2,i+btw false l⟩::·):=rfl
theorem sc_unfold(i:Nat)(l:List UInt8):sc i l =
  if l.drop (btw false l)=[] then .ok []
  else if(first (l.drop (btw false l))).1=0 then .error (i+btw false l)
  else(sc (i+btw false l+(first (l.drop (btw false l))).2) ((l.drop (btw false l)).drop (first (l.drop (btw false l))).2)).map (⟨(first (l.drop (btw false l))).1,(l.drop (btw false l)).take (first (l.drop (btw false l))).2,i+btw false l⟩::·):=by
 refine(scan_succ l.length i l).trans ?_
 by_cases h0:l.drop (btw false l)=[]
 ·rw[if_pos h0,if_pos h0]
 ·rw[if_neg h0,if_neg h0]
  by_cases h1:(first (l.drop (btw false l))).1=0
  ·rw[if_pos h1,if_pos h1]
  ·rw[if_neg h1,if_neg h1]
   have:=first_pos _ h1
   have hl:((l.drop (btw false l)).drop (first (l.drop (btw false l))).2).length<l.length:=by
    simp only[List.length_drop]at this ⊢
    omega
   rw[scan_fuel l.length _ _ _ hl (Nat.lt_succ_self _)]
   rfl
theorem lex_sc(l:List UInt8):lex l=sc 0 l:=rfl
end Lx
end Go.Proofs.YtknkclefoiohpaaGreatDoor
