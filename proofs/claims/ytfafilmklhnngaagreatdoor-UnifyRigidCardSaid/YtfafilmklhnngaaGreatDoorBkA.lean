
set_option maxHeartbeats 12800000
namespace Go.Proofs
abbrev Ai:=@Nat.le_refl
abbrev Aj:=@Array.getElem?_eq_some_iff
abbrev Ak:=@List.getElem?_eq_getElem
abbrev Am:=@if_neg
abbrev An:=@List.mem_cons
abbrev Ao:=@List.length_cons
abbrev Ap:=@List.length_append
abbrev Aq:=@if_pos
abbrev Ar:=@List.mem_cons_of_mem
abbrev As:=@Nat.lt_of_lt_of_le
abbrev Aw:=@List.getElem?_eq_some_iff
abbrev Ay:=@List.mem_cons_self
abbrev Az:=@congrArg
abbrev AA:=@List.mem_append
abbrev AB:=@Nat.le_trans
abbrev AD:=@List.eq_nil_of_length_eq_zero
abbrev AE:=@List.cons_append
abbrev AF:=@beq_eq_false_iff_ne
abbrev AG:=@Bool.eq_false_iff
abbrev AH:=@List.map_cons
abbrev AI:=@Nat.add_mul
abbrev AJ:=@List.mem_singleton
abbrev AK:=@List.take_of_length_le
abbrev AL:=@List.nil_append
abbrev AM:=@List.mem_map
abbrev AN:=@decide_eq_true
abbrev AO:=@List.getD_eq_getElem?_getD
abbrev AP:=@List.drop_eq_nil_of_le
abbrev AQ:=@decide_eq_false
abbrev AR:=@List.length_map
abbrev AS:=@List.mem_iff_getElem
abbrev AT:=@List.not_mem_nil
abbrev AU:=@List.append_nil
abbrev AV:=@Nat.zero_le
abbrev AW:=@List.getElem?_append_right
abbrev AX:=@List.mem_of_getElem?
abbrev AY:=@List.getElem?_map
abbrev AZ:=@List.take_succ_cons
abbrev A6:=@List.nodup_cons
abbrev Ba:=@List.take_zero
abbrev Bb:=@Nat.one_mul
abbrev Bc:=@List.length_take
abbrev Bd:=@List.getElem_mem
abbrev Be:=@List.length_nil
abbrev Bf:=@List.size_toArray
abbrev Bg:=@Bool.false_eq_true
abbrev Bh:=@List.mem_append_right
abbrev Bi:=@Option.some.injEq
abbrev Bj:=@List.append_assoc
abbrev Bk:=@List.length_drop
abbrev Bl:=@List.map_append
abbrev Bm:=@List.getElem?_append_left
abbrev Bn:=@List.take_succ_eq_append_getElem
abbrev Bo:=@Nat.zero_add
abbrev Bp:=@Array.replicate_zero
abbrev Bq:=@Array.replicate_succ
abbrev Br:=@Nat.add_sub_cancel_left
abbrev Bs:=@List.filter_cons_of_neg
abbrev Bu:=@List.append_toArray
abbrev Bv:=@List.of_mem_zip
abbrev Bw:=@List.nodup_nil
abbrev By:=@List.mem_append_left
abbrev Bz:=@Prod.mk.injEq
abbrev BB:=@List.cons.injEq
abbrev BC:=@Array.getElem?_toList
abbrev BD:=@List.push_toArray
abbrev BE:=@List.flatten_cons
abbrev BF:=@Bool.false_or
abbrev BG:=@Option.map_some
abbrev BH:=@Nat.add_assoc
abbrev BI:=@List.getElem?_eq_none
abbrev BJ:=@List.filter_cons_of_pos
abbrev BK:=@Nat.le_add_right
abbrev BL:=@List.nodup_append
abbrev BM:=@List.drop_zero
abbrev BO:=@List.drop_eq_getElem_cons
abbrev BP:=@Nat.le_of_eq
abbrev BQ:=@List.reverse_reverse
abbrev BS:=@Bool.true_or
abbrev BT:=@Nat.le_succ
abbrev BU:=@List.length_reverse
abbrev BV:=@Bool.eq_iff_iff
abbrev BX:=@if_false
abbrev BY:=@List.sum_cons
abbrev BZ:=@Bool.false_ne_true
abbrev B8:=@List.take_add_one
abbrev Ca:=@List.mem_filter
abbrev Cb:=@List.count_append
abbrev Cc:=@List.map_map
abbrev Cd:=@List.reverse_append
abbrev Ce:=@List.getElem?_cons_succ
abbrev Cf:=@List.drop_drop
abbrev Cg:=@List.count_pos_iff
abbrev Ch:=@Nat.lt_or_ge
abbrev Ci:=@List.length_filter_le
abbrev Cj:=@of_decide_eq_true
abbrev Ck:=@List.ext_getElem?
abbrev Cl:=@List.Sublist.refl
abbrev Cm:=@Decidable.byContradiction
abbrev Cn:=@List.getElem_map
abbrev Co:=@List.flatten_nil
abbrev Cp:=@List.any_eq_true
abbrev Cq:=@List.getElem?_take_of_lt
abbrev Cr:=@decide_eq_true_iff
abbrev Cs:=@List.length_eq_zero_iff
abbrev Ct:=@List.filter_append
abbrev Cu:=@Bool.or_eq_true
abbrev Cv:=@Array.getElem?_eq_none
abbrev Cw:=@Ne.symm
abbrev Cx:=@Nat.mul_le_mul
abbrev Cy:=@List.singleton_append
abbrev Cz:=@Array.getElem?_modify
abbrev CA:=@if_true
abbrev CB:=@List.mem_reverse
abbrev CC:=@List.ext_getElem
abbrev CD:=@List.all_eq_true
abbrev CE:=@Bool.and_eq_true
abbrev CF:=@beq_iff_eq
abbrev CG:=@Option.some.inj
abbrev CH:=@Nat.mul_one
abbrev CI:=@List.sublist_flatten_of_mem
abbrev CJ:=@List.map_congr_left
abbrev CK:=@List.length_set
abbrev CL:=@List.foldl_cons
abbrev CM:=@List.flatten_append
abbrev CN:=@Array.length_toList
abbrev CO:=@Array.getElem?_append_left
abbrev CP:=@getElem!_pos
abbrev CQ:=@Nat.pow_succ
abbrev CR:=@List.map_nil
end Go.Proofs
namespace Go.Proofs.YtfafilmklhnngaaGreatDoor
namespace Lx
def isUp(c:UInt8):Bool:=decide (65<=c.toNat/\c.toNat<=90)
def isLet(c:UInt8):Bool:=isUp c||decide (97<=c.toNat/\c.toNat<=122)
def isDig(c:UInt8):Bool:=decide (48<=c.toNat/\c.toNat<=57)
def inW(c:UInt8):Bool:=isLet c||isDig c||c==95
def span(p:UInt8->Bool):List UInt8->Nat
 |[]=>0
 |c::r=>if p c then span p r+1 else 0
def btw:Bool->List UInt8->Nat
 |_,[]=>0
 |true,c::r=>btw (c != 10) r+1
 |false,c::r=>if c=32\/c=9\/c=10 then btw false r+1 else if c=35 then btw true r+1 else 0
def keys:List (List UInt8):=[[100,97,116,97],[108,101,116],[105,110],[99,97,115,101],[111,102],[102,111,114,97,108,108]]
def wordKind(w:List UInt8):Nat:=if w∈keys then 3 else if isUp (w.headD 0) then 2 else 1
def word(l:List UInt8):Nat × Nat:=if 16<span inW l then(0,0) else(wordKind (l.take (span inW l)),span inW l)
def badNum(l:List UInt8):Bool:=decide (span isDig l=0\/6<span isDig l\/(1<span isDig l/\l.headD 0=48))
def number(l:List UInt8):Nat × Nat:=if badNum l then(0,0) else(4,span isDig l)
def zbj(l:List UInt8):Nat × Nat:=if(number (l.drop 1)).2=0 then(0,0) else(5,1+(number (l.drop 1)).2)
def signs:List UInt8:=[92,58,61,59,123,125,40,41,46,126,64,60,62,44,91,93,33]
def pre(p l:List UInt8):Bool:=p.isPrefixOf l
def sign(l:List UInt8):Nat × Nat :=
 if pre [45,62] l||pre [124,62] l then(6,2) else if l.headD 0∈signs then(6,1) else(0,0)
def first:List UInt8->Nat × Nat
 |[]=>(0,0)
 |c::r=>if isLet c then word (c::r) else if isDig c then number (c::r) else if c=63 then zbj (c::r) else sign (c::r)
structure Tok where
 kind:Nat
 text:List UInt8
 at_:Nat
deriving DecidableEq
def scan:Nat->Nat->List UInt8->Except Nat (List Tok)
 |0,_,_=>.ok []
 |f+1,i,l =>
  let b:=btw false l
  let r:=l.drop b
  if r=[] then .ok []
  else if(first r).1=0 then .error (i+b)
  else(scan f (i+b+(first r).2) (r.drop (first r).2)).map (⟨(first r).1,r.take (first r).2,i+b⟩::·)
def lex(l:List UInt8):Except Nat (List Tok):=scan (l.length+1) 0 l
theorem zdO(p:UInt8->Bool)(l:List UInt8):span p l<=l.length:=by
 induction l with
 |nil=>simp[span]
 |cons c r ih=>simp only[span];split <;> simp <;> omega
theorem zlj(m:Bool)(l:List UInt8):btw m l<=l.length:=by
 induction l generalizing m with
 |nil=>simp[btw]
 |cons c r ih =>
  cases m with
  |true=>simp only[btw,Ao];have:=ih (c != 10);omega
  |false =>
   simp only[btw,Ao];split
   ·have:=ih false;omega
   ·split
    ·have:=ih true;omega
    ·omega
theorem zaB(l:List UInt8):(number l=(0,0))\/(number l=(4,span isDig l)/\1<=span isDig l/\span isDig l<=6):=by
 unfold number;by_cases h:badNum l
 ·simp[h]
 ·right
  simp only[h,Bg,BX,true_and];simp[badNum]at h
  omega
theorem zd5(c:UInt8)(r:List UInt8)(h:isLet c=true):1<=span inW (c::r):=by
 simp[span,inW,h]
theorem zbM(l:List UInt8)(h:(first l).1≠0):1<=(first l).2/\(first l).2<=l.length:=by
 cases l with
 |nil=>simp[first]at h
 |cons c r =>
  simp only[first]at h ⊢;split at h
  ·rename_i hl
   simp only[Aq hl];unfold word at h ⊢;split at h
   ·simp at h
   ·rename_i hw
    simp only[Am hw];exact⟨zd5 c r hl,zdO _ _⟩
  ·rename_i hl
   rw[Am hl]
   split at h
   ·rename_i hd
    rw[Aq hd]
    rcases zaB (c::r) with e|⟨e,h1,h2⟩
    ·rw[e]at h;simp at h
    ·rw[e];exact⟨h1,zdO _ _⟩
   ·rename_i hd
    rw[Am hd]
    split at h
    ·rename_i hq
     rw[Aq hq]
     unfold zbj at h ⊢;split at h
     ·simp at h
     ·rename_i hm
      rw[Am hm]
      simp only[List.drop_succ_cons,BM,Ao]at *;rcases zaB r with e|⟨e,h1,h2⟩
      ·rw[e]at hm;simp at hm
      ·rw[e];have:=zdO isDig r;simp only;omega
    ·rename_i hq
     rw[Am hq]
     unfold sign at h ⊢;split at h
     ·rename_i hp
      rw[Aq hp]
      refine⟨by simp,?_⟩;cases r with
      |nil=>simp[pre,List.isPrefixOf]at hp
      |cons d r'=>simp
     ·rename_i hp
      rw[Am hp]
      split at h
      ·rename_i hs
       rw[Aq hs];simp
      ·simp at h
theorem zkj(l:List UInt8)(h:(first l).1=0):(first l).2=0:=by
 cases l with
 |nil=>rfl
 |cons c r =>
  simp only[first]at h ⊢;split at h
  ·rename_i hl
   rw[Aq hl]
   unfold word at h ⊢;split at h
   ·rename_i hw;rw[Aq hw]
   ·exfalso;revert h;unfold wordKind;split
    ·simp
    ·split <;> simp
  ·rename_i hl
   rw[Am hl]
   split at h
   ·rename_i hd
    rw[Aq hd]
    rcases zaB (c::r) with e|⟨e,h1,h2⟩
    ·rw[e]
    ·rw[e]at h;simp at h
   ·rename_i hd
    rw[Am hd]
    split at h
    ·rename_i hq
     rw[Aq hq]
     unfold zbj at h ⊢;split at h
     ·rename_i hm;rw[Aq hm]
     ·simp at h
    ·rename_i hq
     rw[Am hq]
     unfold sign at h ⊢;split at h
     ·simp at h
     ·rename_i hp
      rw[Am hp]
      split at h
      ·simp at h
      ·rename_i hs;rw[Am hs]
theorem zh1(l:List UInt8):(first l).2<=l.length:=by
 by_cases h:(first l).1=0
 ·rw[zkj l h];omega
 ·exact(zbM l h).2
theorem zlk(f g i:Nat)(l:List UInt8)(hf:l.length<f)(hg:l.length<g):scan f i l=scan g i l:=by
 induction f generalizing g i l with
 |zero=>omega
 |succ f ih =>
  obtain⟨g,rfl⟩:∃k,g=k+1:=⟨g-1,by omega⟩;simp only[scan];split
  ·rfl
  ·split
   ·rfl
   ·rename_i h0 h1
    have:=zbM _ h1;have hl:((l.drop (btw false l)).drop (first (l.drop (btw false l))).2).length<l.length:=by
     simp only[Bk]at this ⊢;omega
    rw[ih g _ _ (by omega) (by omega)]
def sc(i:Nat)(l:List UInt8):Except Nat (List Tok):=scan (l.length+1) i l
theorem zll(f i:Nat)(l:List UInt8):scan (f+1) i l =
  if l.drop (btw false l)=[] then .ok []
  else if(first (l.drop (btw false l))).1=0 then .error (i+btw false l)
  else(scan f (i+btw false l+(first (l.drop (btw false l))).2) ((l.drop (btw false l)).drop (first (l.drop (btw false l))).2)).map (⟨(first (l.drop (btw false l))).1,(l.drop (btw false l)).take (first (l.drop (btw false l))).2,i+btw false l⟩::·):=rfl
theorem zb4(i:Nat)(l:List UInt8):sc i l =
  if l.drop (btw false l)=[] then .ok []
  else if(first (l.drop (btw false l))).1=0 then .error (i+btw false l)
  else(sc (i+btw false l+(first (l.drop (btw false l))).2) ((l.drop (btw false l)).drop (first (l.drop (btw false l))).2)).map (⟨(first (l.drop (btw false l))).1,(l.drop (btw false l)).take (first (l.drop (btw false l))).2,i+btw false l⟩::·):=by
 refine(zll l.length i l).trans ?_;by_cases h0:l.drop (btw false l)=[]
 ·rw[Aq h0,Aq h0]
 ·rw[Am h0,Am h0]
  by_cases h1:(first (l.drop (btw false l))).1=0
  ·rw[Aq h1,Aq h1]
  ·rw[Am h1,Am h1]
   have:=zbM _ h1;have hl:((l.drop (btw false l)).drop (first (l.drop (btw false l))).2).length<l.length:=by
    simp only[Bk]at this ⊢;omega
   rw[zlk l.length _ _ _ hl (Nat.lt_succ_self _)]
   rfl
theorem zh2(l:List UInt8):lex l=sc 0 l:=rfl
end Lx
end Go.Proofs.YtfafilmklhnngaaGreatDoor
