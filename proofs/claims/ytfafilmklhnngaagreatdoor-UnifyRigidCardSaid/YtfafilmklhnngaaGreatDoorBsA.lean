import Derived.Below
import Derived.Laws.AppendOwn
import Derived.Laws.Rows
import Derived.Lib.Strings
import Derived.Maps.AppendAt
import Derived.OwnWalk
import Derived.RangeFuncRecord
import Derived.RegionTactic
import Derived.Tactics
set_option maxHeartbeats 12800000
namespace Go.RowKit
theorem Hid.o{p:Prop}(h:Hid p):p:=h
end Go.RowKit
namespace Go.Proofs
abbrev BU:=@Nat.le_refl
abbrev BV:=@Array.getElem?_eq_some_iff
abbrev BX:=@Go.RowKit.Below.heap_alloc
abbrev BY:=@List.getElem?_eq_getElem
abbrev BZ:=@Go.heap_alloc_new
abbrev B8:=@Go.RowKit.Below.heap_setCell
abbrev Ca:=@List.length_cons
abbrev Cb:=@List.length_append
abbrev Cc:=@Go.RowKit.Below.refl
abbrev Cd:=@List.mem_cons
abbrev Ce:=@Go.bodyPost_ret
abbrev Cf:=@List.mem_cons_of_mem
abbrev Cg:=@if_neg
abbrev Ch:=@if_pos
abbrev Ci:=@Nat.lt_of_lt_of_le
abbrev Cj:=@List.getElem?_eq_some_iff
abbrev Ck:=@Go.World.cell?_of_block
abbrev Cl:=@Go.heap_setCell_same
abbrev Cm:=@Nat.le_trans
abbrev Cn:=@List.eq_nil_of_length_eq_zero
abbrev Co:=@List.cons_append
abbrev Cp:=@congrArg
abbrev Cq:=@List.take_of_length_le
abbrev Cr:=@List.mem_append
abbrev Cs:=@List.mem_cons_self
abbrev Ct:=@List.mem_map
abbrev Cu:=@List.nil_append
abbrev Cv:=@beq_eq_false_iff_ne
abbrev Cw:=@Nat.zero_le
abbrev Cx:=@List.mem_singleton
abbrev Cy:=@Nat.add_mul
abbrev Cz:=@Bool.eq_false_iff
abbrev CA:=@List.map_cons
abbrev CC:=@Go.World.putObj_heap_other
abbrev CD:=@decide_eq_true
abbrev CE:=@List.length_map
abbrev CF:=@decide_eq_false
abbrev CG:=@List.mem_of_getElem?
abbrev CH:=@List.drop_eq_nil_of_le
abbrev CI:=@List.not_mem_nil
abbrev CJ:=@List.append_nil
abbrev CK:=@List.take_zero
abbrev CL:=@Go.Lib.toList_data
abbrev CM:=@Go.World.ownsRow_nil
abbrev CN:=@List.mem_iff_getElem
abbrev CO:=@List.nodup_cons
abbrev CP:=@List.mem_append_right
abbrev CQ:=@Go.results_none
abbrev CR:=@List.length_nil
abbrev CS:=@List.getElem_mem
abbrev CT:=@List.getElem?_map
abbrev CU:=@Go.wpAny_ready
abbrev CV:=@List.take_succ_eq_append_getElem
abbrev CW:=@Go.results_cell_row
abbrev CX:=@List.take_succ_cons
abbrev CY:=@List.size_toArray
abbrev CZ:=@List.mem_append_left
abbrev C7:=@Go.wpList_append_own_at
abbrev Da:=@Nat.one_mul
abbrev Db:=@List.getElem?_append_right
abbrev Dc:=@Go.Lib.size_eq
abbrev De:=@Array.replicate_zero
abbrev Df:=@Array.replicate_succ
abbrev Dg:=@Bool.false_eq_true
abbrev Dh:=@List.append_toArray
abbrev Di:=@List.filter_cons_of_neg
abbrev Dj:=@Option.some.injEq
abbrev Dk:=@List.length_drop
abbrev Dl:=@List.push_toArray
abbrev Dm:=@Nat.zero_add
abbrev Dn:=@List.map_append
abbrev Dp:=@List.mem_filter
abbrev Dq:=@Go.World.putObj_size
abbrev Dr:=@List.nodup_nil
abbrev Du:=@List.getD_eq_getElem?_getD
abbrev Dv:=@Nat.add_sub_cancel_left
abbrev Dw:=@List.filter_cons_of_pos
abbrev Dx:=@Go.info_parts
abbrev Dz:=@Option.some.inj
abbrev DA:=@List.of_mem_zip
abbrev DB:=@of_decide_eq_true
abbrev DC:=@List.append_assoc
abbrev DD:=@Nat.le_of_eq
abbrev DE:=@Prod.mk.injEq
abbrev DF:=@List.cons.injEq
abbrev DG:=@Array.getElem?_toList
abbrev DH:=@List.length_take
abbrev DI:=@Bool.false_or
abbrev DJ:=@Option.map_some
abbrev DK:=@List.getElem?_append_left
abbrev DL:=@List.drop_eq_getElem_cons
abbrev DM:=@Bool.eq_iff_iff
abbrev DN:=@Nat.add_assoc
abbrev DO:=@List.length_reverse
abbrev DP:=@List.nodup_append
abbrev DQ:=@List.getElem?_eq_none
abbrev DR:=@List.drop_zero
abbrev DS:=@List.map_map
abbrev DT:=@List.mem_reverse
abbrev DU:=@List.reverse_reverse
abbrev DV:=@Bool.or_eq_false_iff
abbrev DW:=@List.sum_cons
abbrev DX:=@Bool.true_or
abbrev DY:=@List.flatten_cons
abbrev DZ:=@Nat.le_succ
abbrev D3:=@if_false
abbrev D4:=@Nat.le_add_right
abbrev D5:=@List.mem_flatMap
abbrev D6:=@List.getElem_map
abbrev D7:=@List.length_filter_le
abbrev D8:=@Bool.false_ne_true
abbrev D9:=@List.take_add_one
abbrev Ea:=@List.count_append
abbrev Eb:=@Nat.lt_or_ge
abbrev Ec:=@List.reverse_append
abbrev Ed:=@List.map_congr_left
abbrev Ee:=@List.getElem?_cons_succ
abbrev Ef:=@List.drop_drop
abbrev Eg:=@List.filter_append
abbrev Eh:=@List.count_pos_iff
abbrev Ei:=@List.flatMap_cons
abbrev Ej:=@List.Sublist.refl
abbrev Ek:=@Nat.mul_le_mul
abbrev El:=@Decidable.byContradiction
abbrev Em:=@Nat.succ_ne_self
abbrev En:=@List.any_eq_true
abbrev Eo:=@List.all_eq_true
abbrev Ep:=@List.foldl_cons
abbrev Er:=@Bool.or_eq_true
abbrev Es:=@Array.getElem?_eq_none
abbrev Et:=@Ne.symm
abbrev Ev:=@List.ext_getElem?
abbrev Ew:=@List.mem_range
abbrev Ex:=@List.take_append_drop
abbrev Ey:=@Array.getElem?_modify
abbrev Ez:=@if_true
abbrev EA:=@List.filter_cons
abbrev EB:=@Bool.and_eq_true
abbrev EC:=@Nat.pow_le_pow_right
abbrev ED:=@beq_iff_eq
abbrev EE:=@List.sublist_flatten_of_mem
abbrev EF:=@List.flatten_append
abbrev EG:=@List.flatMap_append
abbrev EH:=@List.drop_succ_cons
abbrev EI:=@Array.length_toList
abbrev EJ:=@Array.getElem?_append_left
abbrev EK:=@of_decide_eq_false
abbrev EL:=@getElem!_pos
abbrev EM:=@decide_eq_true_iff
abbrev EN:=@Nat.pow_succ
abbrev EO:=@Nat.pos_of_ne_zero
end Go.Proofs
namespace Go.Proofs.YtfafilmklhnngaaGreatDoor
namespace Lx
def GK(c:UInt8):Bool:=decide (65<=c.toNat/\c.toNat<=90)
def isLet(c:UInt8):Bool:=GK c||decide (97<=c.toNat/\c.toNat<=122)
def f_(c:UInt8):Bool:=decide (48<=c.toNat/\c.toNat<=57)
def G7(c:UInt8):Bool:=isLet c||f_ c||c==95
def span(p:UInt8->Bool):List UInt8->Nat
 |[]=>0
 |c::r=>if p c then span p r+1 else 0
def A_:Bool->List UInt8->Nat
 |_,[]=>0
 |true,c::r=>A_ (c != 10) r+1
 |false,c::r=>if c=32\/c=9\/c=10 then A_ false r+1 else if c=35 then A_ true r+1 else 0
def keys:List (List UInt8):=[[100,97,116,97],[108,101,116],[105,110],[99,97,115,101],[111,102],[102,111,114,97,108,108]]
def o_(w:List UInt8):Nat:=if w∈keys then 3 else if GK (w.headD 0) then 2 else 1
def word(l:List UInt8):Nat × Nat:=if 16<span G7 l then(0,0) else(o_ (l.take (span G7 l)),span G7 l)
def Fe(l:List UInt8):Bool:=decide (span f_ l=0\/6<span f_ l\/(1<span f_ l/\l.headD 0=48))
def number(l:List UInt8):Nat × Nat:=if Fe l then(0,0) else(4,span f_ l)
def JZ(l:List UInt8):Nat × Nat:=if(number (l.drop 1)).2=0 then(0,0) else(5,1+(number (l.drop 1)).2)
def Ik:List UInt8:=[92,58,61,59,123,125,40,41,46,126,64,60,62,44,91,93,33]
def pre(p l:List UInt8):Bool:=p.isPrefixOf l
def sign(l:List UInt8):Nat × Nat :=
 if pre [45,62] l||pre [124,62] l then(6,2) else if l.headD 0∈Ik then(6,1) else(0,0)
def first:List UInt8->Nat × Nat
 |[]=>(0,0)
 |c::r=>if isLet c then word (c::r) else if f_ c then number (c::r) else if c=63 then JZ (c::r) else sign (c::r)
structure Tok where
 kind:Nat
 text:List UInt8
 at_:Nat
deriving DecidableEq
def scan:Nat->Nat->List UInt8->Except Nat (List Tok)
 |0,_,_=>.ok []
 |f+1,i,l =>
  let b:=A_ false l
  let r:=l.drop b
  if r=[] then .ok []
  else if(first r).1=0 then .error (i+b)
  else(scan f (i+b+(first r).2) (r.drop (first r).2)).map (⟨(first r).1,r.take (first r).2,i+b⟩::·)
def lex(l:List UInt8):Except Nat (List Tok):=scan (l.length+1) 0 l
theorem Qx(p:UInt8->Bool)(l:List UInt8):span p l<=l.length:=by
 induction l with
 |nil=>simp[span]
 |cons c r ih=>simp only[span];split <;> simp <;> omega
theorem zmh(m:Bool)(l:List UInt8):A_ m l<=l.length:=by
 induction l generalizing m with
 |nil=>simp[A_]
 |cons c r ih =>
  cases m with
  |true=>simp only[A_,Ca];have:=ih (c != 10);omega
  |false =>
   simp only[A_,Ca];split
   ·have:=ih false;omega
   ·split
    ·have:=ih true;omega
    ·omega
theorem KV(l:List UInt8):(number l=(0,0))\/(number l=(4,span f_ l)/\1<=span f_ l/\span f_ l<=6):=by
 unfold number;by_cases h:Fe l
 ·simp[h]
 ·right
  simp only[h,Dg,D3,true_and];simp[Fe]at h;omega
theorem VU(c:UInt8)(r:List UInt8)(h:isLet c=true):1<=span G7 (c::r):=by
 simp[span,G7,h]
theorem OD(l:List UInt8)(h:(first l).1≠0):1<=(first l).2/\(first l).2<=l.length:=by
 cases l with
 |nil=>simp[first]at h
 |cons c r =>
  simp only[first]at h ⊢;split at h
  ·rename_i hl
   simp only[Ch hl];unfold word at h ⊢;split at h
   ·simp at h
   ·rename_i hw
    simp only[Cg hw];exact⟨VU c r hl,Qx _ _⟩
  ·rename_i hl
   rw[Cg hl];split at h
   ·rename_i hd
    rw[Ch hd];rcases KV (c::r) with e|⟨e,h1,h2⟩
    ·rw[e]at h;simp at h
    ·rw[e];exact⟨h1,Qx _ _⟩
   ·rename_i hd
    rw[Cg hd];split at h
    ·rename_i hq
     rw[Ch hq];unfold JZ at h ⊢;split at h
     ·simp at h
     ·rename_i hm
      rw[Cg hm];simp only[EH,DR,Ca]at *;rcases KV r with e|⟨e,h1,h2⟩
      ·rw[e]at hm;simp at hm
      ·rw[e];have:=Qx f_ r;simp only;omega
    ·rename_i hq
     rw[Cg hq];unfold sign at h ⊢;split at h
     ·rename_i hp
      rw[Ch hp];refine⟨by simp,?_⟩;cases r with
      |nil=>simp[pre,List.isPrefixOf]at hp
      |cons d r'=>simp
     ·rename_i hp
      rw[Cg hp];split at h
      ·rename_i hs
       rw[Ch hs];simp
      ·simp at h
theorem zk9(l:List UInt8)(h:(first l).1=0):(first l).2=0:=by
 cases l with
 |nil=>rfl
 |cons c r =>
  simp only[first]at h ⊢;split at h
  ·rename_i hl
   rw[Ch hl];unfold word at h ⊢;split at h
   ·rename_i hw;rw[Ch hw]
   ·exfalso;revert h;unfold o_;split
    ·simp
    ·split <;> simp
  ·rename_i hl
   rw[Cg hl];split at h
   ·rename_i hd
    rw[Ch hd];rcases KV (c::r) with e|⟨e,h1,h2⟩
    ·rw[e]
    ·rw[e]at h;simp at h
   ·rename_i hd
    rw[Cg hd];split at h
    ·rename_i hq
     rw[Ch hq];unfold JZ at h ⊢;split at h
     ·rename_i hm;rw[Ch hm]
     ·simp at h
    ·rename_i hq
     rw[Cg hq];unfold sign at h ⊢;split at h
     ·simp at h
     ·rename_i hp
      rw[Cg hp];split at h
      ·simp at h
      ·rename_i hs;rw[Cg hs]
theorem ziN(l:List UInt8):(first l).2<=l.length:=by
 by_cases h:(first l).1=0
 ·rw[zk9 l h];omega
 ·exact(OD l h).2
theorem zmi(f g i:Nat)(l:List UInt8)(hf:l.length<f)(hg:l.length<g):scan f i l=scan g i l:=by
 induction f generalizing g i l with
 |zero=>omega
 |succ f ih =>
  obtain⟨g,rfl⟩:∃k,g=k+1:=⟨g-1,by omega⟩;simp only[scan];split
  ·rfl
  ·split
   ·rfl
   ·rename_i h0 h1
    have:=OD _ h1;have hl:((l.drop (A_ false l)).drop (first (l.drop (A_ false l))).2).length<l.length:=by
     simp only[Dk]at this ⊢;omega
    rw[ih g _ _ (by omega) (by omega)]
def sc(i:Nat)(l:List UInt8):Except Nat (List Tok):=scan (l.length+1) i l
theorem zmj(f i:Nat)(l:List UInt8):scan (f+1) i l =
  if l.drop (A_ false l)=[] then .ok []
  else if(first (l.drop (A_ false l))).1=0 then .error (i+A_ false l)
  else(scan f (i+A_ false l+(first (l.drop (A_ false l))).2) ((l.drop (A_ false l)).drop (first (l.drop (A_ false l))).2)).map (⟨(first (l.drop (A_ false l))).1,(l.drop (A_ false l)).take (first (l.drop (A_ false l))).2,i+A_ false l⟩::·):=rfl
theorem PT(i:Nat)(l:List UInt8):sc i l =
  if l.drop (A_ false l)=[] then .ok []
  else if(first (l.drop (A_ false l))).1=0 then .error (i+A_ false l)
  else(sc (i+A_ false l+(first (l.drop (A_ false l))).2) ((l.drop (A_ false l)).drop (first (l.drop (A_ false l))).2)).map (⟨(first (l.drop (A_ false l))).1,(l.drop (A_ false l)).take (first (l.drop (A_ false l))).2,i+A_ false l⟩::·):=by
 refine(zmj l.length i l).trans ?_;by_cases h0:l.drop (A_ false l)=[]
 ·rw[Ch h0,Ch h0]
 ·rw[Cg h0,Cg h0]
  by_cases h1:(first (l.drop (A_ false l))).1=0
  ·rw[Ch h1,Ch h1]
  ·rw[Cg h1,Cg h1]
   have:=OD _ h1;have hl:((l.drop (A_ false l)).drop (first (l.drop (A_ false l))).2).length<l.length:=by
    simp only[Dk]at this ⊢;omega
   rw[zmi l.length _ _ _ hl (Nat.lt_succ_self _)];rfl
theorem UZ(l:List UInt8):lex l=sc 0 l:=rfl
end Lx
end Go.Proofs.YtfafilmklhnngaaGreatDoor
