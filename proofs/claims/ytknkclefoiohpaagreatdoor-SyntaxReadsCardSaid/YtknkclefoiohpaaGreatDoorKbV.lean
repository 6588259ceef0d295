/-
  Contracts of the code's functions, part 22.
-/
import Derived.Test.YtknkclefoiohpaaGreatDoorKbJ
import Derived.Test.YtknkclefoiohpaaGreatDoorKbS
namespace Go.Proofs.YtknkclefoiohpaaGreatDoor
open Go.RowKit Lx Tx Sx
set_option maxRecDepth 100000
def PAt(ts:List Tok)(p:Option (List Tok))(z:Int):Prop:=(p=none/\z = -1)\/∃k:Nat,k<=ts.length/\z=(k:Nat)/\p=some (ts.drop k)
theorem PAt.none_(ts:List Tok):PAt ts none (-1):=.inl ⟨rfl,rfl⟩
theorem PAt.some_(ts:List Tok)(k:Nat)(h:k<=ts.length):PAt ts (some (ts.drop k)) (k:Nat):=.inr ⟨k,h,rfl,rfl⟩
theorem PAt.lo {ts:List Tok} {p:Option (List Tok)} {z:Int}(h:PAt ts p z) : -1<=z/\z<=ts.length:=by
 rcases h with⟨-,rfl⟩|⟨k,hk,rfl,-⟩ <;> omega
theorem PAt.len {ts:List Tok} {p:Option (List Tok)} {z:Int}(h:PAt ts p z):∀r,p=some r->r.length<=ts.length:=by
 rcases h with⟨rfl,-⟩|⟨k,hk,-,rfl⟩
 ·intro r h;cases h
 ·intro r h;injection h with h;subst h;rw[List.length_drop];omega
theorem PAt.good {ts:List Tok} {p:Option (List Tok)} {z:Int}(h:PAt ts p z)(hG:AllG ts):∀r,p=some r->AllG r:=by
 rcases h with⟨rfl,-⟩|⟨k,hk,-,rfl⟩
 ·intro r h;cases h
 ·intro r h;injection h with h;subst h;intro x hx;exact hG x (List.mem_of_mem_drop hx)
def isO(k:Nat)(X:List UInt8)(p:Option (List Tok)):Bool:=match p with
 | none=>false
 | some r=>(hd r).kind==k &&(X==[] ||(hd r).text==X)
def nxO(k:Nat)(X:List UInt8)(p:Option (List Tok)):Option (List Tok):=if isO k X p=true then p.map List.tail else none
def txO(p:Option (List Tok)):List UInt8:=match p with
 | none=>[]
 | some r=>(hd r).text
theorem isO_none(k:Nat)(X:List UInt8):isO k X none=false:=rfl
theorem hd_drop(ts:List Tok)(k:Nat)(h:k<ts.length):hd (ts.drop k)=ts[k]:=by rw[drop_tok ts k h];rfl
theorem hd_drop0(ts:List Tok)(k:Nat)(h:ts.length<=k):hd (ts.drop k)=⟨0,[],0⟩:=by rw[List.drop_eq_nil_of_le h];rfl
theorem tail_drop(ts:List Tok)(k:Nat):(ts.drop k).tail=ts.drop (k+1):=by rw[List.tail_drop]
theorem isO_at(ts:List Tok)(k K:Nat)(X:List UInt8)(hK:K≠0):isAt ts k K X=isO K X (some (ts.drop k)):=by
 by_cases h:k<ts.length
 ·rw[isAt_at ts k K X h];simp only[isO,hd_drop ts k h]
 ·rw[isAt_end ts k K X (by omega)]
  simp only[isO,hd_drop0 ts k (by omega)]
  rw[beq_eq_false_iff_ne.2 (λe=>hK e.symm)];rfl
theorem isO_lt {ts:List Tok} {k K:Nat} {X:List UInt8}(hK:K≠0)(h:isO K X (some (ts.drop k))=true):k<ts.length:=by
 rw[<-isO_at ts k K X hK]at h
 exact isAt_lt _ _ _ _ h
theorem nxO_len {k:Nat} {X:List UInt8}(hk:k≠0) {p:Option (List Tok)} {r:List Tok}(h:nxO k X p=some r):∃l,p=some l/\l.tail=r/\r.length+1=l.length/\isO k X (some l)=true:=by
 unfold nxO at h
 cases hq:isO k X p with
 | false=>rw[hq,if_neg (by decide)]at h;cases h
 | true =>
  rw[hq,if_pos rfl]at h
  cases p with
  | none=>cases h
  | some l =>
   simp only[Option.map_some,Option.some.injEq]at h
   refine⟨l,rfl,h,?_,hq⟩
   cases l with
   | nil=>simp[isO,hd]at hq;exact absurd hq.1.symm hk
   | cons t l=>subst h;rfl
theorem isO_hd(k:Nat)(X:List UInt8)(hX:X≠[])(l:List Tok):isO k X (some l)=isHd l k X:=by
 simp only[isO,isHd]
 rw[beq_eq_false_iff_ne.2 hX];simp
theorem isO_kind(k:Nat)(l:List Tok):isO k [] (some l)=((hd l).kind==k):=by
 simp[isO]
set_option maxHeartbeats 800000 in
theorem r8_is(v:Value)(ts:List Tok)(p:Option (List Tok))(z:Int)(K:Nat)(X:ByteArray)(k:Int)(hkK:k=K)(hK:K≠0)(w:World)(h:RdT w v ts)(hp:PAt ts p z) :
  Calls Tryz.prog 34 #[v,.int .i64 z,.int .i64 k,.string X] w λe w'=>e=.returned (.bool (isO K X.data.toList p))/\w=w':=by
 rcases hp with⟨rfl,rfl⟩|⟨i,hi,rfl,rfl⟩
 ·rw[isO_none]
  go_enter Tryz.func34,Tryz.ntmps34
  go_wp2
  go_ret
  exact⟨rfl,rfl⟩
 ·have HI:=hidE (ref2_is v ts i K X k hkK w h)
  rw[isO_at ts i K _ hK]at HI
  obtain⟨q,hq⟩:∃q,isO K X.data.toList (some (ts.drop i))=q:=⟨_,rfl⟩
  rw[hq]at HI ⊢
  clear hq h hkK
  have d0:decide ((i:Int)<0)=false:=decide_eq_false (by omega)
  go_enter Tryz.func34,Tryz.ntmps34
  go_wp2_with fail
  refine HI.out.mono ?_
  rintro e w1 ⟨rfl,rfl⟩
  go_wp2
  go_ret
  exact⟨rfl,rfl⟩
set_option maxHeartbeats 800000 in
theorem r8_next(v:Value)(ts:List Tok)(p:Option (List Tok))(z:Int)(K:Nat)(X:ByteArray)(k:Int)(hkK:k=K)(hK:K≠0)(w:World)(h:RdT w v ts)(hn:ts.length<=100000)(hp:PAt ts p z) :
  Calls Tryz.prog 83 #[v,.int .i64 z,.int .i64 k,.string X] w λe w'=>w=w'/\∃z',e=.returned (.int .i64 z')/\PAt ts (nxO K X.data.toList p) z':=by
 have HI:=hidE (r8_is v ts p z K X k hkK hK w h hp)
 have HPQ:Hid (∀q,isO K X.data.toList p=q->(q=false->nxO K X.data.toList p=none)/\(q=true->PAt ts (nxO K X.data.toList p) (z+1)/\0<=z/\z<=100000)):=hidE (by
  intro q hq
  refine⟨λe=>?_,λe=>?_⟩
  ·rw[nxO,hq,e,if_neg (by decide)]
  ·subst e
   rcases hp with⟨rfl,rfl⟩|⟨i,hi,rfl,rfl⟩
   ·cases hq
   ·have hlt:=isO_lt hK hq
    rw[nxO,hq,if_pos rfl,Option.map_some,tail_drop]
    exact⟨.inr ⟨i+1,by omega,by omega,rfl⟩,by omega,by omega⟩)
 obtain⟨q,hq⟩:∃q,isO K X.data.toList p=q:=⟨_,rfl⟩
 have hpq:=HPQ.out q hq
 rw[hq]at HI
 clear hq h hkK hp HPQ
 cases q with
 | false =>
  have HP1:=hidE (hpq.1 rfl)
  clear hpq
  go_enter Tryz.func83,Tryz.ntmps83
  go_wp2_with fail
  refine HI.out.mono ?_
  rintro e w1 ⟨rfl,rfl⟩
  go_wp2
  go_ret
  exact⟨rfl,-1,rfl,by rw[HP1.out];exact PAt.none_ ts⟩
 | true =>
  obtain⟨hp,h0,h1⟩:=hpq.2 rfl
  have HP1:=hidE hp
  clear hp hpq
  go_enter Tryz.func83,Tryz.ntmps83
  go_wp2_with fail
  refine HI.out.mono ?_
  rintro e w1 ⟨rfl,rfl⟩
  go_wp2
  go_ret
  exact⟨rfl,z+1,by go_num,HP1.out⟩
set_option maxHeartbeats 800000 in
theorem r8_text(v:Value)(ts:List Tok)(p:Option (List Tok))(z:Int)(w:World)(h:RdT w v ts)(hp:PAt ts p z) :
  Calls Tryz.prog 81 #[v,.int .i64 z] w λe w'=>e=.returned (.string ⟨(txO p).toArray⟩)/\w=w':=by
 rcases hp with⟨rfl,rfl⟩|⟨i,hi,rfl,rfl⟩
 ·obtain⟨A,c,rfl,-⟩:=h
  rw[txO]
  go_enter Tryz.func81,Tryz.ntmps81
  go_wp2
  go_ret
  exact⟨rfl,rfl⟩
 ·have d0:decide ((i:Int)<0)=false:=decide_eq_false (by omega)
  by_cases hlt:i<ts.length
  ·obtain⟨g,c,rfl,h0,h1,h2⟩:=h.at_ i hlt
   have ht:txO (some (ts.drop i))=ts[i].text:=by simp only[txO,hd_drop ts i hlt]
   rw[ht]
   obtain⟨X,hX⟩:∃X:ByteArray,⟨ts[i].text.toArray⟩=X:=⟨_,rfl⟩
   rw[hX]at h1 ⊢
   obtain⟨n,hN⟩:∃n,ts.length=n:=⟨_,rfl⟩
   rw[hN]at hlt ⊢
   have d1:decide ((n:Int)<=(i:Int))=false:=decide_eq_false (by omega)
   clear h h0 h2 hX ht hN hi
   go_enter Tryz.func81,Tryz.ntmps81
   go_wp2
   go_ret
   exact⟨rfl,rfl⟩
  ·obtain⟨A,c,rfl,-⟩:=h
   have ht:txO (some (ts.drop i))=[]:=by simp only[txO,hd_drop0 ts i (by omega)]
   rw[ht]
   obtain⟨n,hN⟩:∃n,ts.length=n:=⟨_,rfl⟩
   rw[hN]at hlt hi ⊢
   have d1:decide ((n:Int)<=(i:Int))=true:=decide_eq_true (by omega)
   clear ht hN
   go_enter Tryz.func81,Tryz.ntmps81
   go_wp2
   go_ret
   exact⟨rfl,rfl⟩
end Go.Proofs.YtknkclefoiohpaaGreatDoor
