import Derived.Test.YtknkclefoiohpaaGreatDoorKaH
import Derived.Maps.OwnSet
import Derived.Maps.OwnOps
import Derived.Maps.Ext
set_option maxHeartbeats 12800000
namespace Go.Proofs.YtknkclefoiohpaaGreatDoor
open Go.RowKit Lx Tx Go.Maps Go.WideMaps
set_option maxRecDepth 100000
theorem strKeyed:Keyed Tryz.prog 9:=string_keyed Tryz.underlying9
theorem strKey(X:ByteArray)(h:X.size<=maxLen):keyOf Tryz.prog 9 (.string X)=some (.string X.data.toList):=keyOf_string_mk Tryz.underlying9 h
theorem kl(x:Name):WideAt.IsKeyLit (.string x):=trivial
structure MK (V:Type) where
 t:TypeId
 e:TypeId
 R:Value->Option (DataW Unit × List MemPlace)
 enc:V->DataW Unit
 val:V->Value
 ok:V->Prop
 z:Value
 zd:DataW Unit
 hT:Tryz.prog.underlying t=some (.map 9 e)
 hz:∀w,(zeroValue e).run Tryz.prog w=.ok z w
 hR:∀v,ok v->R (val v)=some (enc v,[])
 hzd:R z=some (zd,[])
 inv:∀x v ps,R x=some (enc v,ps)->x=val v
 invz:∀x ps,R x=some (zd,ps)->x=z
section
variable {V:Type}
def look(x:Name):List (Name × V)->Option V
 |[]=>none
 |p::r=>if p.1=x then some p.2 else look x r
def envD(enc:V->DataW Unit):List (Name × V)->DataW Unit
 |[]=>.map []
 |p::r=>(envD enc r).put (.string p.1) (enc p.2)
theorem zdq(enc:V->DataW Unit):∀r,Tidy (envD enc r)
 |[]=>tidy_empty
 |_::r=>(zdq enc r).put (kl _) _
theorem zgA(enc:V->DataW Unit):∀r,Maps.size (envD enc r)<=r.length
 |[]=>by simp[envD,Maps.size]
 |_::r=>by
  have:=zgA enc r;rw[envD,size_put (zdq enc r),ui]
  split <;> omega
theorem zhY(enc:V->DataW Unit)(x:Name):∀r,Maps.has (envD enc r) (.string x)=(look x r).isSome
 |[]=>rfl
 |p::r=>by
  rw[envD,look]
  by_cases h:p.1=x
  ·rw[ud h,<-h,has_put_same (zdq enc r).isMap (kl _)];rfl
  ·rw[ue h,has_put_other (λe=>h (by injection e with e;exact e.symm)),zhY enc x r]
theorem zfW(enc:V->DataW Unit)(x:Name)(z:DataW Unit):∀r,(envD enc r).atKey (.string x) z=((look x r).map enc).getD z
 |[]=>rfl
 |p::r=>by
  rw[envD,look]
  by_cases h:p.1=x
  ·rw[ud h,<-h,atKey_put_same (zdq enc r).isMap (kl _)];rfl
  ·rw[ue h,atKey_put_other (λe=>h (by injection e with e;exact e.symm)),zfW enc x z r]
def MapE(m:MK V)(w:World)(b:Nat)(r:List (Name × V)):Prop:=∃n,n<=r.length/\w.ownsMap Tryz.prog 9 m.R b n (envD m.enc r)
theorem tightMap {m:MK V} {w:World} {b n:Nat} {D:DataW Unit}(h:w.ownsMap Tryz.prog 9 m.R b n D):w.ownsMap Tryz.prog 9 m.R b (Maps.size D) D:=by
 obtain⟨es,clock,hb,F,_,rfl⟩:=h;exact⟨es,clock,hb,F,by simp[Maps.size,length_sorted],rfl⟩
theorem MapE.of {m:MK V} {w:World} {b n:Nat} {r:List (Name × V)}(h:w.ownsMap Tryz.prog 9 m.R b n (envD m.enc r)):MapE m w b r:=⟨_,zgA m.enc r,tightMap h⟩
theorem MapE.lt {m:MK V} {w:World} {b:Nat} {r:List (Name × V)}(h:MapE m w b r):b<w.heap.size:=by obtain⟨_,_,h⟩:=h;exact h.lt
theorem MapE.keep {m:MK V} {w w':World} {b:Nat} {r:List (Name × V)}(h:MapE m w b r)(hk:w'.heap[b]?=w.heap[b]?):MapE m w' b r:=by
 obtain⟨n,hn,es,clock,hb,F,hs,hD⟩:=h;exact⟨n,hn,es,clock,hk.trans hb,F,hs,hD⟩
theorem MapE.made(m:MK V)(w:World):MapE m (w.alloc (.map #[] 0)) w.heap.size []:=⟨0,tV _,World.ownsMap_made _ _ _ _⟩
def MK.valO(m:MK V):Option V->Value
 |none=>m.z
 |some v=>m.val v
theorem MapE.get {m:MK V} {w:World} {b:Nat} {r:List (Name × V)}(h:MapE m w b r)(X:ByteArray)(hX:X.size<=maxLen):(Instr.lookup m.t (.map (some b)) (.string X) false).run Tryz.prog w=.ok (m.valO (look X.data.toList r)) w:=by
 obtain⟨n,_,h⟩:=h;obtain⟨v,ps,lx,hv⟩:=h.lookup strKeyed m.hT (m.hz w) m.hzd (strKey X hX);rw[lx]
 rw[zfW]at hv
 cases hl:look X.data.toList r with
 |none=>rw[hl]at hv;rw[m.invz v ps hv];rfl
 |some u=>rw[hl]at hv;rw[m.inv v u ps hv];rfl
theorem MapE.getOk {m:MK V} {w:World} {b:Nat} {r:List (Name × V)}(h:MapE m w b r)(X:ByteArray)(hX:X.size<=maxLen):(Instr.lookup m.t (.map (some b)) (.string X) true).run Tryz.prog w=.ok (.tuple #[m.valO (look X.data.toList r),.bool (look X.data.toList r).isSome]) w:=by
 obtain⟨n,_,h⟩:=h;obtain⟨v,ps,lx,hv⟩:=h.look_ok strKeyed m.hT (m.hz w) m.hzd (strKey X hX);rw[lx,zhY]
 rw[zfW]at hv
 cases hl:look X.data.toList r with
 |none=>rw[hl]at hv;rw[m.invz v ps hv];rfl
 |some u=>rw[hl]at hv;rw[m.inv v u ps hv];rfl
theorem zd2(m:MK V)(w:World) {ops:Array Oper} {rest:List Oper} {o:Oper} {a:Act} {Q:Exit->Act->World->Prop}
  (hg:o.guard=none)(mo x vo:Operand)(hop:o.op=Op.mapUpdate m.t mo x vo)(b:Nat)(r:List (Name × V))(hm:a.eval mo=.map (some b))(h:MapE m w b r)(hn:r.length<100000000000000)(X:ByteArray)(hX:X.size<=maxLen)
  (hx:a.eval x=.string X)(v:V)(ay:m.ok v)(hv:a.eval vo=m.val v)(hK:∀w',MapE m w' b ((X.data.toList,v)::r)->w.grownBy w' (some b)->wpList Tryz.prog ops Q rest (a.put o.dst undef) w'):wpList Tryz.prog ops Q (o::rest) a w:=by
 obtain⟨n,hnr,h⟩:=h;exact wpList_mapUpdate_own w hg mo x vo m.t hop 9 m.e strKeyed m.hT m.R b n _ hm h (by unfold maxLen;omega) _ _ _ hx hv (strKey X hX) _ [] (m.hR v ay) (λw' h1 h2=>hK w' (MapE.of (r:=(X.data.toList,v)::r) h1) h2)
end
def intElem:Value->Option (DataW Unit × List MemPlace)
 |.int .i64 a=>some (.lit (.int .i64 a),[])
 |_=>none
theorem zeV {x:Value} {v:Int} {ps:List MemPlace}(h:intElem x=some (.lit (.int .i64 v),ps)):x=.int .i64 v:=by
 unfold intElem at h;split at h
 ·injection h with h
  injection h with h _;injection h with h;injection h with _ h;rw[h]
 ·cases h
end Go.Proofs.YtknkclefoiohpaaGreatDoor
