import Derived.Test.YtfafilmklhnngaaGreatDoorBsM
import Derived.Maps.OwnSet
import Derived.Maps.OwnOps
import Derived.Maps.Ext
set_option maxHeartbeats 12800000
set_option maxRecDepth 100000
namespace Go.Proofs.YtfafilmklhnngaaGreatDoor
open Tryz
section
open Go.RowKit Lx Tx Go.Maps Go.WideMaps
set_option maxRecDepth 100000
theorem EZ:Keyed prog 9:=string_keyed underlying9
theorem IP(X:ByteArray)(h:X.size<=maxLen):keyOf prog 9 (.string X)=some (.string X.data.toList):=keyOf_string_mk underlying9 h
theorem kl(x:Name):WideAt.IsKeyLit (.string x):=trivial
structure MK (V:Type) where
 t:TypeId
 e:TypeId
 R:Value->Option (DataW Unit × List MemPlace)
 enc:V->DataW Unit
 val:V->Value
 ok:V->Prop
 z:Value
 zd:DataW Unit
 hT:prog.underlying t=some (.map 9 e)
 hz:∀w,(zeroValue e).run prog w=.ok z w
 hR:∀v,ok v->R (val v)=some (enc v,[])
 Rf:R z=some (zd,[])
 inv:∀x v ps,R x=some (enc v,ps)->x=val v
 Mm:∀x ps,R x=some (zd,ps)->x=z
section
variable {V:Type}
def look(x:Name):List (Name × V)->Option V
 |[]=>none
 |p::r=>if p.1=x then some p.2 else look x r
def Fi(enc:V->DataW Unit):List (Name × V)->DataW Unit
 |[]=>.map []
 |p::r=>(Fi enc r).put (.string p.1) (enc p.2)
theorem PN(enc:V->DataW Unit):∀r,Tidy (Fi enc r)
 |[]=>tidy_empty
 |_::r=>(PN enc r).put (kl _) _
theorem VD(enc:V->DataW Unit):∀r,Maps.size (Fi enc r)<=r.length
 |[]=>by simp[Fi,Maps.size]
 |_::r=>by
  have:=VD enc r;rw[Fi,size_put (PN enc r),Ca];split <;> omega
theorem QA(enc:V->DataW Unit)(x:Name):∀r,Maps.has (Fi enc r) (.string x)=(look x r).isSome
 |[]=>rfl
 |p::r=>by
  rw[Fi,look];by_cases h:p.1=x
  ·rw[Ch h,<-h,has_put_same (PN enc r).isMap (kl _)];rfl
  ·rw[Cg h,has_put_other (λe=>h (by injection e with e;exact e.symm)),QA enc x r]
theorem Qt(enc:V->DataW Unit)(x:Name)(z:DataW Unit):∀r,(Fi enc r).atKey (.string x) z=((look x r).map enc).getD z
 |[]=>rfl
 |p::r=>by
  rw[Fi,look];by_cases h:p.1=x
  ·rw[Ch h,<-h,atKey_put_same (PN enc r).isMap (kl _)];rfl
  ·rw[Cg h,atKey_put_other (λe=>h (by injection e with e;exact e.symm)),Qt enc x z r]
def iT(m:MK V)(w:World)(b:Nat)(r:List (Name × V)):Prop:=∃n,n<=r.length/\w.ownsMap prog 9 m.R b n (Fi m.enc r)
theorem Mx {m:MK V} {w:World} {b n:Nat} {D:DataW Unit}(h:w.ownsMap prog 9 m.R b n D):w.ownsMap prog 9 m.R b (Maps.size D) D:=by
 obtain⟨es,clock,hb,F,_,rfl⟩:=h;exact⟨es,clock,hb,F,by simp[Maps.size,length_sorted],rfl⟩
theorem iT.of {m:MK V} {w:World} {b n:Nat} {r:List (Name × V)}(h:w.ownsMap prog 9 m.R b n (Fi m.enc r)):iT m w b r:=⟨_,VD m.enc r,Mx h⟩
theorem iT.lt {m:MK V} {w:World} {b:Nat} {r:List (Name × V)}(h:iT m w b r):b<w.heap.size:=by obtain⟨_,_,h⟩:=h;exact h.lt
theorem iT.al {m:MK V} {w w':World} {b:Nat} {r:List (Name × V)}(h:iT m w b r)(hk:w'.heap[b]?=w.heap[b]?):iT m w' b r:=by
 obtain⟨n,hn,es,clock,hb,F,hs,hD⟩:=h;exact⟨n,hn,es,clock,hk.trans hb,F,hs,hD⟩
theorem iT.made(m:MK V)(w:World):iT m (w.alloc (.map #[] 0)) w.heap.size []:=⟨0,BU _,World.ownsMap_made _ _ _ _⟩
def MK.J7(m:MK V):Option V->Value
 |none=>m.z
 |some v=>m.val v
theorem iT.get {m:MK V} {w:World} {b:Nat} {r:List (Name × V)}(h:iT m w b r)(X:ByteArray)(hX:X.size<=maxLen):(Instr.lookup m.t (.map (some b)) (.string X) false).run prog w=.ok (m.J7 (look X.data.toList r)) w:=by
 obtain⟨n,_,h⟩:=h;obtain⟨v,ps,aC,hv⟩:=h.lookup EZ m.hT (m.hz w) m.Rf (IP X hX);rw[aC];rw[Qt]at hv;cases hl:look X.data.toList r with
 |none=>rw[hl]at hv;rw[m.Mm v ps hv];rfl
 |some u=>rw[hl]at hv;rw[m.inv v u ps hv];rfl
theorem iT.He {m:MK V} {w:World} {b:Nat} {r:List (Name × V)}(h:iT m w b r)(X:ByteArray)(hX:X.size<=maxLen):(Instr.lookup m.t (.map (some b)) (.string X) true).run prog w=.ok (.tuple #[m.J7 (look X.data.toList r),.bool (look X.data.toList r).isSome]) w:=by
 obtain⟨n,_,h⟩:=h;obtain⟨v,ps,aC,hv⟩:=h.look_ok EZ m.hT (m.hz w) m.Rf (IP X hX);rw[aC,QA];rw[Qt]at hv;cases hl:look X.data.toList r with
 |none=>rw[hl]at hv;rw[m.Mm v ps hv];rfl
 |some u=>rw[hl]at hv;rw[m.inv v u ps hv];rfl
theorem QW(m:MK V)(w:World) {ops:Array Oper} {rest:List Oper} {o:Oper} {a:Act} {Q:Exit->Act->World->Prop}
  (hg:o.guard=none)(mo x vo:Operand)(lK:o.op=Op.mapUpdate m.t mo x vo)(b:Nat)(r:List (Name × V))(hm:a.eval mo=.map (some b))(h:iT m w b r)(hn:r.length<100000000000000)(X:ByteArray)(hX:X.size<=maxLen)
  (hx:a.eval x=.string X)(v:V)(iD:m.ok v)(hv:a.eval vo=m.val v)(hK:∀w',iT m w' b ((X.data.toList,v)::r)->w.grownBy w' (some b)->wpList prog ops Q rest (a.put o.dst undef) w'):wpList prog ops Q (o::rest) a w:=by
 obtain⟨n,fh,h⟩:=h;exact wpList_mapUpdate_own w hg mo x vo m.t lK 9 m.e EZ m.hT m.R b n _ hm h (by unfold maxLen;omega) _ _ _ hx hv (IP X hX) _ [] (m.hR v iD) (λw' h1 h2=>hK w' (iT.of (r:=(X.data.toList,v)::r) h1) h2)
theorem zf8(m:MK V)(w:World) {ops:Array Oper} {rest:List Oper} {o:Oper} {a:Act} {Q:Exit->Act->World->Prop}
  (hg:o.guard=none)(mo x vo:Operand)(lK:o.op=Op.mapUpdate m.t mo x vo)(b:Nat)(r:List (Name × V))(hm:a.eval mo=.map (some b))(X:ByteArray)(u v:V)(h:iT m w b ((X.data.toList,u)::r))(hl:look X.data.toList r=some v)
  (e9:Canon (Fi m.enc r))(hn:r.length<100000000000000)(hX:X.size<=maxLen)(hx:a.eval x=.string X)(iD:m.ok v)(hv:a.eval vo=m.val v)(hK:∀w',iT m w' b r->w.grownBy w' (some b)->wpList prog ops Q rest (a.put o.dst undef) w'):wpList prog ops Q (o::rest) a w:=by
 obtain⟨n,fh,h⟩:=h;rw[Ca]at fh;refine wpList_mapUpdate_own w hg mo x vo m.t lK 9 m.e EZ m.hT m.R b n _ hm h (by unfold maxLen;omega) _ _ _ hx hv (IP X hX) _ [] (m.hR v iD) (λw' h1 h2=>?_);have e:(Fi m.enc ((X.data.toList,u)::r)).put (.string X.data.toList) (m.enc v)=Fi m.enc r:=by
  refine Maps.ext (h1.canon EZ) e9 (λk=>?_) (λk z hk=>?_)
  ·by_cases dL:k=.string X.data.toList
   ·rw[dL,has_put_same (PN m.enc _).isMap (kl _),QA,hl];rfl
   ·rw[has_put_other dL,Fi,has_put_other dL]
  ·by_cases dL:k=.string X.data.toList
   ·rw[dL,atKey_put_same (PN m.enc _).isMap (kl _),Qt,hl];rfl
   ·rw[atKey_put_other dL,Fi,atKey_put_other dL]
 rw[e]at h1;exact hK w' (iT.of h1) h2
theorem zf9(m:MK V)(w:World) {ops:Array Oper} {rest:List Oper} {o:Oper} {a:Act} {Q:Exit->Act->World->Prop}
  (hg:o.guard=none)(mo x:Operand)(lK:o.op=Op.call { callee:=Callee.builtin Builtin.delete,args:=#[mo,x],argTypes:=#[m.t,9] })(b:Nat)(r:List (Name × V))(hm:a.eval mo=.map (some b))(X:ByteArray)(u:V)(h:iT m w b ((X.data.toList,u)::r))(hl:look X.data.toList r=none)
  (e9:Canon (Fi m.enc r))(hX:X.size<=maxLen)(hx:a.eval x=.string X)(hK:∀w',iT m w' b r->w.grownBy w' (some b)->wpList prog ops Q rest (a.put o.dst (.tuple #[])) w'):wpList prog ops Q (o::rest) a w:=by
 obtain⟨n,fh,h⟩:=h;refine wpList_delete_own w hg mo x m.t 9 lK m.e EZ m.hT m.R b n _ hm h _ _ hx (IP X hX) (λw' h1 h2=>?_);have e:(Fi m.enc ((X.data.toList,u)::r)).del (.string X.data.toList)=Fi m.enc r:=by
  refine Maps.ext (h1.canon EZ) e9 (λk=>?_) (λk z hk=>?_)
  ·by_cases dL:k=.string X.data.toList
   ·rw[dL,has_del_same,QA,hl];rfl
   ·rw[has_del_other dL,Fi,has_put_other dL]
  ·by_cases dL:k=.string X.data.toList
   ·rw[dL,has_del_same]at hk;cases hk
   ·rw[atKey_del_other dL,Fi,atKey_put_other dL]
 rw[e]at h1;exact hK w' (iT.of h1) h2.grown
theorem iT.canon {m:MK V} {w:World} {b:Nat} {r:List (Name × V)}(h:iT m w b r):Canon (Fi m.enc r):=by obtain⟨n,_,h⟩:=h;exact h.canon EZ
end
def Kh:Value->Option (DataW Unit × List MemPlace)
 |.int .i64 a=>some (.lit (.int .i64 a),[])
 |_=>none
theorem zga {x:Value} {v:Int} {ps:List MemPlace}(h:Kh x=some (.lit (.int .i64 v),ps)):x=.int .i64 v:=by
 unfold Kh at h;split at h
 ·injection h with h
  injection h with h _;injection h with h;injection h with _ h;rw[h]
 ·cases h
def mkInt:MK Nat where
 t:=116
 e:=3
 R:=Kh
 enc v:=.lit (.int .i64 v)
 val v:=.int .i64 v
 ok _:=True
 z:=.int .i64 0
 zd:=.lit (.int .i64 0)
 hT:=underlying116
 hz _:=by kernel_rfl
 hR _ _:=rfl
 Rf:=rfl
 inv _ _ _ h:=zga h
 Mm _ _ h:=zga h
end
end Go.Proofs.YtfafilmklhnngaaGreatDoor
