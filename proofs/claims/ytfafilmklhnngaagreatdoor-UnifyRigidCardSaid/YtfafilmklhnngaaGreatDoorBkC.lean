import Derived.Test.YtfafilmklhnngaaGreatDoorBkB
import Derived.Maps.RangeWalk
set_option maxHeartbeats 12800000
namespace Go.Proofs.YtfafilmklhnngaaGreatDoor
open Go.RowKit Go.Maps Go.ChangeMaps Go.MapKept
section
variable {κ:Type}
theorem ziN [DecidableEq κ] {x:κ} {v:Nat} : {l:List (κ × Nat)}->pget x l=some v->(x,v)∈l
 |[],h=>by cases h
 |p::r,h=>by
  rw[pget]at h
  by_cases hp:p.1=x
  ·rw[Aq hp]at h
   injection h with h;rw[<-hp,<-h]
   exact Ay
  ·rw[Am hp]at h
   exact Ar _ (ziN h)
theorem ziO [DecidableEq κ] {x:κ} {v:Nat} : {l:List (κ × Nat)}->(l.map (·.1)).Nodup->(x,v)∈l->pget x l=some v
 |[],_,h=>by cases h
 |p::r,hn,h=>by
  rw[AH,A6]at hn
  rw[pget]
  rcases An.1 h with h|h
  ·rw[<-h,Aq rfl]
  ·by_cases hp:p.1=x
   ·exact absurd (AM.2 ⟨(x,v),h,rfl⟩) (by rw[<-hp]at *;exact hn.1)
   ·rw[Am hp]
    exact ziO hn.2 h
def RngK(kv:κ->Value)(w:World)(b r:Nat)(l:List (κ × Nat))(done:List κ):Prop :=
 ∃es clock since seen c0,w.heap[b]?=some (.map es clock)/\es.toList.map (λe=>(e.key,e.val))=l.map (λp=>(kv p.1,PK p.2))/\St es clock/\w.heap[r]?=some (.mapIter (some b) since seen c0)/\(∀x∈es.toList,x.born<since)/\since<=c0/\since<=clock /\
  ∀(i:Nat) (e:MapEntry) (p:κ × Nat),es.toList[i]?=some e->l[i]?=some p->(seen.contains e.born=true↔p.1∈done)
theorem RngK.keep {kv:κ->Value} {w w':World} {b r:Nat} {l:List (κ × Nat)} {done:List κ}(h:RngK kv w b r l done)(hb:w'.heap[b]?=w.heap[b]?)(hr:w'.heap[r]?=w.heap[r]?):RngK kv w' b r l done:=by
 obtain⟨es,clock,since,seen,c0,h1,h2,h3,h4,rest⟩:=h;exact⟨es,clock,since,seen,c0,hb.trans h1,h2,h3,hr.trans h4,rest⟩
theorem RngK.lt {kv:κ->Value} {w:World} {b r:Nat} {l:List (κ × Nat)} {done:List κ}(h:RngK kv w b r l done):b<w.heap.size/\r<w.heap.size:=by
 obtain⟨es,clock,since,seen,c0,h1,h2,h3,h4,rest⟩:=h;exact⟨(Aj.1 h1).1,(Aj.1 h4).1⟩
theorem RngK.noCells {kv:κ->Value} {w:World} {b r:Nat} {l:List (κ × Nat)} {done:List κ}(h:RngK kv w b r l done) {g:Nat} {cs:Array Value} {t:TypeId} {fr:Nat × Nat}(hg:w.heap[g]?=some (.cells cs t fr)):g≠b/\g≠r:=by
 obtain⟨es,clock,since,seen,c0,h1,h2,h3,h4,rest⟩:=h;refine⟨λe=>?_,λe=>?_⟩
 ·rw[e,h1]at hg;cases hg
 ·rw[e,h4]at hg;cases hg
theorem zcs {w w':World} {b r:Nat}(hb:w'.heap[b]?=w.heap[b]?)(hr:w'.heap[r]?=w.heap[r]?):w'.rangeLeft b r=w.rangeLeft b r:=by
 unfold World.rangeLeft;rw[hb,hr]
variable [DecidableEq κ] {P:Program} {w:World} {kv:κ->Value} {ok:World->κ->Prop}
theorem MapK.rangeK {T K E:TypeId} {b:Nat} {f:κ->Option Nat}(h:MapK kv ok w b f)(hT:P.underlying T=some (.map K E)):∃w' l,(Instr.range T (.map (some b))).run P w=.ok (.pointer (some ⟨w.heap.size,0,none⟩)) w'/\RngK kv w' b w.heap.size l []/\(l.map (·.1)).Nodup/\(∀x,f x=pget x l)/\w.grownBy w' none/\w'.heap.size=w.heap.size+1:=by
 have ah:=h.lt;obtain⟨es,c,l,h1,h2,h3,h4,h5,h6⟩:=h;refine⟨_,l,run_range_map w T K E b es c hT h1,⟨es,c,c,#[],c,((MapKept.heap_alloc w _).2 b ah).trans h1,h2,h6,(MapKept.heap_alloc w _).1,h6.1,Ai _,Ai _,λi e p _ _=>by simp⟩,h3,h5,World.grownBy_alloc w _ none,by simp⟩
omit [DecidableEq κ] in
theorem RngK.next {b r:Nat} {l:List (κ × Nat)} {done:List κ}(h:RngK kv w b r l done)(hn:(l.map (·.1)).Nodup)(ty:TypeId):((∀p∈l,p.1∈done)/\(Instr.next (.pointer (some ⟨r,0,none⟩)) false ty).run P w=.ok (.tuple #[.bool false]) w) \/
  ∃p∈l,p.1∉done/\∃w',(Instr.next (.pointer (some ⟨r,0,none⟩)) false ty).run P w=.ok (.tuple #[.bool true,kv p.1,PK p.2]) w'/\RngK kv w' b r l (done++[p.1])/\w'.rangeLeft b r<w.rangeLeft b r/\w.grownBy w' (some r)/\w'.heap.size=w.heap.size /\
   (Instr.entry (.pointer (some ⟨r,0,none⟩))).run P w'=.ok (.tuple #[kv p.1,PK p.2]) w':=by
 obtain⟨es,clock,since,seen,c0,hb,hl,aI,hr,hold,sp,lP,hd⟩:=h;have hlen:es.toList.length=l.length:=by have:=Az List.length hl;simpa using this
 rcases run_next_at (P:=P) w ty r b since c0 seen es clock hr hb hold sp with⟨h0,aA⟩|⟨e,he,w1,bz,aA⟩
 ·refine .inl ⟨λp hp=>?_,aA⟩
  obtain⟨i,hi⟩:=List.getElem?_of_mem hp;have ey:i<es.toList.length:=by have:=(Aw.1 hi).1;omega
  have hs:=all_seen es seen h0 _ (Bd ey);exact(hd i _ p (Ak ey) hi).1 hs
 ·obtain⟨hem,ru⟩:=mem_left he
  obtain⟨i,hi⟩:=List.getElem?_of_mem hem;have ey:i<l.length:=by have:=(Aw.1 hi).1;omega
  obtain⟨p,hp⟩:∃p,l[i]?=some p:=⟨_,Ak ey⟩;have hkv:e.key=kv p.1/\e.val=PK p.2:=by
   have:=Az (λm=>m[i]?) hl;simp only[AY,hi,hp,BG,Bi,Bz]at this;exact this
  have bE:w1.heap[r]?=some (.mapIter (some b) since seen c0):=by rcases bz with rfl|rfl <;> exact hr
  have aw:w1.heap[b]?=some (.map es clock):=by rcases bz with rfl|rfl <;> exact hb
  have af:b≠r:=λe=>by rw[e,hr]at hb;cases hb
  have bZ:=heap_set (o':=.mapIter (some b) since (seen.push e.born) clock) bE;have eC:(setBlock w1 r (.mapIter (some b) since (seen.push e.born) clock)).heap[b]?=some (.map es clock):=(bZ.2 b af).trans aw;have xQ:=run_entry_at (P:=P) _ r b since seen es clock e bZ.1 eC hem aI.2;rw[hkv.1,hkv.2]at aA xQ
  refine .inr ⟨p,AX hp,λhm=>?_,_,aA,⟨es,clock,since,seen.push e.born,clock,eC,hl,aI,bZ.1,hold,lP,lP,λj e' p' hj df=>?_⟩,?_,?_,?_,xQ⟩
  ·have:=(hd i e p hi hp).2 hm
   rw[this]at ru
   cases ru
  ·rw[contains_push,AA,AJ,Cu,CF]
   have hdj:=hd j e' p' hj df;by_cases mZ:j=i
   ·subst mZ
    rw[hi]at hj;rw[hp]at df
    injection hj with hj;injection df with df;subst hj df;exact⟨λ_=>.inr rfl,λ_=>.inr rfl⟩
   ·have h1:e'.born≠e.born:=λh=>mZ (by
     have jU:(es.toList.map (·.born))[j]?=some e'.born:=by rw[AY,hj];rfl
     have fx:(es.toList.map (·.born))[i]?=some e'.born:=by rw[AY,hi,h];rfl
     have hjl:=(Aw.1 jU).1;exact(List.getElem?_inj hjl aI.2).1 (jU.trans fx.symm))
    have h2:p'.1≠p.1:=λh=>mZ (by
     have jU:(l.map (·.1))[j]?=some p'.1:=by rw[AY,df];rfl
     have fx:(l.map (·.1))[i]?=some p'.1:=by rw[AY,hp,h];rfl
     have hjl:=(Aw.1 jU).1;exact(List.getElem?_inj hjl hn).1 (jU.trans fx.symm))
    rw[hdj]
    exact⟨λh=>h.elim .inl (λh=>absurd h h1),λh=>h.elim .inl (λh=>absurd h h2)⟩
  ·have hs:=left_shrinks es seen e he
   unfold World.rangeLeft;have kJ:(setBlock w1 r (.mapIter (some b) since (seen.push e.born) clock)).heap[r]?=some (.mapIter (some b) since (seen.push e.born) clock):=bZ.1;rw[eC,kJ,hb,hr]
   exact hs
  ·rcases bz with rfl|rfl <;> exact⟨rfl,rfl,rfl,by simp[setBlock],λi _ hi=>bZ.2 i (λe1=>hi (by rw[e1]))⟩
  ·rcases bz with rfl|rfl <;> simp[setBlock]
end
section
variable {κ:Type} [DecidableEq κ] {P:Program} (w:World) {ops:Array Oper} {rest:List Oper} {o:Oper} {a:Act} {Q:Exit->Act->World->Prop} {kv:κ->Value} {ok:World->κ->Prop}
theorem zhV(hg:o.guard=none)(m:Operand)(t:TypeId)(jQ:o.op=Op.range t m)(k e:TypeId)(ht:P.underlying t=some (.map k e))(b:Nat)(f:κ->Option Nat)(hm:a.eval m=.map (some b))(h:MapK kv ok w b f)
  (hK:∀w' l,RngK kv w' b w.heap.size l []->(l.map (·.1)).Nodup->(∀x,f x=pget x l)->w.grownBy w' none->w'.heap.size=w.heap.size+1->wpList P ops Q rest (a.put o.dst (.pointer (some ⟨w.heap.size,0,none⟩))) w'):wpList P ops Q (o::rest) a w:=by
 refine wpList_plain hg λK' gP=>?_;obtain⟨w',l,aA,r1,r2,r3,r4,r5⟩:=h.rangeK ht;unfold Oper.wp;simp[execOp,jQ,hm,aA,Result.andThen]
 exact gP _ _ (hK w' l r1 r2 r3 r4 r5)
omit [DecidableEq κ] in
theorem ziP(hg:o.guard=none)(it:Operand)(jQ:o.op=Op.next it false)(b r:Nat)(l:List (κ × Nat))(done:List κ)(hit:a.eval it=.pointer (some ⟨r,0,none⟩))(h:RngK kv w b r l done)(hn:(l.map (·.1)).Nodup)
  (yE:(∀p∈l,p.1∈done)->wpList P ops Q rest (a.put o.dst (.tuple #[.bool false])) w)
  (yy:∀(x:κ)(p:Nat)(w':World),(x,p)∈l->x∉done->RngK kv w' b r l (done++[x])->w'.rangeLeft b r<w.rangeLeft b r->w.grownBy w' (some r)->w'.heap.size=w.heap.size ->
   (Instr.entry (.pointer (some ⟨r,0,none⟩))).run P w'=.ok (.tuple #[kv x,PK p]) w'->wpList P ops Q rest (a.put o.dst (.tuple #[.bool true,kv x,PK p])) w'):wpList P ops Q (o::rest) a w:=by
 refine wpList_plain hg λK' gP=>?_;unfold Oper.wp;rcases h.next (P:=P) hn o.type with⟨h0,aA⟩|⟨⟨x,p⟩,hp,dQ,w',aA,h1,h2,h3,h4,h5⟩
 ·simp[execOp,jQ,hit,aA,Result.andThen]
  exact gP _ _ (yE h0)
 ·simp[execOp,jQ,hit,aA,Result.andThen]
  exact gP _ _ (yy x p w' hp dQ h1 h2 h3 h4 h5)
end
end Go.Proofs.YtfafilmklhnngaaGreatDoor
