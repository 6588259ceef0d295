import Derived.Test.YtfafilmklhnngaaGreatDoorBsB
import Derived.Maps.RangeWalk
set_option maxHeartbeats 12800000
set_option maxRecDepth 100000
namespace Go.Proofs.YtfafilmklhnngaaGreatDoor
section
open Go.RowKit Go.Maps Go.ChangeMaps Go.MapKept
section
variable {κ:Type}
theorem zjw [DecidableEq κ] {x:κ} {v:Nat} : {l:List (κ × Nat)}->F8 x l=some v->(x,v)∈l
 |[],h=>by cases h
 |p::r,h=>by
  rw[F8]at h;by_cases hp:p.1=x
  ·rw[Ch hp]at h
   injection h with h;rw[<-hp,<-h]
   exact Cs
  ·rw[Cg hp]at h
   exact Cf _ (zjw h)
theorem zjx [DecidableEq κ] {x:κ} {v:Nat} : {l:List (κ × Nat)}->(l.map (·.1)).Nodup->(x,v)∈l->F8 x l=some v
 |[],_,h=>by cases h
 |p::r,hn,h=>by
  rw[CA,CO]at hn;rw[F8];rcases Cd.1 h with h|h
  ·rw[<-h,Ch rfl]
  ·by_cases hp:p.1=x
   ·exact absurd (Ct.2 ⟨(x,v),h,rfl⟩) (by rw[<-hp]at *;exact hn.1)
   ·rw[Cg hp]
    exact zjx hn.2 h
def H_(kv:κ->Value)(w:World)(b r:Nat)(l:List (κ × Nat))(done:List κ):Prop :=
 ∃es clock since seen c0,w.heap[b]?=some (.map es clock)/\es.toList.map (λe=>(e.key,e.val))=l.map (λp=>(kv p.1,PK p.2))/\St es clock/\w.heap[r]?=some (.mapIter (some b) since seen c0)/\(∀x∈es.toList,x.born<since)/\since<=c0/\since<=clock /\
  ∀(i:Nat) (e:MapEntry) (p:κ × Nat),es.toList[i]?=some e->l[i]?=some p->(seen.contains e.born=true↔p.1∈done)
theorem H_.al {kv:κ->Value} {w w':World} {b r:Nat} {l:List (κ × Nat)} {done:List κ}(h:H_ kv w b r l done)(hb:w'.heap[b]?=w.heap[b]?)(hr:w'.heap[r]?=w.heap[r]?):H_ kv w' b r l done:=by
 obtain⟨es,clock,since,seen,c0,h1,h2,h3,h4,rest⟩:=h;exact⟨es,clock,since,seen,c0,hb.trans h1,h2,h3,hr.trans h4,rest⟩
theorem H_.lt {kv:κ->Value} {w:World} {b r:Nat} {l:List (κ × Nat)} {done:List κ}(h:H_ kv w b r l done):b<w.heap.size/\r<w.heap.size:=by
 obtain⟨es,clock,since,seen,c0,h1,h2,h3,h4,rest⟩:=h;exact⟨(BV.1 h1).1,(BV.1 h4).1⟩
theorem H_.Kg {kv:κ->Value} {w:World} {b r:Nat} {l:List (κ × Nat)} {done:List κ}(h:H_ kv w b r l done) {g:Nat} {cs:Array Value} {t:TypeId} {fr:Nat × Nat}(hg:w.heap[g]?=some (.cells cs t fr)):g≠b/\g≠r:=by
 obtain⟨es,clock,since,seen,c0,h1,h2,h3,h4,rest⟩:=h;refine⟨λe=>?_,λe=>?_⟩
 ·rw[e,h1]at hg;cases hg
 ·rw[e,h4]at hg;cases hg
theorem Ws {w w':World} {b r:Nat}(hb:w'.heap[b]?=w.heap[b]?)(hr:w'.heap[r]?=w.heap[r]?):w'.rangeLeft b r=w.rangeLeft b r:=by
 unfold World.rangeLeft;rw[hb,hr]
variable [DecidableEq κ] {P:Program} {w:World} {kv:κ->Value} {ok:World->κ->Prop}
theorem d_.O_ {T K E:TypeId} {b:Nat} {f:κ->Option Nat}(h:d_ kv ok w b f)(hT:P.underlying T=some (.map K E)):∃w' l,(Instr.range T (.map (some b))).run P w=.ok (.pointer (some ⟨w.heap.size,0,none⟩)) w'/\H_ kv w' b w.heap.size l []/\(l.map (·.1)).Nodup/\(∀x,f x=F8 x l)/\w.grownBy w' none/\w'.heap.size=w.heap.size+1:=by
 have af:=h.lt;obtain⟨es,c,l,h1,h2,h3,h4,h5,h6⟩:=h;refine⟨_,l,run_range_map w T K E b es c hT h1,⟨es,c,c,#[],c,((MapKept.heap_alloc w _).2 b af).trans h1,h2,h6,(MapKept.heap_alloc w _).1,h6.1,BU _,BU _,λi e p _ _=>by simp⟩,h3,h5,World.grownBy_alloc w _ none,by simp⟩
omit [DecidableEq κ] in
theorem H_.next {b r:Nat} {l:List (κ × Nat)} {done:List κ}(h:H_ kv w b r l done)(hn:(l.map (·.1)).Nodup)(ty:TypeId):((∀p∈l,p.1∈done)/\(Instr.next (.pointer (some ⟨r,0,none⟩)) false ty).run P w=.ok (.tuple #[.bool false]) w) \/
  ∃p∈l,p.1∉done/\∃w',(Instr.next (.pointer (some ⟨r,0,none⟩)) false ty).run P w=.ok (.tuple #[.bool true,kv p.1,PK p.2]) w'/\H_ kv w' b r l (done++[p.1])/\w'.rangeLeft b r<w.rangeLeft b r/\w.grownBy w' (some r)/\w'.heap.size=w.heap.size /\
   (Instr.entry (.pointer (some ⟨r,0,none⟩))).run P w'=.ok (.tuple #[kv p.1,PK p.2]) w':=by
 obtain⟨es,clock,since,seen,c0,hb,hl,aW,hr,hold,sk,lI,hd⟩:=h;have hlen:es.toList.length=l.length:=by have:=Cp List.length hl;simpa using this
 rcases run_next_at (P:=P) w ty r b since c0 seen es clock hr hb hold sk with⟨h0,aC⟩|⟨e,he,w1,ef,aC⟩
 ·refine .inl ⟨λp hp=>?_,aC⟩
  obtain⟨i,hi⟩:=List.getElem?_of_mem hp;have bP:i<es.toList.length:=by have:=(Cj.1 hi).1;omega
  have hs:=all_seen es seen h0 _ (CS bP);exact(hd i _ p (BY bP) hi).1 hs
 ·obtain⟨hem,sN⟩:=mem_left he
  obtain⟨i,hi⟩:=List.getElem?_of_mem hem;have bP:i<l.length:=by have:=(Cj.1 hi).1;omega
  obtain⟨p,hp⟩:∃p,l[i]?=some p:=⟨_,BY bP⟩;have hkv:e.key=kv p.1/\e.val=PK p.2:=by
   have:=Cp (λm=>m[i]?) hl;simp only[CT,hi,hp,DJ,Dj,DE]at this;exact this
  have bm:w1.heap[r]?=some (.mapIter (some b) since seen c0):=by rcases ef with rfl|rfl <;> exact hr
  have av:w1.heap[b]?=some (.map es clock):=by rcases ef with rfl|rfl <;> exact hb
  have ai:b≠r:=λe=>by rw[e,hr]at hb;cases hb
  have cU:=heap_set (o':=.mapIter (some b) since (seen.push e.born) clock) bm;have lV:(setBlock w1 r (.mapIter (some b) since (seen.push e.born) clock)).heap[b]?=some (.map es clock):=(cU.2 b ai).trans av;have zH:=run_entry_at (P:=P) _ r b since seen es clock e cU.1 lV hem aW.2;rw[hkv.1,hkv.2]at aC zH;refine .inr ⟨p,CG hp,λhm=>?_,_,aC,⟨es,clock,since,seen.push e.born,clock,lV,hl,aW,cU.1,hold,lI,lI,λj e' p' hj bY=>?_⟩,?_,?_,?_,zH⟩
  ·have:=(hd i e p hi hp).2 hm
   rw[this]at sN;cases sN
  ·rw[contains_push,Cr,Cx,Er,ED]
   have hdj:=hd j e' p' hj bY;by_cases oR:j=i
   ·subst oR
    rw[hi]at hj;rw[hp]at bY;injection hj with hj;injection bY with bY;subst hj bY;exact⟨λ_=>.inr rfl,λ_=>.inr rfl⟩
   ·have h1:e'.born≠e.born:=λh=>oR (by
     have kI:(es.toList.map (·.born))[j]?=some e'.born:=by rw[CT,hj];rfl
     have fB:(es.toList.map (·.born))[i]?=some e'.born:=by rw[CT,hi,h];rfl
     have Xb:=(Cj.1 kI).1;exact(List.getElem?_inj Xb aW.2).1 (kI.trans fB.symm))
    have h2:p'.1≠p.1:=λh=>oR (by
     have kI:(l.map (·.1))[j]?=some p'.1:=by rw[CT,bY];rfl
     have fB:(l.map (·.1))[i]?=some p'.1:=by rw[CT,hp,h];rfl
     have Xb:=(Cj.1 kI).1;exact(List.getElem?_inj Xb hn).1 (kI.trans fB.symm))
    rw[hdj];exact⟨λh=>h.elim .inl (λh=>absurd h h1),λh=>h.elim .inl (λh=>absurd h h2)⟩
  ·have hs:=left_shrinks es seen e he
   unfold World.rangeLeft;have mC:(setBlock w1 r (.mapIter (some b) since (seen.push e.born) clock)).heap[r]?=some (.mapIter (some b) since (seen.push e.born) clock):=cU.1;rw[lV,mC,hb,hr];exact hs
  ·rcases ef with rfl|rfl <;> exact⟨rfl,rfl,rfl,by simp[setBlock],λi _ hi=>cU.2 i (λe1=>hi (by rw[e1]))⟩
  ·rcases ef with rfl|rfl <;> simp[setBlock]
end
section
variable {κ:Type} [DecidableEq κ] {P:Program} (w:World) {ops:Array Oper} {rest:List Oper} {o:Oper} {a:Act} {Q:Exit->Act->World->Prop} {kv:κ->Value} {ok:World->κ->Prop}
theorem ziH(hg:o.guard=none)(m:Operand)(t:TypeId)(lK:o.op=Op.range t m)(k e:TypeId)(ht:P.underlying t=some (.map k e))(b:Nat)(f:κ->Option Nat)(hm:a.eval m=.map (some b))(h:d_ kv ok w b f)
  (hK:∀w' l,H_ kv w' b w.heap.size l []->(l.map (·.1)).Nodup->(∀x,f x=F8 x l)->w.grownBy w' none->w'.heap.size=w.heap.size+1->wpList P ops Q rest (a.put o.dst (.pointer (some ⟨w.heap.size,0,none⟩))) w'):wpList P ops Q (o::rest) a w:=by
 refine wpList_plain hg λK' gB=>?_;obtain⟨w',l,aC,r1,r2,r3,r4,r5⟩:=h.O_ ht;unfold Oper.wp;simp[execOp,lK,hm,aC,Result.andThen]
 exact gB _ _ (hK w' l r1 r2 r3 r4 r5)
omit [DecidableEq κ] in
theorem zjy(hg:o.guard=none)(it:Operand)(lK:o.op=Op.next it false)(b r:Nat)(l:List (κ × Nat))(done:List κ)(hit:a.eval it=.pointer (some ⟨r,0,none⟩))(h:H_ kv w b r l done)(hn:(l.map (·.1)).Nodup)
  (Ar:(∀p∈l,p.1∈done)->wpList P ops Q rest (a.put o.dst (.tuple #[.bool false])) w)
  (Ai:∀(x:κ)(p:Nat)(w':World),(x,p)∈l->x∉done->H_ kv w' b r l (done++[x])->w'.rangeLeft b r<w.rangeLeft b r->w.grownBy w' (some r)->w'.heap.size=w.heap.size ->
   (Instr.entry (.pointer (some ⟨r,0,none⟩))).run P w'=.ok (.tuple #[kv x,PK p]) w'->wpList P ops Q rest (a.put o.dst (.tuple #[.bool true,kv x,PK p])) w'):wpList P ops Q (o::rest) a w:=by
 refine wpList_plain hg λK' gB=>?_;unfold Oper.wp;rcases h.next (P:=P) hn o.type with⟨h0,aC⟩|⟨⟨x,p⟩,hp,eJ,w',aC,h1,h2,h3,h4,h5⟩
 ·simp[execOp,lK,hit,aC,Result.andThen]
  exact gB _ _ (Ar h0)
 ·simp[execOp,lK,hit,aC,Result.andThen]
  exact gB _ _ (Ai x p w' hp eJ h1 h2 h3 h4 h5)
end
end
end Go.Proofs.YtfafilmklhnngaaGreatDoor
