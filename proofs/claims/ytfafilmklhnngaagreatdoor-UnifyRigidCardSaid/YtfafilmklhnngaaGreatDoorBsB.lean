import Derived.Test.YtfafilmklhnngaaGreatDoorBsA
import Derived.LaidEqlPtr
import Derived.Maps.Own
set_option maxHeartbeats 12800000
set_option maxRecDepth 100000
namespace Go.Proofs.YtfafilmklhnngaaGreatDoor
section
open Go.RowKit Go.Maps Go.ChangeMaps
def PK(b:Nat):Value:=.pointer (some ⟨b,0,none⟩)
def Laid(w:World)(b:Nat):Prop:=∃cs t,w.heap[b]?=some (.cells cs t (0,0))
theorem Q5 {α β:Type}(f:α->β):∀(l:List α)(k:Nat),(l.eraseIdx k).map f=(l.map f).eraseIdx k
 |[],_=>by simp
 |a::r,0=>by simp
 |a::r,k+1=>by simp[Q5 f r k]
section
variable {κ:Type} [DecidableEq κ]
def JL(x:κ):List (κ × Nat)->Nat->Option (Nat × Nat)
 |[],_=>none
 |p::r,i=>if p.1=x then some (i,p.2) else JL x r (i+1)
def F8(x:κ):List (κ × Nat)->Option Nat
 |[]=>none
 |p::r=>if p.1=x then some p.2 else F8 x r
def Ih(x:κ)(v:Nat):List (κ × Nat)->List (κ × Nat)
 |[]=>[(x,v)]
 |p::r=>if p.1=x then(x,v)::r else p::Ih x v r
theorem VZ(x:κ):∀(l:List (κ × Nat))(i:Nat),(JL x l i).map (·.2)=F8 x l
 |[],_=>rfl
 |p::r,i=>by
  rw[JL,F8];split
  ·rfl
  ·exact VZ x r (i+1)
theorem VY(x:κ)(v:Nat):∀(l:List (κ × Nat))(i:Nat),JL x l i=none->Ih x v l=l++[(x,v)]
 |[],_,_=>rfl
 |p::r,i,h=>by
  rw[JL]at h;rw[Ih];split at h
  ·cases h
  ·rename_i hp
   rw[Cg hp,VY x v r (i+1) h];rfl
theorem VX(x:κ)(v:Nat):∀(l:List (κ × Nat))(i j u:Nat),JL x l i=some (j,u)->∃k,j=i+k/\l[k]?=some (x,u)/\Ih x v l=l.set k (x,v)
 |[],_,_,_,h=>by cases h
 |p::r,i,j,u,h=>by
  rw[JL]at h;rw[Ih];split at h
  ·rename_i hp
   injection h with h;injection h with h1 h2;refine⟨0,h1.symm,?_,?_⟩
   ·rw[<-hp,<-h2];rfl
   ·rw[Ch hp];rfl
  ·rename_i hp
   obtain⟨k,h1,h2,h3⟩:=VX x v r (i+1) j u h;refine⟨k+1,by omega,by simpa using h2,?_⟩;rw[Cg hp,h3];rfl
theorem VC(x:κ)(v:Nat)(y:κ):∀l:List (κ × Nat),F8 y (Ih x v l)=if y=x then some v else F8 y l
 |[]=>by
  show(if x=y then some v else none)=if y=x then some v else none
  by_cases h:y=x
  ·rw[Ch h,Ch h.symm]
  ·rw[Cg h,Cg (λe=>h e.symm)]
 |p::r=>by
  rw[Ih];by_cases hp:p.1=x
  ·rw[Ch hp,F8,F8]
   by_cases h:y=x
   ·rw[Ch h.symm,Ch h]
   ·rw[Cg (λe=>h e.symm),Cg h,Cg (λe=>h (e.symm.trans hp))]
  ·rw[Cg hp,F8,F8,VC x v y r]
   by_cases h:y=x
   ·rw[Cg (λe=>hp (e.trans h)),Ch h,Ch h]
   ·rw[Cg h,Cg h]
theorem zih(x:κ)(v:Nat):∀l:List (κ × Nat),(l.map (·.1)).Nodup->((Ih x v l).map (·.1)).Nodup/\∀y∈(Ih x v l).map (·.1),y=x\/y∈l.map (·.1)
 |[],_=>by rw[Ih];simp
 |p::r,h=>by
  rw[CA,CO]at h;obtain⟨h1,h2⟩:=zih x v r h.2;rw[Ih];by_cases hp:p.1=x
  ·rw[Ch hp]
   refine⟨by rw[CA,CO];exact⟨by rw[<-hp];exact h.1,h.2⟩,λy hy=>?_⟩;rw[CA]at hy ⊢;rcases Cd.1 hy with e|e
   ·exact .inl e
   ·exact .inr (Cf _ e)
  ·rw[Cg hp]
   refine⟨?_,λy hy=>?_⟩
   ·rw[CA,CO]
    refine⟨λhm=>?_,h1⟩;rcases h2 _ hm with e|e
    ·exact hp e
    ·exact h.1 e
   ·rw[CA]at hy ⊢
    rcases Cd.1 hy with e|e
    ·exact .inr (by rw[e];exact Cs)
    ·rcases h2 y e with e|e
     ·exact .inl e
     ·exact .inr (Cf _ e)
theorem zg2(x y:κ):∀(l:List (κ × Nat))(k u:Nat),(l.map (·.1)).Nodup->l[k]?=some (x,u)->F8 y (l.eraseIdx k)=if y=x then none else F8 y l
 |[],k,u,_,h=>by simp at h
 |p::r,0,u,hn,h=>by
  simp at h;subst h;rw[CA,CO]at hn;rw[List.eraseIdx_cons_zero,F8];by_cases e:y=x
  ·subst e
   rw[Ch rfl];have:∀l:List (κ × Nat),y∉l.map (·.1)->F8 y l=none:=λl=>by
    induction l with
    |nil=>intro _;rfl
    |cons q l ih =>
     intro h;rw[CA,Cd]at h;rw[F8,Cg (λe=>h (.inl e.symm))];exact ih λh'=>h (.inr h')
   exact this r hn.1
  ·rw[Cg e,Cg (λe'=>e e'.symm)]
 |p::r,k+1,u,hn,h=>by
  rw[CA,CO]at hn;have hx:x∈r.map (·.1):=by
   have:=List.mem_iff_getElem?.2 ⟨k,(by simpa using h:r[k]?=some (x,u))⟩;exact Ct.2 ⟨_,this,rfl⟩
  rw[List.eraseIdx_cons_succ,F8,F8,zg2 x y r k u hn.2 (by simpa using h)];by_cases hp:p.1=y
  ·rw[Ch hp,Ch hp,Cg]
   rintro rfl;exact hn.1 (hp▸hx)
  ·rw[Cg hp,Cg hp]
theorem znp(x:κ):∀(l:List (κ × Nat))(i:Nat),JL x l i=none->F8 x l=none:=λl i h=>by rw[<-VZ x l i,h];rfl
structure Hu (P:Program) (K:TypeId) (kv:κ->Value) (ok:World->κ->Prop):Prop where
 find:∀(w:World) (x:κ) (es:List MapEntry) (l:List (κ × Nat)),ok w x->(∀p∈l,ok w p.1)->es.map (λe=>(e.key,e.val))=l.map (λp=>(kv p.1,PK p.2)) ->
  (Instr.findKey K (kv x) es).run P w=.ok ((JL x l 0).map λq=>(q.1,PK q.2)) w
 check:∀(w:World) (em:Bool) (x:κ),(Instr.checkKey em 10000 K (kv x)).run P w=.ok () w
 stays:∀(w:World) (x:κ),(Instr.keyThatStays (kv x) (kv x)).run P w=.ok (kv x) w
 set:∀(w:World) (b:Nat) (es gn:Array MapEntry) (c c':Nat) (x:κ),w.heap[b]?=some (.map es c)->ok w x->ok (setBlock w b (.map gn c')) x
def St(es:Array MapEntry)(c:Nat):Prop:=(∀x∈es.toList,x.born<c)/\(es.toList.map (·.born)).Nodup
theorem St.push {es:Array MapEntry} {c:Nat}(h:St es c)(k v:Value):St (es.push { key:=k,val:=v,born:=c }) (c+1):=by
 refine⟨λx hx=>?_,?_⟩
 ·rw[Array.toList_push]at hx
  rcases Cr.1 hx with hx|hx
  ·have:=h.1 x hx;omega
  ·simp at hx;rw[hx];exact Nat.lt_succ_self c
 ·rw[Array.toList_push,Dn,DP]
  refine⟨h.2,by simp,λa ha y hy=>?_⟩;obtain⟨e,he,rfl⟩:=Ct.1 ha;simp at hy;have:=h.1 e he;omega
theorem St.modify {es:Array MapEntry} {c:Nat}(h:St es c)(i:Nat)(k v:Value):St (es.modify i λe=>{ e with key:=k,val:=v }) c:=by
 have hb:(es.modify i λe=>{ e with key:=k,val:=v }).toList.map (·.born)=es.toList.map (·.born):=by
  refine Ev λj=>?_;simp only[CT,DG,Ey];by_cases oR:i=j
  ·subst oR
   rw[Ch rfl];cases es[i]? <;> rfl
  ·rw[Cg oR]
 refine⟨λx hx=>?_,by rw[hb];exact h.2⟩;have hm:x.born∈es.toList.map (·.born):=by rw[<-hb];exact Ct.2 ⟨x,hx,rfl⟩
 obtain⟨y,hy,e⟩:=Ct.1 hm;rw[<-e];exact h.1 y hy
theorem St.erase {es:Array MapEntry} {c:Nat}(h:St es c)(i:Nat)(e:(es.eraseIdxIfInBounds i).toList=es.toList.eraseIdx i):St (es.eraseIdxIfInBounds i) c:=by
 refine⟨λx hx=>?_,?_⟩
 ·rw[e]at hx
  exact h.1 x (List.mem_of_mem_eraseIdx hx)
 ·rw[e,Q5]
  exact h.2.eraseIdx i
def d_(kv:κ->Value)(ok:World->κ->Prop)(w:World)(b:Nat)(f:κ->Option Nat):Prop :=
 ∃es clock l,w.heap[b]?=some (.map es clock)/\es.toList.map (λe=>(e.key,e.val))=l.map (λp=>(kv p.1,PK p.2))/\(l.map (·.1)).Nodup/\(∀p∈l,ok w p.1)/\(∀x,f x=F8 x l)/\St es clock
theorem d_.lt {kv:κ->Value} {ok:World->κ->Prop} {w:World} {b:Nat} {f:κ->Option Nat}(h:d_ kv ok w b f):b<w.heap.size:=by
 obtain⟨es,c,l,h,_⟩:=h;exact(BV.1 h).1
theorem d_.al {kv:κ->Value} {ok:World->κ->Prop} {w w':World} {b:Nat} {f:κ->Option Nat}(h:d_ kv ok w b f)(hb:w'.heap[b]?=w.heap[b]?)(hk:∀x,ok w x->ok w' x):d_ kv ok w' b f:=by
 obtain⟨es,c,l,h1,h2,h3,h4,h5⟩:=h;exact⟨es,c,l,hb.trans h1,h2,h3,λp hp=>hk _ (h4 p hp),h5⟩
theorem d_.no {kv:κ->Value} {ok:World->κ->Prop} {w:World} {b:Nat} {f:κ->Option Nat} {cs:Array Value} {t:TypeId} {fr:Nat × Nat}(h:d_ kv ok w b f)(hb:w.heap[b]?=some (.cells cs t fr)):False:=by
 obtain⟨es,c,l,h1,_⟩:=h;rw[hb]at h1;cases h1
def Hc:Option Nat->Value
 |none=>.pointer none
 |some b=>PK b
variable {P:Program} {w:World} {T E K:TypeId} {kv:κ->Value} {ok:World->κ->Prop}
theorem d_.look {b:Nat} {f:κ->Option Nat}(h:d_ kv ok w b f)(KK:Hu P K kv ok)(hT:P.underlying T=some (.map K E))(hz:(zeroValue E).run P w=.ok (.pointer none) w)(x:κ)(hx:ok w x):(Instr.lookup T (.map (some b)) (kv x) true).run P w=.ok (.tuple #[Hc (f x),.bool (f x).isSome]) w:=by
 obtain⟨es,c,l,h1,h2,h3,h4,h5,h6⟩:=h;have hf:=KK.find w x es.toList l hx h4 h2;have hg:=VZ x l 0;rw[<-h5 x]at hg;cases hq:JL x l 0 with
 |none =>
  rw[hq]at hf hg;simp only[Option.map_none]at hf hg;simp[Instr.lookup,run_underlying hT,MapKept.run_getObj_map h1,KK.check,hf,hz,Result.andThen,<-hg,Hc]
 |some q =>
  rw[hq]at hf hg;simp only[DJ]at hf hg;simp[Instr.lookup,run_underlying hT,MapKept.run_getObj_map h1,KK.check,hf,Result.andThen,<-hg,Hc]
theorem d_.store {b:Nat} {f:κ->Option Nat}(h:d_ kv ok w b f)(KK:Hu P K kv ok)(hT:P.underlying T=some (.map K E))(x:κ)(v:Nat)(hx:ok w x):∃w',(Instr.mapUpdate T (.map (some b)) (kv x) (PK v)).run P w=.ok () w'/\d_ kv ok w' b (λy=>if y=x then some v else f y)/\w.grownBy w' (some b)/\w'.heap.size=w.heap.size:=by
 obtain⟨es,c,l,h1,h2,h3,h4,h5,h6⟩:=h;have hf:=KK.find w x es.toList l hx h4 h2;have hlen:es.size=l.length:=by have:=Cp List.length h2;simpa using this
 have bN:((Ih x v l).map (·.1)).Nodup:=(zih x v l h3).1;have mS:∀o,w.grownBy (setBlock w b o) (some b):=λo=>⟨rfl,rfl,rfl,by simp[setBlock],λi _ hi=>heap_setBlock_other h1 _ (λe=>hi (by rw[e]))⟩;cases hq:JL x l 0 with
 |none =>
  rw[hq]at hf;simp only[Option.map_none]at hf;refine⟨setBlock w b (.map (es.push { key:=kv x,val:=PK v,born:=c }) (c+1)),?_,⟨_,_,Ih x v l,heap_setBlock_same h1 _,?_,bN,?_,?_,h6.push _ _⟩,mS _,by simp[setBlock]⟩
  ·simp[Instr.mapUpdate,run_underlying hT,MapKept.run_getObj_map h1,KK.check,hf,MapKept.run_setObj_map _ h1,Result.andThen,setBlock]
  ·rw[VY x v l 0 hq];simp[h2]
  ·rw[VY x v l 0 hq]
   intro p bY;rcases Cr.1 bY with bY|bY
   ·exact KK.set _ _ _ _ _ _ _ h1 (h4 p bY)
   ·simp at bY;rw[bY];exact KK.set _ _ _ _ _ _ _ h1 hx
  ·intro y;rw[VC,<-h5 y]
 |some q =>
  obtain⟨k,aU,bZ,fK⟩:=VX x v l 0 q.1 q.2 hq;rw[hq]at hf;simp only[DJ]at hf;rw[Dm]at aU;have kE:k<l.length:=(Cj.1 bZ).1;have Tv:∃e,es[k]?=some e/\e.key=kv x:=by
   have:=Cp (λm=>m[k]?) h2;simp only[CT,bZ,DJ]at this;cases he:es.toList[k]? with
   |none=>rw[he]at this;cases this
   |some e =>
    rw[he]at this;simp at this;exact⟨e,by simpa using he,this.1⟩
  obtain⟨e,he,hek⟩:=Tv;refine⟨setBlock w b (.map (es.modify k λe=>{ e with key:=kv x,val:=PK v }) c),?_,⟨_,_,Ih x v l,heap_setBlock_same h1 _,?_,bN,?_,?_,h6.modify _ _ _⟩,mS _,by simp[setBlock]⟩
  ·simp[Instr.mapUpdate,run_underlying hT,MapKept.run_getObj_map h1,KK.check,hf,aU,he,hek,KK.stays,MapKept.run_setObj_map _ h1,Result.andThen,setBlock]
  ·rw[fK]
   refine Ev λi=>?_;have hi:=Cp (λm=>m[i]?) h2;simp only[CT,DG,Ey,List.getElem?_set]at hi ⊢;by_cases qk:k=i
   ·subst qk
    simp[he,kE]
   ·rw[Cg qk,Cg qk];exact hi
  ·rw[fK]
   intro p bY;rcases List.mem_or_eq_of_mem_set bY with bY|bY
   ·exact KK.set _ _ _ _ _ _ _ h1 (h4 p bY)
   ·rw[bY];exact KK.set _ _ _ _ _ _ _ h1 hx
  ·intro y;rw[VC,<-h5 y]
theorem d_.drop {b:Nat} {f:κ->Option Nat}(h:d_ kv ok w b f)(KK:Hu P K kv ok)(hT:P.underlying T=some (.map K E))(x:κ)(hx:ok w x)(tt:TypeId)(t2:TypeId):∃w',(Builtin.delete_ #[T,t2] tt #[.map (some b),kv x]).run P w=.ok (.tuple #[]) w'/\d_ kv ok w' b (λy=>if y=x then none else f y)/\w.grownBy w' (some b)/\w'.heap.size=w.heap.size:=by
 obtain⟨es,c,l,h1,h2,h3,h4,h5,h6⟩:=h;have hf:=KK.find w x es.toList l hx h4 h2;have hlen:es.size=l.length:=by have:=Cp List.length h2;simpa using this
 have mS:∀o,w.grownBy (setBlock w b o) (some b):=λo=>⟨rfl,rfl,rfl,by simp[setBlock],λi _ hi=>heap_setBlock_other h1 _ (λe=>hi (by rw[e]))⟩;cases hq:JL x l 0 with
 |none =>
  rw[hq]at hf;simp only[Option.map_none]at hf;refine⟨setBlock w b (.map es c),?_,⟨_,_,l,heap_setBlock_same h1 _,h2,h3,λp hp=>KK.set _ _ _ _ _ _ _ h1 (h4 p hp),λy=>?_,h6⟩,mS _,by simp[setBlock]⟩
  ·simp[Builtin.delete_,run_underlying hT,MapKept.run_getObj_map h1,KK.check,hf,MapKept.run_setObj_map _ h1,Result.andThen,setBlock]
  ·show(if y=x then none else f y)=_
   by_cases hy:y=x
   ·rw[Ch hy,hy,znp x l 0 hq]
   ·rw[Cg hy,h5]
 |some q =>
  obtain⟨k,aU,bZ,-⟩:=VX x 0 l 0 q.1 q.2 hq;rw[hq]at hf;simp only[DJ]at hf;rw[Dm]at aU;have kE:k<l.length:=(Cj.1 bZ).1;refine⟨setBlock w b (.map (es.eraseIdxIfInBounds k) c),?_,⟨_,_,l.eraseIdx k,heap_setBlock_same h1 _,?_,?_,λp hp=>KK.set _ _ _ _ _ _ _ h1 (h4 p (List.mem_of_mem_eraseIdx hp)),(λy=>?_),h6.erase _ ?_⟩,mS _,by simp[setBlock]⟩
  ·simp[Builtin.delete_,run_underlying hT,MapKept.run_getObj_map h1,KK.check,hf,aU,MapKept.run_setObj_map _ h1,Result.andThen,setBlock]
  ·have:(es.eraseIdxIfInBounds k).toList=es.toList.eraseIdx k:=by
    unfold Array.eraseIdxIfInBounds;rw[dif_pos (by omega)];simp
   rw[this,Q5,Q5,h2]
  ·rw[Q5];exact h3.eraseIdx k
  ·show(if y=x then none else f y)=_
   rw[zg2 x y l k q.2 h3 bZ,h5]
  ·unfold Array.eraseIdxIfInBounds
   rw[dif_pos (by omega)];simp
end
theorem zjv {P:Program}(w w':World) {ops:Array Oper} {rest:List Oper} {o:Oper} {a:Act} {Q:Exit->Act->World->Prop}(hg:o.guard=none)(m x:Operand)(t k:TypeId)
  (lK:o.op=Op.call { callee:=Callee.builtin Builtin.delete,args:=#[m,x],argTypes:=#[t,k] })(mv xv:Value)(hm:a.eval m=mv)(hx:a.eval x=xv)
  (aC:(Builtin.delete_ #[t,k] o.type #[mv,xv]).run P w=.ok (.tuple #[]) w')(hK:wpList P ops Q rest (a.put o.dst (.tuple #[])) w'):wpList P ops Q (o::rest) a w:=by
 refine wpList_plain hg λK' gB=>?_;unfold Oper.wp;simp[execOp,lK,resolve,invoke,builtin,hm,hx,aC,Result.andThen]
 exact gB _ _ hK
section
variable {P:Program} {w:World} {K te:TypeId} {j:TypeInfo}
theorem zii(hp:P.underlying K=some (.pointer te))(qL:P.info? te=some j)(aA:j.size≠0)(x y:Nat)(hx:Laid w x)(hy:Laid w y):(Op.equal K (PK x) (PK y)).run P w=.ok (decide (y=x)) w:=by
 unfold Op.equal Op.maxDepth PK;by_cases h:y=x
 ·subst h
  have h:∀d:Nat,(Op.equalIn (d+1) K (.pointer (some ⟨y,0,none⟩)) (.pointer (some ⟨y,0,none⟩))).run P w=.ok true w:=λd=>by
   simp[Op.equalIn,run_underlying hp,sizeOf,typeInfo,qL,run_sameAddr_same]
  rw[show(10000:Nat)=9999+1 from rfl,h 9999];simp
 ·obtain⟨cx,tx,hx⟩:=hx
  obtain⟨cy,ty,hy⟩:=hy;have ai:(⟨x,0,none⟩:Addr)≠⟨y,0,none⟩:=λe=>h (by injection e with e _ _;exact e.symm);have hh:∀d:Nat,(Op.equalIn (d+1) K (.pointer (some ⟨x,0,none⟩)) (.pointer (some ⟨y,0,none⟩))).run P w=.ok false w:=λd=>by
   simp[Op.equalIn,run_underlying hp,sizeOf,typeInfo,qL,aA,run_sameAddr_other w ai hx hy]
  rw[show(10000:Nat)=9999+1 from rfl,hh 9999];simp[h]
theorem zg3(hp:P.underlying K=some (.pointer te))(qL:P.info? te=some j)(aA:j.size≠0)(x:Nat)(hx:Laid w x):∀(es:List MapEntry) (l:List (Nat × Nat)) (i:Nat),es.map (λe=>(e.key,e.val))=l.map (λp=>(PK p.1,PK p.2))->(∀p∈l,Laid w p.1) ->
   (Instr.findAsking K (PK x) es i).run P w=.ok ((JL x l i).map λq=>(q.1,PK q.2)) w
 |[],[],i,_,_=>by simp[Instr.findAsking,JL]
 |[],p::r,i,h,_=>by simp at h
 |e::es,[],i,h,_=>by simp at h
 |e::es,p::r,i,h,hl=>by
  simp only[CA,DF,DE]at h;obtain⟨⟨h1,h2⟩,h3⟩:=h;have he:=zii hp qL aA x p.1 hx (hl p Cs);have ih:=zg3 hp qL aA x hx es r (i+1) h3 (λq hq=>hl q (Cf _ hq));unfold Instr.findAsking;rw[h1];by_cases M8:p.1=x
  ·rw[CD M8]at he
   rw[JL,Ch M8];simp[he,Result.andThen,h2]
  ·rw[CF M8]at he
   rw[JL,Cg M8];simp[he,Result.andThen,ih]
theorem ziG(hp:P.underlying K=some (.pointer te))(qL:P.info? te=some j)(aA:j.size≠0)(x:Nat)(hx:Laid w x)(es:List MapEntry)(l:List (Nat × Nat))
  (h:es.map (λe=>(e.key,e.val))=l.map (λp=>(PK p.1,PK p.2)))(hl:∀p∈l,Laid w p.1):(Instr.findKey K (PK x) es).run P w=.ok ((JL x l 0).map λq=>(q.1,PK q.2)) w:=by
 have hf:=zg3 hp qL aA x hx es l 0 h hl;cases es with
 |nil =>
  cases l with
  |nil=>simp[Instr.findKey,run_underlying hp,Instr.findNow,JL,Result.andThen]
  |cons p r=>simp at h
 |cons e es =>
  cases l with
  |nil=>simp at h
  |cons p r =>
   have h1:e.key=PK p.1:=by simp only[CA,DF,DE]at h;exact h.1.1
   unfold Instr.findKey;simp only[Sem.run_bind,run_underlying hp,Result.andThen];have hn:Instr.findNow (.pointer te) (PK x) (e::es) 0=none:=by
    unfold Instr.findNow;rw[h1];rfl
   rw[hn];exact hf
theorem zkl(hp:P.underlying K=some (.pointer te))(em:Bool)(x:Nat)(n:Nat):(Instr.checkKey em (n+1) K (PK x)).run P w=.ok () w:=by
 unfold Instr.checkKey PK;simp[Sem.run_bind,run_underlying hp,Result.andThen]
end
theorem Laid.set {w:World} {b x:Nat} {es gn:Array MapEntry} {c c':Nat}(hb:w.heap[b]?=some (.map es c))(h:Laid w x):Laid (setBlock w b (.map gn c')) x:=by
 obtain⟨cs,t,hx⟩:=h;refine⟨cs,t,?_⟩;rw[heap_setBlock_other hb _ (λe=>by rw[e,hb]at hx;cases hx)];exact hx
theorem Nr {P:Program} {K te:TypeId} {j:TypeInfo}(hp:P.underlying K=some (.pointer te))(qL:P.info? te=some j)(aA:j.size≠0):Hu P K PK Laid where
 find w x es l hx hl h:=ziG hp qL aA x hx es l h hl
 check w em x:=zkl hp em x 9999
 stays w x:=by
  have:Instr.sameBits 10000 (PK x) (PK x)=true:=by
   rw[show(10000:Nat)=9999+1 from rfl];unfold Instr.sameBits PK;simp
  simp[Instr.keyThatStays,this]
 set w b es gn c c' x hb h:=h.set hb
def SK(x:List UInt8):Value:=.string ⟨x.toArray⟩
def IK(n:Nat):Value:=.int .i64 (n:Nat)
theorem Vm {κ:Type} [DecidableEq κ](d:TypeDesc)(kv:κ->Value)(hs:∀x y,Instr.sameNow d (kv x) (kv y)=some (decide (y=x)))(x:κ):∀(es:List MapEntry)(l:List (κ × Nat))(i:Nat),es.map (λe=>(e.key,e.val))=l.map (λp=>(kv p.1,PK p.2)) ->
  Instr.findNow d (kv x) es i=some ((JL x l i).map λq=>(q.1,PK q.2))
 |[],[],i,_=>rfl
 |[],p::r,i,h=>by simp at h
 |e::es,[],i,h=>by simp at h
 |e::es,p::r,i,h=>by
  simp only[CA,DF,DE]at h;obtain⟨⟨h1,h2⟩,h3⟩:=h;unfold Instr.findNow;rw[h1,hs];by_cases M8:p.1=x
  ·rw[CD M8,JL,Ch M8,h2];rfl
  ·rw[CF M8,JL,Cg M8]
   exact Vm d kv hs x es r (i+1) h3
theorem strKeys {P:Program} {K:TypeId}(hk:P.underlying K=some .string):Hu P K SK (λ_ _=>True) where
 find w x es l _ _ h:=by
  have:=Vm .string SK (λx y=>by
   unfold Instr.sameNow SK;simp only[Dj];rw[DM];rw[MapKept.bytes_beq,decide_eq_true_eq,ByteArray.mk.injEq];exact⟨λh=>by have:=Cp Array.toList h;simpa using this.symm,λh=>by rw[h]⟩) x es l 0 h
  simp[Instr.findKey,run_underlying hk,Result.andThen,this]
 check w em x:=by
  rw[show(10000:Nat)=9999+1 from rfl];unfold Instr.checkKey SK;simp[Sem.run_bind,run_underlying hk,Result.andThen]
 stays w x:=by
  have:Instr.sameBits 10000 (SK x) (SK x)=true:=by
   rw[show(10000:Nat)=9999+1 from rfl];unfold Instr.sameBits SK;exact(MapKept.bytes_beq _ _).2 rfl
  simp[Instr.keyThatStays,this]
 set _ _ _ _ _ _ _ _ h:=h
theorem Ny {P:Program} {K:TypeId}(hk:P.underlying K=some (.int .i64)):Hu P K IK (λ_ _=>True) where
 find w x es l _ _ h:=by
  have:=Vm (.int .i64) IK (λx y=>by
   unfold Instr.sameNow IK;simp only[Ez,Dj];rw[DM];simp only[ED,decide_eq_true_eq];omega) x es l 0 h
  simp[Instr.findKey,run_underlying hk,Result.andThen,this]
 check w em x:=by
  rw[show(10000:Nat)=9999+1 from rfl];unfold Instr.checkKey IK;simp[Sem.run_bind,run_underlying hk,Result.andThen]
 stays w x:=by
  have:Instr.sameBits 10000 (IK x) (IK x)=true:=by
   rw[show(10000:Nat)=9999+1 from rfl];unfold Instr.sameBits IK;simp
  simp[Instr.keyThatStays,this]
 set _ _ _ _ _ _ _ _ h:=h
end
end Go.Proofs.YtfafilmklhnngaaGreatDoor
