import Derived.Test.YtfafilmklhnngaaGreatDoorBsAA
import Derived.Laws.EntriesVeiled
set_option maxHeartbeats 12800000
set_option maxRecDepth 100000
namespace Go.Proofs.YtfafilmklhnngaaGreatDoor
open Tryz
section
open Go.RowKit Lx Tx Go.Maps Go.WideMaps Go.Shelf
def NO(b:Nat):Value:=.func (.func 132) #[] #[.pointer (some ⟨b+3,0,none⟩),.pointer (some ⟨b+1,0,none⟩)]
theorem zlE(b:Nat)(w:World)(hb:w.heap.size=b+1)(h:ar w b 95 #[.slice none 0 0]):Calls prog 87 #[.pointer (some ⟨b,0,none⟩)] w λe w'=>e=.returned (NO b)/\F6 b 0 [] (λg=>b<=g/\g<=b+3) w'/\w'.heap.size=b+4/\Below w.heap.size w w':=by
 have iZ:∀(fn:Fn) (first cap:Array Value) (w:World),(Instr.makeFunc fn first cap).run prog w=.ok (.func fn first cap) w:=λ_ _ _ _=>rfl;have dU:∀w,(Instr.makeMap 93 none).run prog w=.ok (.map (some w.heap.size)) (w.alloc (.map #[] 0)):=λ_=>rfl;have H:=EP h;have HB:=EP hb;clear h hb;go_in
 go_wp2_with fail;go_ret
 obtain⟨h1,h2,h3,hs,a8⟩:=MU w (.cells #[.pointer (some ⟨b,0,none⟩)] 158) (.map #[] 0) (.cells #[.map (some (w.heap.size+1))] 93);have hb:=HB.o;refine⟨by rw[hb];rfl,⟨?_,?_,?_,BU _,by omega,λg hg=>by omega,none,0,?_,⟨rfl,.inl ⟨rfl,rfl⟩⟩,λa ha=>by cases ha⟩,by omega,a8⟩
 ·rw[show b+3=w.heap.size+1+1 by omega,show b+2=w.heap.size+1 by omega];exact h3
 ·rw[show b+1=w.heap.size by omega];exact h1
 ·rw[show b+2=w.heap.size+1 by omega];exact iT.laid mkSet h2
 ·exact H.o.below a8 (by omega)
def Io(b:Nat)(c:Nat)(s:List Name)(M:Nat->Prop)(w:World):Prop :=
 ∃M0,(∀g,M g↔M0 g\/g=b+4)/\F6 b c s M0 w/\¬M0 (b+4)/\ar w (b+4) 156 #[NO b]
theorem Io.inv(b:Nat):Inv (Io b) where
 mono c c' s M w:=λ⟨M0,h1,h2,h3⟩ hc=>⟨M0,h1,(F6.inv b).mono _ _ _ _ _ h2 hc,h3⟩
 lt c s M w:=λ⟨M0,h1,h2,h3,h4⟩ g hg=>by
  rcases(h1 g).1 hg with h|h
  ·exact h2.all g h
  ·rw[h];exact h4.lt
 al c s M w w':=λ⟨M0,h1,h2,h3,h4⟩ hs hk =>
  ⟨M0,h1,(F6.inv b).al _ _ _ _ _ h2 hs (λg hg=>hk g ((h1 g).2 (.inl hg))),h3,h4.same (hk _ ((h1 _).2 (.inr rfl)))⟩
theorem Io.next {b c:Nat} {s':List Name} {M M0 M':Nat->Prop} {w w1 w':World}(h1:∀g,M g↔M0 g\/g=b+4)(h3:¬M0 (b+4))(h4:ar w1 (b+4) 156 #[NO b])(hi:F6 b c s' M' w')(hM:∀g,M' g->M0 g\/w1.heap.size<=g)(hc:b_ M0 w1 w')(hb:Below w.heap.size w w1):∃M2,Io b c s' M2 w'/\(∀g,M2 g->M g\/w.heap.size<=g)/\b_ M w w':=by
 have hs:=hb.size;have hl:=h4.lt;refine⟨λg=>M' g\/g=b+4,⟨M',λg=>Iff.rfl,hi,λh=>?_,h4.iF hc h3⟩,λg hg=>?_,(b_.c_ hb).trans' hc (λg _ h=>(h1 g).2 (.inl h))⟩
 ·rcases hM _ h with h|h
  ·exact h3 h
  ·omega
 ·rcases hg with h|h
  ·rcases hM _ h with h|h
   ·exact .inl ((h1 g).2 (.inl h))
   ·exact .inr (by omega)
  ·exact .inl ((h1 g).2 (.inr h))
def Ga:Ty->List Name->List Name
 |.var x,s=>FJ x s
 |_,s=>s
theorem zfs(t:Ty)(s:List Name):((kd t:Int)==1)=true/\Ga t s=FJ (ER t).data.toList s\/((kd t:Int)==1)=false/\Ga t s=s:=by
 cases t with
 |var x=>exact .inl ⟨rfl,rfl⟩
 |mt n=>exact .inr ⟨rfl,rfl⟩
 |h_ c l=>exact .inr ⟨rfl,rfl⟩
 |fn a b=>exact .inr ⟨rfl,rfl⟩
 |all x t=>exact .inr ⟨rfl,rfl⟩
theorem zo7(b:Nat):No 88 #[.pointer (some ⟨b+4,0,none⟩)] (Io b) Ga:=by
 intro c s M t S v w hi hv hS aw hc;obtain⟨M0,hM,bK,ai,aq⟩:=hi;obtain⟨K,X,Z,A,m,cp,rfl,hK,hX,-,-,-⟩:=hv.parts;have hw:=zfs t s;rw[<-hK,<-hX]at hw;have bA:X.size<=24:=by have:=J4 aw;rw[<-hX]at this;exact this
 have ef:Hid (Below w.heap.size w (w.alloc (.cells #[.int .i64 K,.string X,.int .i64 Z,.slice A m cp] 37))):=EP ((Cc _ w).alloc (BU _) _);obtain⟨y0,-,l0⟩:=GG aq;have H1:=EP ((F6.inv b).al _ _ _ _ (w.alloc (.cells #[.int .i64 K,.string X,.int .i64 Z,.slice A m cp] 37)) bK (by simp) (λg hg=>BX _ _ _ (bK.all g hg)));have ek:∀args w,(callFunc 132 args).run prog w=.ok (.enter 132 args) w:=enters_of func132 (by kernel_rfl) rfl;have HM:=EP hM;have eH:=EP ai;have iu:=EP (aq.below ef.o l0);obtain⟨s',gJ⟩:∃s',Ga t s=s':=⟨_,rfl⟩;rw[gJ]at hw ⊢;clear hK hX hv aw bK hM ai aq gJ hS;unfold NO at y0;rcases hw with⟨d1,hr⟩|⟨d1,rfl⟩
 ·have HR:=EP hr
  clear hr;go_in;go_wp2_with fail;refine(zqR b c s M0 X _ H1.o bA hc).mono ?_;rintro e w' ⟨rfl,M',i',kW,c'⟩;have HF:=EP (Io.next HM.o eH.o iu.o i' kW c' ef.o);clear i' kW c';go_wp2_with fail;first|go_end0|refine Ce (CQ rfl _ _ _) rfl ?_
  rw[HR.o];exact⟨rfl,HF.o⟩
 ·go_in
  go_wp2_with fail;first|go_end0|refine Ce (CQ rfl _ _ _) rfl ?_
  exact⟨rfl,Io.next HM.o eH.o iu.o ((F6.inv b).mono _ _ _ _ _ H1.o (by omega)) (λg hg=>.inl hg) (b_.refl M0 _) ef.o⟩
theorem Vq {w:World} {B B':Nat} {e:TypeId} {size n:Nat} {v:Value} {xs:List Value}(h:w.ownsRow B e size v n xs)(hb:B'<=B):w.ownsRow B' e size v n xs:=by
 obtain⟨h0,h⟩:=h;refine⟨h0,?_⟩;rcases h with h|⟨g,cap,cur,hv,hg,h⟩
 ·exact .inl h
 ·exact .inr ⟨g,cap,cur,hv,by omega,h⟩
def Fu(t:Ty):List Name:=Hp (Ff Ga) (λ_ _ s=>s) [] t []
theorem Vp(t:Ty)(S:Nat->Prop)(v:Value)(w:World)(hv:nc S w t v)(hS:∀g,S g->g<w.heap.size)(aw:Nm t)(aA:t.size<=1000000000000):Calls prog 42 #[v] w λe w'=>∃A cp,e=.returned (.slice A (Fu t).length cp)/\w'.ownsRow w.heap.size 9 1 (.slice A (Fu t).length cp) (Fu t).length (FQ (Fu t))/\(Fu t).length<=2*t.size/\Below w.heap.size w w':=by
 obtain⟨K,X,Z,A,m,cp,rfl,-,-,-,-,-⟩:=hv.parts;have iZ:∀(fn:Fn) (first cap:Array Value) (w:World),(Instr.makeFunc fn first cap).run prog w=.ok (.func fn first cap) w:=λ_ _ _ _=>rfl;have HV:=EP hv;have HS:=EP hS;have bQ:=EP aw;clear hv hS aw;go_in
 go_wp2_with fail;obtain⟨h1,h2,aZ,a8⟩:=IC w (.cells #[.int .i64 K,.string X,.int .i64 Z,.slice A m cp] 37) (.cells #[.slice none 0 0] 95);refine(zlE (w.heap.size+1) _ aZ h2).mono ?_;rintro e w1 ⟨rfl,ho,aH,b1⟩;have cR:=a8.trans (b1.mono (by omega));have mz:ar w1 w.heap.size 37 #[.int .i64 K,.string X,.int .i64 Z,.slice A m cp]:=ar.below h1 b1 (by omega);obtain⟨p0,p1,p2,p3,s0,s1,s2,s3,dp⟩:=n_ mz;have HO:=EP ho;have fP:=EP aH;have iq:=EP cR;clear h1 h2 aZ a8 ho aH b1 cR mz;unfold NO;go_wp2_with fail;have aH:=fP.o;have ez:Below w.heap.size w (w1.alloc (.cells #[NO (w.heap.size+1)] 156)):=iq.o.alloc (by have:=iq.o.size;omega) _;have dW:ar (w1.alloc (.cells #[NO (w.heap.size+1)] 156)) (w.heap.size+1+4) 156 #[NO (w.heap.size+1)]:=by rw[<-aH];exact BZ w1 _
 have hle:=zhX 88 #[.pointer (some ⟨w.heap.size+1+4,0,none⟩)] (Io (w.heap.size+1)) Ga (Io.inv _) (enters_of func88 (by kernel_rfl) rfl) (zo7 _)
  0 [] (λg=>(w.heap.size+1<=g/\g<=w.heap.size+1+3)\/g=w.heap.size+1+4) t S _ _
  ⟨_,λg=>Iff.rfl,(F6.inv _).al _ _ _ _ _ HO.o (by simp) (λg hg=>BX _ _ _ (by omega)),by omega,dW⟩
  (HV.o.al (λ_ h=>h) (λg hg=>ez.block g (HS.o g hg))) (λg hg=>⟨by have:=HS.o g hg;have:=ez.size;omega,by have:=HS.o g hg;omega⟩) bQ.o aA (by omega)
 rw[<-aH]at hle;refine hle.mono ?_;rintro e w3 ⟨rfl,M',⟨M0,-,kJ,-,-⟩,kW,c3⟩;obtain⟨A3,s9,pq,an,-⟩:=kJ.row;obtain⟨q0,q1,q2⟩:=GG pq;have hlen:=kJ.len;have HB:=EP (ez.trans (c3.toBelow (B:=w.heap.size) (by have:=ez.size;omega) (λk hk h=>by omega)));have az:=EP (Vq an (show w.heap.size<=w.heap.size+1+4 by omega));have gU:=EP (show(Fu t).length<=2*t.size by unfold Fu;omega);clear hle ez dW aH kJ pq kW c3 an hlen HO;replace q0:w3.cell? ⟨w.heap.size+1,0,none⟩=some (.slice A3 (Fu t).length s9):=q0;go_wp2_with fail;go_ret
 exact⟨A3,s9,rfl,az.o,gU.o,HB.o⟩
theorem zqS(t:Ty)(S:Nat->Prop)(v:Value)(w:World)(hv:nc S w t v)(hS:∀g,S g->g<w.heap.size)(aw:Nm t)(aA:t.size<=1000000):Calls prog 42 #[v] w λe w'=>∃A cp,e=.returned (.slice A (Fu t).length cp)/\w'.ownsRow w.heap.size 9 1 (.slice A (Fu t).length cp) (Fu t).length (FQ (Fu t))/\(Fu t).length<=2000000/\Below w.heap.size w w':=by
 refine(Vp t S v w hv hS aw (by omega)).mono ?_;rintro e w' ⟨A,cp,h1,h2,h3,h4⟩;exact⟨A,cp,h1,h2,by omega,h4⟩
end
section
open Go.RowKit Lx Tx Go.Maps Go.WideMaps Go.Shelf
set_option maxRecDepth 100000
theorem zo8:(prog.info? 3).map (λi=>(i.zero,i.size,i.bytes))=some (some (.int .i64 0),1,8):=by kernel_rfl
theorem Is:Keyed prog 3:=int_keyed underlying3
theorem Kd(n:Nat)(h:n<=999999):keyOf prog 3 (.int .i64 n)=some (.int .i64 n):=keyOf_int_mk underlying3 (by simp[Lit.wf,IntKind.min,IntKind.max,IntKind.signed,IntKind.bits];omega)
theorem P7(x:Int):WideAt.IsKeyLit (.int .i64 x):=trivial
def Jq:List Nat->DataW Unit
 |[]=>.map []
 |n::r=>(Jq r).put (.int .i64 n) .nil
theorem SR:∀r,Tidy (Jq r)
 |[]=>tidy_empty
 |_::r=>(SR r).put (P7 _) _
theorem zhY:∀r,Maps.size (Jq r)<=r.length
 |[]=>by simp[Jq,Maps.size]
 |_::r=>by
  have:=zhY r;rw[Jq,size_put (SR r),Ca];split <;> omega
theorem zjd(x:Nat):∀r,Maps.has (Jq r) (.int .i64 x)=decide (x∈r)
 |[]=>rfl
 |p::r=>by
  rw[Jq];by_cases h:p=x
  ·rw[<-h,has_put_same (SR r).isMap (P7 _)];simp
  ·rw[has_put_other (λe=>h (by injection e with _ e;omega)),zjd x r]
   simp[show x≠p from λe=>h e.symm]
theorem zkD(x:Nat):∀r,(Jq r).atKey (.int .i64 x) .nil=.nil
 |[]=>rfl
 |p::r=>by
  rw[Jq];by_cases h:p=x
  ·rw[<-h,atKey_put_same (SR r).isMap (P7 _)]
  ·rw[atKey_put_other (λe=>h (by injection e with _ e;omega)),zkD x r]
def Ii(w:World)(b:Nat)(r:List Nat):Prop:=∃n,n<=r.length/\w.ownsMap prog 3 unitElem b n (Jq r)
theorem zrt {w:World} {b n:Nat} {D:DataW Unit}(h:w.ownsMap prog 3 unitElem b n D):w.ownsMap prog 3 unitElem b (Maps.size D) D:=by
 obtain⟨es,clock,hb,F,_,rfl⟩:=h;exact⟨es,clock,hb,F,by simp[Maps.size,length_sorted],rfl⟩
theorem Ii.lt {w:World} {b:Nat} {r:List Nat}(h:Ii w b r):b<w.heap.size:=by obtain⟨_,_,h⟩:=h;exact h.lt
theorem Ii.al {w w':World} {b:Nat} {r:List Nat}(h:Ii w b r)(hk:w'.heap[b]?=w.heap[b]?):Ii w' b r:=by
 obtain⟨n,hn,es,clock,hb,F,hs,hD⟩:=h;exact⟨n,hn,es,clock,hk.trans hb,F,hs,hD⟩
theorem Ii.laid {w:World} {b:Nat}(h:w.heap[b]?=some (.map #[] 0)):Ii w b []:=⟨0,BU _,JB h⟩
theorem Ii.He {w:World} {b:Nat} {r:List Nat}(h:Ii w b r)(x:Nat)(hx:x<=999999):(Instr.lookup 187 (.map (some b)) (.int .i64 x) true).run prog w=.ok (.tuple #[.agg #[],.bool (decide (x∈r))]) w:=by
 obtain⟨n,_,h⟩:=h;obtain⟨v,ps,aC,hv⟩:=h.look_ok Is underlying187 (z:=.agg #[]) (by kernel_rfl) (zd:=.nil) (zp:=[]) rfl (Kd x hx);rw[aC,zjd];rw[zkD]at hv;rw[unitElem_inv hv]
theorem zke(w:World) {ops:Array Oper} {rest:List Oper} {o:Oper} {a:Act} {Q:Exit->Act->World->Prop}
  (hg:o.guard=none)(mo x vo:Operand)(lK:o.op=Op.mapUpdate 187 mo x vo)(b:Nat)(r:List Nat)(hm:a.eval mo=.map (some b))(h:Ii w b r)(hn:r.length<100000000000000)(X:Nat)(hX:X<=999999)
  (hx:a.eval x=.int .i64 X)(hv:a.eval vo=.agg #[])(hK:∀w',Ii w' b (X::r)->w.grownBy w' (some b)->wpList prog ops Q rest (a.put o.dst undef) w'):wpList prog ops Q (o::rest) a w:=by
 obtain⟨n,fh,h⟩:=h;exact wpList_mapUpdate_own w hg mo x vo 187 lK 3 153 Is underlying187 unitElem b n _ hm h (by unfold maxLen;omega) _ _ _ hx hv (Kd X hX) .nil [] rfl (λw' h1 h2=>hK w' ⟨_,zhY (X::r),zrt (D:=Jq (X::r)) h1⟩ h2)
structure F5 (b:Nat) (c:Nat) (s:List Nat) (M:Nat->Prop) (w:World):Prop where
 met:ar w (b+3) 187 #[.map (some (b+2))]
 ptr:ar w (b+1) 123 #[.pointer (some ⟨b,0,none⟩)]
 set:Ii w (b+2) s.reverse
 len:s.length<=c
 low:M b/\M (b+1)/\M (b+2)/\M (b+3)
 all:∀g,M g->g<w.heap.size
 row:∃A cp,ar w b 61 #[.slice A s.length cp]/\w.ownsRow (b+4) 3 1 (.slice A s.length cp) s.length (Jo s)/\∀a,A=some a->M a.block
theorem F5.inv(b:Nat):Inv (F5 b) where
 mono c c' s M w h hc:={ h with len:=Cm h.len hc }
 lt c s M w h:=h.all
 al c s M w w' h hs hk :=
  {met:=h.met.same (hk _ h.low.2.2.2)
   ptr:=h.ptr.same (hk _ h.low.2.1)
   set:=h.set.al (hk _ h.low.2.2.1)
   len:=h.len
   low:=h.low
   all:=λg hg=>Ci (h.all g hg) hs
   row:=by
    obtain⟨A,cp,h1,h2,h3⟩:=h.row;exact⟨A,cp,h1.same (hk _ h.low.1),PL h2 (λa ha=>hk _ (h3 a ha)),h3⟩ }
theorem zmY {b c:Nat} {s:List Nat} {M:Nat->Prop} {n:Nat} {A:Option Addr} {cp:Nat} {w w1 W w5:World} {g3 c3:Nat}(cY:ar w (b+3) 187 #[.map (some (b+2))])(aK:∀g,M g->g<w.heap.size)(bO:M b/\M (b+1)/\M (b+2)/\M (b+3))(hlen:s.length<=c)(hA:∀a,A=some a->M a.block)
  (aj:w.ownsRow (b+4) 3 1 (.slice A s.length cp) s.length (Jo s))(aH:w.heap.size+1<=w1.heap.size)(aU:∀k,k<w.heap.size->k≠b+2->w1.heap[k]?=w.heap[k]?)(aT:Ii w1 (b+2) (n::s.reverse))
  (hW:∀k,k<w1.heap.size->W.heap[k]?=w1.heap[k]?)(hWs:W.heap.size=w1.heap.size+1)(XD:b_ M w W)(yJ:w5.ownsRow (b+4) 3 1 (.slice (some ⟨g3,0,none⟩) (s.length+1) c3) (s.length+1) (Jo s++[.int .i64 n]))
  (fL:W.grownBy w5 (Value.slice A s.length cp).ownBlock)(bz:(Value.slice A s.length cp).ownBlock=some g3\/g3=W.heap.size)(aQ:ar w5 b 61 #[.slice A s.length cp])(bM:ar w5 (b+1) 123 #[.pointer (some ⟨b,0,none⟩)])(af:g3<w5.heap.size):∃M',F5 b (c+1) (s++[n]) M' (w5.setCell ⟨b,0,none⟩ (.slice (some ⟨g3,0,none⟩) (s.length+1) c3))/\(∀g,M' g->M g\/w.heap.size<=g)/\b_ M w (w5.setCell ⟨b,0,none⟩ (.slice (some ⟨g3,0,none⟩) (s.length+1) c3)):=by
 have aE:∀k,some k=(Value.slice A s.length cp).ownBlock->b+4<=k/\M k:=λk hk=>by
  refine⟨(aj.lt k hk.symm).1,?_⟩;cases A with
  |none=>cases hk
  |some a=>injection hk with hk;rw[hk];exact hA a rfl
 have Zm:b+4<=g3:=(yJ.lt g3 rfl).1;have h3:=aK _ bO.2.2.2;have hf:∀k,k<b+4->k≠b->(w5.setCell ⟨b,0,none⟩ (.slice (some ⟨g3,0,none⟩) (s.length+1) c3)).heap[k]?=w1.heap[k]?:=λk hk ai =>
  (B8 w5 ⟨b,0,none⟩ _ k ai).trans ((fL.block k (by omega) (λe=>by have:=(aE k e).1;omega)).trans (hW k (by omega)))
 have aA:(w5.setCell ⟨b,0,none⟩ (.slice (some ⟨g3,0,none⟩) (s.length+1) c3)).heap.size=w5.heap.size:=by simp
 have eI:=fL.size;refine⟨λg=>M g\/g=g3,⟨cY.same ((hf _ (by omega) (by omega)).trans (aU _ (by omega) (by omega))),bM.I8 (by show b+1≠b;omega) _,?_,by simp;omega,⟨.inl bO.1,.inl bO.2.1,.inl bO.2.2.1,.inl bO.2.2.2⟩,λg hg=>?_,some ⟨g3,0,none⟩,c3,?_,?_,λa ha=>by injection ha with ha;rw[<-ha];exact .inr rfl⟩,λg hg=>?_,?_⟩
 ·rw[Ec,List.reverse_singleton,List.singleton_append]
  exact aT.al (hf _ (by omega) (by omega))
 ·rw[aA]
  rcases hg with hg|rfl
  ·have:=aK g hg;omega
  ·exact af
 ·have:=one_setCell (u:=.slice (some ⟨g3,0,none⟩) (s.length+1) c3) aQ
  rw[Cb];exact this
 ·rw[Cb,show Jo (s++[n])=Jo s++[.int .i64 n] by simp[Jo]]
  exact PL yJ (λa ha=>by injection ha with ha;rw[<-ha];exact B8 w5 ⟨b,0,none⟩ _ g3 (by show g3≠b;omega))
 ·rcases hg with hg|rfl
  ·exact .inl hg
  ·rcases bz with h|h
   ·exact .inl (aE _ h.symm).2
   ·exact .inr (by omega)
 ·exact(XD.grown fL (λk hk=>.inr (aE k hk.symm).2)).setCell (p:=⟨b,0,none⟩) (.inr bO.1) _
theorem zo9(b c:Nat)(s:List Nat)(M:Nat->Prop)(n:Nat)(w:World)(h:F5 b c s M w)(hX:n<=999999)(hc:c<8000000000000):Calls prog 107 #[.int .i64 n,.pointer (some ⟨b+3,0,none⟩),.pointer (some ⟨b+1,0,none⟩)] w λe w'=>e=.returned (.tuple #[])/\∃M',F5 b (c+1) (FJ n s) M' w'/\(∀g,M' g->M g\/w.heap.size<=g)/\b_ M w w':=by
 obtain⟨cY,fT,cU,hlen,bO,aK,A,cp,aq,aj,hA⟩:=h;obtain⟨m0,-,lm⟩:=GG cY;obtain⟨p0,-,lp⟩:=GG fT;have bJ:=cU.He n hX;simp only[DT]at bJ;by_cases Fw:n∈s
 ·rw[CD Fw]at bJ
  replace bJ:(Instr.lookup 187 (.map (some (b+2))) (.int .i64 n) true).run prog w=.ok (.tuple #[.agg #[],.bool true]) w:=bJ;have aN:FJ n s=s:=Ch Fw;rw[aN];have lv:Hid (F5 b (c+1) s M (w.alloc (.cells #[] 153))):=EP ((F5.inv b).mono _ _ _ _ _ ((F5.inv b).al _ _ _ _ _ ⟨cY,fT,cU,hlen,bO,aK,A,cp,aq,aj,hA⟩ (by simp) (λg hg=>BX _ _ _ (aK g hg))) (by omega));clear cY fT cU hlen bO aK aq aj hA Fw aN;go_in;go_wp2_with fail;first|go_end0|refine Ce (CQ rfl _ _ _) rfl ?_
  exact⟨rfl,M,lv.o,λg hg=>.inl hg,(b_.refl M w).alloc _⟩
 ·rw[CF Fw]at bJ
  replace bJ:(Instr.lookup 187 (.map (some (b+2))) (.int .i64 n) true).run prog w=.ok (.tuple #[.agg #[],.bool false]) w:=bJ;have aN:FJ n s=s++[n]:=Cg Fw;rw[aN];obtain⟨i0,bK,cj,bS,bC⟩:=Dx zo8;have vy:=EP (cU.al (w':=w.alloc (.cells #[] 153)) (BX _ _ _ cU.lt));have mQ:Hid (∀k,k<w.heap.size->(w.alloc (.cells #[] 153)).heap[k]?=w.heap[k]?):=EP λk hk=>BX _ _ _ hk;have HX:=EP hX;have gU:Hid (s.reverse.length<100000000000000):=EP (by simp;omega);obtain⟨z0,z1,z2⟩:=GG aq;have nB:=EP cY;have vC:=EP fT;have iu:=EP aq;have az:=EP aj;have pV:=EP bO;have gy:=EP aK;have HA:=EP hA;clear cU Fw aN cY fT aq aj bO aK hA z0 z1;go_in
  go_wp2_with (at_mapUpdate;refine zke _ rfl _ _ _ rfl (b+2) s.reverse rfl vy.o gU.o n HX.o rfl rfl ?_;intro w1 aT aS;have aH:w.heap.size+1<=w1.heap.size:=(by have:=aS.size;simp at this;exact this);have aU:∀k,k<w.heap.size->k≠b+2->w1.heap[k]?=w.heap[k]?:=(λk hk ai=>(aS.block k (by simp;omega) (λe=>ai (by injection e))).trans (mQ.o k hk));have dP:=EP aT;have me:=EP aU;have av:=iu.o.same (aU b z2 (by omega));have jr:=vC.o.same (aU (b+1) lp (by omega));have cP:=EP (PL (w':=w1) az.o (λa ha=>aU a.block (gy.o _ (HA.o a ha)) (by have:=(az.o.lt a.block (by rw[ha];rfl)).1;omega)));obtain⟨q0,q1,q2⟩:=GG av;obtain⟨r0,r1,r2⟩:=GG jr;have bc:=EP av;have xq:=EP jr;have ji:Hid (b_ M w (w1.alloc (.cells #[.int .i64 n] 3)).drew):=EP (((((b_.refl M w).alloc (.cells #[] 153)).grown aS (λk hk=>.inr (by injection hk with hk;rw[<-hk];exact pV.o.2.2.1))).alloc _).drew);have bB:Hid ((w1.drew.alloc (.cells #[.int .i64 n] 3)).ownsRow (b+4) 3 1 (.slice A s.length cp) s.length (Jo s)):=EP (cP.o.alloc (.cells #[.int .i64 n] 3));have dJ:Hid (∀j u,[Value.int .i64 n][j]?=some u->(w1.drew.alloc (.cells #[.int .i64 n] 3)).cell? ((⟨w1.heap.size,0,none⟩:Addr).add j)=some u):=EP (Iz _ _ _ _ rfl);clear aT aS aU av jr);go_region_law (refine step_append_lies _ (by rfl) _ _ _ (by rfl) (b+4) 3 i0 _ 1 8 underlying61 bK cj bS bC rfl (by decide) _ s.length (Jo s) (by rfl) bB.o ⟨w1.heap.size,0,none⟩ 1 1 [.int .i64 n] rfl rfl dJ.o (by intro u hu;simp at hu;subst hu;rfl) (by omega) (by unfold maxLen;omega) (by omega) (by simp;omega) _ rfl ?_;intro g3 c3 w5 an ae bz af;have aQ:ar w5 b 61 #[.slice A s.length cp]:=(ar.alloc (w:=w1.drew) bc.o _).grown ae (λe=>by have:=(az.o.lt b e.symm).1;omega);have bM:ar w5 (b+1) 123 #[.pointer (some ⟨b,0,none⟩)]:=(ar.alloc (w:=w1.drew) xq.o _).grown ae (λe=>by have:=(az.o.lt (b+1) e.symm).1;omega);obtain⟨d0,d1,d2⟩:=GG aQ;obtain⟨e0,e1,e2⟩:=GG bM;have dZ:=EP an;have bk:=EP ae;have gG:=EP bz;have lC:=EP aQ;have qx:=EP bM;clear an ae bz aQ bM)
  all_goals
   go_wp2_with fail;first|go_end0|refine Ce (CQ rfl _ _ _) rfl ?_
   exact⟨rfl,zmY (W:=(w1.alloc (.cells #[.int .i64 n] 3)).drew) nB.o gy.o pV.o hlen HA.o az.o aH me.o dP.o (λk hk=>BX w1 _ k hk) (size_alloc w1 _) (ji.o) dZ.o bk.o gG.o lC.o qx.o af⟩
def NN(b:Nat):Value:=.func (.func 107) #[] #[.pointer (some ⟨b+3,0,none⟩),.pointer (some ⟨b+1,0,none⟩)]
theorem zkf(b:Nat)(w:World)(hb:w.heap.size=b+1)(h:ar w b 61 #[.slice none 0 0]):Calls prog 62 #[.pointer (some ⟨b,0,none⟩)] w λe w'=>e=.returned (NN b)/\F5 b 0 [] (λg=>b<=g/\g<=b+3) w'/\w'.heap.size=b+4/\Below w.heap.size w w':=by
 have iZ:∀(fn:Fn) (first cap:Array Value) (w:World),(Instr.makeFunc fn first cap).run prog w=.ok (.func fn first cap) w:=λ_ _ _ _=>rfl;have dU:∀w,(Instr.makeMap 187 none).run prog w=.ok (.map (some w.heap.size)) (w.alloc (.map #[] 0)):=λ_=>rfl;have H:=EP h;have HB:=EP hb;clear h hb;go_in
 go_wp2_with fail;go_ret
 obtain⟨h1,h2,h3,hs,a8⟩:=MU w (.cells #[.pointer (some ⟨b,0,none⟩)] 123) (.map #[] 0) (.cells #[.map (some (w.heap.size+1))] 187);have hb:=HB.o;refine⟨by rw[hb];rfl,⟨?_,?_,?_,BU _,by omega,λg hg=>by omega,none,0,?_,⟨rfl,.inl ⟨rfl,rfl⟩⟩,λa ha=>by cases ha⟩,by omega,a8⟩
 ·rw[show b+3=w.heap.size+1+1 by omega,show b+2=w.heap.size+1 by omega];exact h3
 ·rw[show b+1=w.heap.size by omega];exact h1
 ·rw[show b+2=w.heap.size+1 by omega];exact Ii.laid h2
 ·exact H.o.below a8 (by omega)
def Im(b:Nat)(c:Nat)(s:List Nat)(M:Nat->Prop)(w:World):Prop :=
 ∃M0,(∀g,M g↔M0 g\/g=b+4)/\F5 b c s M0 w/\¬M0 (b+4)/\ar w (b+4) 121 #[NN b]
theorem Im.inv(b:Nat):Inv (Im b) where
 mono c c' s M w:=λ⟨M0,h1,h2,h3⟩ hc=>⟨M0,h1,(F5.inv b).mono _ _ _ _ _ h2 hc,h3⟩
 lt c s M w:=λ⟨M0,h1,h2,h3,h4⟩ g hg=>by
  rcases(h1 g).1 hg with h|h
  ·exact h2.all g h
  ·rw[h];exact h4.lt
 al c s M w w':=λ⟨M0,h1,h2,h3,h4⟩ hs hk =>
  ⟨M0,h1,(F5.inv b).al _ _ _ _ _ h2 hs (λg hg=>hk g ((h1 g).2 (.inl hg))),h3,h4.same (hk _ ((h1 _).2 (.inr rfl)))⟩
theorem Im.next {b c:Nat} {s':List Nat} {M M0 M':Nat->Prop} {w w1 w':World}(h1:∀g,M g↔M0 g\/g=b+4)(h3:¬M0 (b+4))(h4:ar w1 (b+4) 121 #[NN b])(hi:F5 b c s' M' w')(hM:∀g,M' g->M0 g\/w1.heap.size<=g)(hc:b_ M0 w1 w')(hb:Below w.heap.size w w1):∃M2,Im b c s' M2 w'/\(∀g,M2 g->M g\/w.heap.size<=g)/\b_ M w w':=by
 have hs:=hb.size;have hl:=h4.lt;refine⟨λg=>M' g\/g=b+4,⟨M',λg=>Iff.rfl,hi,λh=>?_,h4.iF hc h3⟩,λg hg=>?_,(b_.c_ hb).trans' hc (λg _ h=>(h1 g).2 (.inl h))⟩
 ·rcases hM _ h with h|h
  ·exact h3 h
  ·omega
 ·rcases hg with h|h
  ·rcases hM _ h with h|h
   ·exact .inl ((h1 g).2 (.inl h))
   ·exact .inr (by omega)
  ·exact .inl ((h1 g).2 (.inr h))
end
section
open Go.RowKit Lx Tx Go.Maps Go.WideMaps Go.Shelf
def Hi:Ty->List Nat->List Nat
 |.mt n,s=>FJ n s
 |_,s=>s
theorem zkg(t:Ty)(s:List Nat):((kd t:Int)==2)=true/\Hi t s=FJ (nn t) s\/((kd t:Int)==2)=false/\Hi t s=s:=by
 cases t with
 |var x=>exact .inr ⟨rfl,rfl⟩
 |mt n=>exact .inl ⟨rfl,rfl⟩
 |h_ c l=>exact .inr ⟨rfl,rfl⟩
 |fn a b=>exact .inr ⟨rfl,rfl⟩
 |all x t=>exact .inr ⟨rfl,rfl⟩
theorem zmZ(b:Nat):No 64 #[.pointer (some ⟨b+4,0,none⟩)] (Im b) Hi:=by
 intro c s M t S v w hi hv hS aw hc;obtain⟨M0,hM,bK,ai,aq⟩:=hi;obtain⟨K,X,Z,A,m,cp,rfl,hK,-,hZ,-,-⟩:=hv.parts;have hw:=zkg t s;rw[<-hK]at hw;have hN:nn t<=999999:=by cases aw <;> first|exact Cw _|assumption
 obtain⟨n,hn⟩:∃n,nn t=n:=⟨_,rfl⟩;rw[hn]at hw hZ hN;subst hZ;have ef:Hid (Below w.heap.size w (w.alloc (.cells #[.int .i64 K,.string X,.int .i64 (n:Nat),.slice A m cp] 37))):=EP ((Cc _ w).alloc (BU _) _);obtain⟨y0,-,l0⟩:=GG aq;have H1:=EP ((F5.inv b).al _ _ _ _ (w.alloc (.cells #[.int .i64 K,.string X,.int .i64 (n:Nat),.slice A m cp] 37)) bK (by simp) (λg hg=>BX _ _ _ (bK.all g hg)));have ek:∀args w,(callFunc 107 args).run prog w=.ok (.enter 107 args) w:=enters_of func107 (by kernel_rfl) rfl;have HM:=EP hM;have eH:=EP ai;have iu:=EP (aq.below ef.o l0);obtain⟨s',gJ⟩:∃s',Hi t s=s':=⟨_,rfl⟩;rw[gJ]at hw ⊢;clear hK hn hv aw bK hM ai aq gJ hS;unfold NN at y0;rcases hw with⟨d1,hr⟩|⟨d1,rfl⟩
 ·have HR:=EP hr
  clear hr;go_in;go_wp2_with fail;refine(zo9 b c s M0 n _ H1.o hN hc).mono ?_;rintro e w' ⟨rfl,M',i',kW,c'⟩;have HF:=EP (Im.next HM.o eH.o iu.o i' kW c' ef.o);clear i' kW c';go_wp2_with fail;first|go_end0|refine Ce (CQ rfl _ _ _) rfl ?_
  rw[HR.o];exact⟨rfl,HF.o⟩
 ·go_in
  go_wp2_with fail;first|go_end0|refine Ce (CQ rfl _ _ _) rfl ?_
  exact⟨rfl,Im.next HM.o eH.o iu.o ((F5.inv b).mono _ _ _ _ _ H1.o (by omega)) (λg hg=>.inl hg) (b_.refl M0 _) ef.o⟩
def Ig(t:Ty):List Nat:=Hp (Ff Hi) (λ_ _ s=>s) [] t []
theorem zpa(t:Ty)(S:Nat->Prop)(v:Value)(w:World)(hv:nc S w t v)(hS:∀g,S g->g<w.heap.size)(aw:Nm t)(aA:t.size<=1000000):Calls prog 25 #[v] w λe w'=>∃A cp,e=.returned (.slice A (Ig t).length cp)/\w'.ownsRow w.heap.size 3 1 (.slice A (Ig t).length cp) (Ig t).length (Jo (Ig t))/\(Ig t).length<=2000000/\Below w.heap.size w w':=by
 obtain⟨K,X,Z,A,m,cp,rfl,-,-,-,-,-⟩:=hv.parts;have iZ:∀(fn:Fn) (first cap:Array Value) (w:World),(Instr.makeFunc fn first cap).run prog w=.ok (.func fn first cap) w:=λ_ _ _ _=>rfl;have HV:=EP hv;have HS:=EP hS;have bQ:=EP aw;clear hv hS aw;go_in
 go_wp2_with fail;obtain⟨h1,h2,aZ,a8⟩:=IC w (.cells #[.int .i64 K,.string X,.int .i64 Z,.slice A m cp] 37) (.cells #[.slice none 0 0] 61);refine(zkf (w.heap.size+1) _ aZ h2).mono ?_;rintro e w1 ⟨rfl,ho,aH,b1⟩;have cR:=a8.trans (b1.mono (by omega));have mz:ar w1 w.heap.size 37 #[.int .i64 K,.string X,.int .i64 Z,.slice A m cp]:=ar.below h1 b1 (by omega);obtain⟨p0,p1,p2,p3,s0,s1,s2,s3,dp⟩:=n_ mz;have HO:=EP ho;have fP:=EP aH;have iq:=EP cR;clear h1 h2 aZ a8 ho aH b1 cR mz;unfold NN;go_wp2_with fail;have aH:=fP.o;have ez:Below w.heap.size w (w1.alloc (.cells #[NN (w.heap.size+1)] 121)):=iq.o.alloc (by have:=iq.o.size;omega) _;have dW:ar (w1.alloc (.cells #[NN (w.heap.size+1)] 121)) (w.heap.size+1+4) 121 #[NN (w.heap.size+1)]:=by rw[<-aH];exact BZ w1 _
 have hle:=zhX 64 #[.pointer (some ⟨w.heap.size+1+4,0,none⟩)] (Im (w.heap.size+1)) Hi (Im.inv _) (enters_of func64 (by kernel_rfl) rfl) (zmZ _)
  0 [] (λg=>(w.heap.size+1<=g/\g<=w.heap.size+1+3)\/g=w.heap.size+1+4) t S _ _
  ⟨_,λg=>Iff.rfl,(F5.inv _).al _ _ _ _ _ HO.o (by simp) (λg hg=>BX _ _ _ (by omega)),by omega,dW⟩
  (HV.o.al (λ_ h=>h) (λg hg=>ez.block g (HS.o g hg))) (λg hg=>⟨by have:=HS.o g hg;have:=ez.size;omega,by have:=HS.o g hg;omega⟩) bQ.o (by omega) (by omega)
 rw[<-aH]at hle;refine hle.mono ?_;rintro e w3 ⟨rfl,M',⟨M0,-,kJ,-,-⟩,kW,c3⟩;obtain⟨A3,s9,pq,an,-⟩:=kJ.row;obtain⟨q0,q1,q2⟩:=GG pq;have hlen:=kJ.len;have HB:=EP (ez.trans (c3.toBelow (B:=w.heap.size) (by have:=ez.size;omega) (λk hk h=>by omega)));have az:=EP (Vq an (show w.heap.size<=w.heap.size+1+4 by omega));have gU:=EP (show(Ig t).length<=2000000 by unfold Ig;omega);clear hle ez dW aH kJ pq kW c3 an hlen HO;replace q0:w3.cell? ⟨w.heap.size+1,0,none⟩=some (.slice A3 (Ig t).length s9):=q0;go_wp2_with fail;go_ret
 exact⟨A3,s9,rfl,az.o,gU.o,HB.o⟩
end
section
open Go.RowKit Lx Tx Go.Maps Go.WideMaps Go.Shelf
set_option maxRecDepth 100000
theorem zpb(l:List Name)(i:Nat)(hi:i<l.length):(FQ l)[i]?=some (.string ⟨l[i].toArray⟩):=by simp[FQ,BY hi]
def zrQ(b:Nat)(dn l:List Name)(w0:World)(gg:Nat)(v:Value)(wr:World):Prop :=
 ∃i:Nat,v=.int .i64 i/\gg=l.length-i/\i<=l.length/\iT mkSet wr b (kj (dn++l.take i))/\b_ (only b) w0 wr
def zru(b:Nat)(L:List (List Name))(w0:World)(gg:Nat)(v:Value)(wr:World):Prop :=
 ∃j:Nat,v=.int .i64 j/\gg=L.length-j/\j<=L.length/\iT mkSet wr b (kj (L.take j).flatten)/\b_ (only b) w0 wr
def UR(w:World)(g:Nat)(L:List (List Name)):Prop :=
 ∀j (hj:j<L.length),∃A cp,w.cell? ⟨g,j,none⟩=some (.slice A L[j].length cp)/\IJ w (.slice A L[j].length cp) (FQ L[j])
theorem zhZ(L:List (List Name))(j:Nat)(hj:j<L.length):(L.take (j+1)).flatten=(L.take j).flatten++L[j]:=by
 rw[CV hj,EF];simp
theorem zjf(L:List (List Name))(j i:Nat)(hj:j<L.length):((L.take j).flatten++L[j].take i).length<=L.flatten.length:=by
 have h:L.flatten=(L.take j).flatten++(L[j]++(L.drop (j+1)).flatten):=by
  rw[<-DC,<-zhZ L j hj,<-EF,Ex]
 rw[h];simp only[Cb,DH];omega
theorem zqT(L:List (List Name))(g c:Nat)(w:World)(h:UR w g L)(hg:g<w.heap.size)(hl:∀x∈L.flatten,x.length<=maxLen)(hlen:L.flatten.length<=8000000000000)(hL:L.length<=1000):Calls prog 41 #[.slice (some ⟨g,0,none⟩) L.length c] w λe w'=>e=.returned (.map (some w.heap.size))/\iT mkSet w' w.heap.size (kj L.flatten)/\Below w.heap.size w w':=by
 have dU:∀w,(Instr.makeMap 93 none).run prog w=.ok (.map (some w.heap.size)) (w.alloc (.map #[] 0)):=λ_=>rfl;have H:=EP h;have HL:=EP hl;have HF:=EP hlen;obtain⟨n,hn⟩:∃n,L.length=n:=⟨_,rfl⟩;have HN:=EP hn;rw[hn]at hL ⊢
 clear h hl hn hlen;go_in;go_wp2_with fail;go_loopg [11] n (λgg vi wr=>zru w.heap.size L (w.alloc (.map #[] 0)) gg vi wr)
 case atStart =>
  exact⟨0,rfl,by rw[HN.o];omega,Cw _,by rw[CK];exact iT.made mkSet w,b_.refl _ _⟩
 case round =>
  obtain⟨j,rfl,lS,hj,hm,hc⟩:=hrel;have HM:=EP hm;have HC:=EP hc;rw[HN.o]at lS hj;clear hm hc;by_cases qj:j<n
  ·have kI:j<L.length:=by rw[HN.o];exact qj
   obtain⟨A,cp,ay,aE⟩:=H.o j kI;have qm:wr.heap[g]?=w.heap[g]?:=(HC.o.block g (by simp;omega) (by unfold only;omega)).trans (BX _ _ _ hg);have hx0:wr.cell? ⟨g,j,none⟩=some (.slice A L[j].length cp):=(Ck (w:=w) (a:=⟨g,j,none⟩) qm).trans ay;obtain⟨m,hm⟩:∃m,L[j].length=m:=⟨_,rfl⟩;have bI:m<=8000000000000:=by have:=zjf L j m kI;have:=HF.o;rw[Cb,DH,hm]at *;omega
   have jg:=EP hm;have HR:=EP aE;rw[hm]at hx0;have aak:=lS;clear ay qm aE hm;go_wp2_with fail;go_loopg [17] m (λgg vi wr'=>zrQ w.heap.size (L.take j).flatten L[j] (w.alloc (.map #[] 0)) gg vi wr')
   case atStart =>
    exact⟨0,rfl,by rw[jg.o];omega,Cw _,by rw[CK,CJ];exact HM.o,HC.o⟩
   case round =>
    obtain⟨i,rfl,hgi,hi,bL,cH⟩:=hrel;have fo:=EP bL;have sa:=EP cH;rw[jg.o]at hgi hi;clear bL cH;by_cases af:i<m
    ·have eY:i<L[j].length:=by rw[jg.o];exact af
     obtain⟨A',c',hv,hp⟩:=HR.o;obtain⟨g2,hA',gM,dN⟩:=hp (by rw[zoU];omega);injection hv with hv _ fg;rw[hA']at hv
     subst hv;have zn:=(sa.o.block g2 (by simp;omega) (by unfold only;omega)).trans (BX w (.map #[] 0) g2 gM);obtain⟨y,hy⟩:∃y,L[j][i]=y:=⟨_,rfl⟩;have hx:=dN i _ (zpb L[j] i eY);rw[<-Ck (w:=w) (a:=⟨g2,i,none⟩) zn]at hx;have bA:L[j][i].length<=maxLen:=HL.o _ (List.mem_flatten.2 ⟨_,CS kI,CS eY⟩);have eF:Hid (L[j].take (i+1)=L[j].take i++[y]):=EP (by rw[CV eY,hy]);rw[hy]at hx bA;clear hy;obtain⟨X,hX⟩:∃X:ByteArray,(⟨y.toArray⟩:ByteArray)=X:=⟨_,rfl⟩;have xe:Hid (X.data.toList=y):=EP (by rw[<-hX]);have HX:Hid (X.size<=maxLen):=EP (by rw[<-hX];show y.toArray.size<=maxLen;rw[CY];exact bA);have xh:Hid ((kj ((L.take j).flatten++L[j].take i)).length<100000000000000):=EP (by have:=zjf L j i kI;have:=HF.o;unfold kj;rw[CE,DO];omega);rw[hX]at hx;clear dN zn hX hp hA' fg eY bA;go_wp2_with (at_mapUpdate;refine QW mkSet _ rfl _ _ _ rfl w.heap.size (kj ((L.take j).flatten++L[j].take i)) rfl fo.o xh.o X HX.o rfl () trivial rfl ?_;intro w1 aT aS;have dP:=EP aT;have mh:=EP aS;clear aT aS);go_roundg (m-(i+1))
     case measure=>omega
     case rel =>
      refine⟨i+1,by go_num,by rw[jg.o],by rw[jg.o];omega,?_,sa.o.grown mh.o (λk hk=>.inr (by injection hk with hk;exact hk.symm))⟩;rw[eF.o,<-DC,V7,<-xe.o];exact dP.o
    ·have aJ:L[j].take i=L[j]:=Cq (by rw[jg.o];omega)
     have HE:=EP aJ;clear aJ;go_wp2_with fail;go_roundg (n-(j+1))
     case measure=>omega
     case rel =>
      refine⟨j+1,by go_num,by rw[HN.o],by rw[HN.o];omega,?_,sa.o⟩;have:=fo.o;rw[HE.o]at this;rw[zhZ L j kI];exact this
  ·have aJ:L.take j=L:=Cq (by have:=HN.o;omega)
   have HE:=EP aJ;clear aJ;go_wp2_with fail;go_ret
   refine⟨rfl,by have:=HM.o;rw[HE.o]at this;exact this,((Cc _ w).alloc (BU _) _).trans (HC.o.toBelow (by simp) (λk hk h=>by unfold only at h;omega))⟩
theorem zkE(L:List (List Name))(g c:Nat)(w:World)(h:UR w g L)(hg:g<w.heap.size)(hl:∀x∈L.flatten,x.length<=24)(hlen:L.flatten.length<=8000000000000)(hL:L.length<=1000):Calls prog 41 #[.slice (some ⟨g,0,none⟩) L.length c] w λe w'=>e=.returned (.map (some w.heap.size))/\iT mkSet w' w.heap.size (kj L.flatten)/\Below w.heap.size w w' :=
 zqT L g c w h hg (λx hx=>Cm (hl x hx) (by unfold maxLen;omega)) hlen hL
theorem zrv(L:List (List Name))(g c:Nat)(w:World)(h:UR w g L)(hg:g<w.heap.size)(hl:∀x∈L.flatten,x.length<=24)(hlen:L.flatten.length<=10000000)(hL:L.length<=1000):Calls prog 41 #[.slice (some ⟨g,0,none⟩) L.length c] w λe w'=>e=.returned (.map (some w.heap.size))/\iT mkSet w' w.heap.size (kj L.flatten)/\Below w.heap.size w w' :=
 zkE L g c w h hg hl (by omega) hL
end
section
open Go.RowKit Lx Tx Go.Maps Go.WideMaps Go.Shelf
end
end Go.Proofs.YtfafilmklhnngaaGreatDoor
