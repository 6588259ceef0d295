import Derived.Test.YtfafilmklhnngaaGreatDoorBkAB
import Derived.Laws.EntriesVeiled
set_option maxHeartbeats 12800000
namespace Go.Proofs.YtfafilmklhnngaaGreatDoor
open Go.RowKit Lx Tx Go.Maps Go.WideMaps Go.Shelf
set_option maxRecDepth 100000
def zbJ(b:Nat):Value:=.func (.func 132) #[] #[.pointer (some ⟨b+3,0,none⟩),.pointer (some ⟨b+1,0,none⟩)]
theorem zf5(b:Nat)(w:World)(hb:w.heap.size=b+1)(h:Blk w b 95 #[.slice none 0 0]):Calls Tryz.prog 87 #[.pointer (some ⟨b,0,none⟩)] w λe w'=>e=.returned (zbJ b)/\OnceI b 0 [] (λg=>b<=g/\g<=b+3) w'/\w'.heap.size=b+4/\Below w.heap.size w w':=by
 have iI:∀(fn:Fn) (first cap:Array Value) (w:World),(Instr.makeFunc fn first cap).run Tryz.prog w=.ok (.func fn first cap) w:=λ_ _ _ _=>rfl;have dY:∀w,(Instr.makeMap 93 none).run Tryz.prog w=.ok (.map (some w.heap.size)) (w.alloc (.map #[] 0)):=λ_=>rfl;have H:=CS h;have HB:=CS hb;clear h hb;go_enter Tryz.func87,Tryz.ntmps87
 go_wp2_with fail
 go_ret
 obtain⟨h1,h2,h3,hs,bJ⟩:=zcw w (.cells #[.pointer (some ⟨b,0,none⟩)] 158) (.map #[] 0) (.cells #[.map (some (w.heap.size+1))] 93);have hb:=HB.out;refine⟨by rw[hb];rfl,⟨?_,?_,?_,Ai _,by omega,λg hg=>by omega,none,0,?_,⟨rfl,.inl ⟨rfl,rfl⟩⟩,λa ha=>by cases ha⟩,by omega,bJ⟩
 ·rw[show b+3=w.heap.size+1+1 by omega,show b+2=w.heap.size+1 by omega];exact h3
 ·rw[show b+1=w.heap.size by omega];exact h1
 ·rw[show b+2=w.heap.size+1 by omega];exact MapE.laid mkSet h2
 ·exact H.out.below bJ (by omega)
def NoteI(b:Nat)(c:Nat)(s:List Name)(M:Nat->Prop)(w:World):Prop :=
 ∃M0,(∀g,M g↔M0 g\/g=b+4)/\OnceI b c s M0 w/\¬M0 (b+4)/\Blk w (b+4) 156 #[zbJ b]
theorem NoteI.inv(b:Nat):Inv (NoteI b) where
 mono c c' s M w:=λ⟨M0,h1,h2,h3⟩ hc=>⟨M0,h1,(OnceI.inv b).mono _ _ _ _ _ h2 hc,h3⟩
 lt c s M w:=λ⟨M0,h1,h2,h3,h4⟩ g hg=>by
  rcases(h1 g).1 hg with h|h
  ·exact h2.all g h
  ·rw[h];exact h4.lt
 keep c s M w w':=λ⟨M0,h1,h2,h3,h4⟩ hs hk =>
  ⟨M0,h1,(OnceI.inv b).keep _ _ _ _ _ h2 hs (λg hg=>hk g ((h1 g).2 (.inl hg))),h3,h4.same (hk _ ((h1 _).2 (.inr rfl)))⟩
theorem NoteI.next {b c:Nat} {s':List Name} {M M0 M':Nat->Prop} {w w1 w':World}(h1:∀g,M g↔M0 g\/g=b+4)(h3:¬M0 (b+4))(h4:Blk w1 (b+4) 156 #[zbJ b])(hi:OnceI b c s' M' w')(hM:∀g,M' g->M0 g\/w1.heap.size<=g)(hc:Chg M0 w1 w')(hb:Below w.heap.size w w1):∃M2,NoteI b c s' M2 w'/\(∀g,M2 g->M g\/w.heap.size<=g)/\Chg M w w':=by
 have hs:=hb.size;have hl:=h4.lt;refine⟨λg=>M' g\/g=b+4,⟨M',λg=>Iff.rfl,hi,λh=>?_,h4.chg hc h3⟩,λg hg=>?_,(Chg.of_below hb).trans' hc (λg _ h=>(h1 g).2 (.inl h))⟩
 ·rcases hM _ h with h|h
  ·exact h3 h
  ·omega
 ·rcases hg with h|h
  ·rcases hM _ h with h|h
   ·exact .inl ((h1 g).2 (.inl h))
   ·exact .inr (by omega)
  ·exact .inl ((h1 g).2 (.inr h))
def noteVar:Ty->List Name->List Name
 |.var x,s=>addN x s
 |_,s=>s
theorem zeQ(t:Ty)(s:List Name):((kd t:Int)==1)=true/\noteVar t s=addN (nmB t).data.toList s\/((kd t:Int)==1)=false/\noteVar t s=s:=by
 cases t with
 |var x=>exact .inl ⟨rfl,rfl⟩
 |mt n=>exact .inr ⟨rfl,rfl⟩
 |con c l=>exact .inr ⟨rfl,rfl⟩
 |fn a b=>exact .inr ⟨rfl,rfl⟩
 |all x t=>exact .inr ⟨rfl,rfl⟩
theorem znJ(b:Nat):Doer 88 #[.pointer (some ⟨b+4,0,none⟩)] (NoteI b) noteVar:=by
 intro c s M t S v w hi hv hS az hc;obtain⟨M0,hM,bm,af,an⟩:=hi;obtain⟨K,X,Z,A,m,cp,rfl,hK,hX,-,-,-⟩:=hv.parts;have hw:=zeQ t s;rw[<-hK,<-hX]at hw
 have bT:X.size<=24:=by have:=zbo az;rw[<-hX]at this;exact this
 have bz:Hid (Below w.heap.size w (w.alloc (.cells #[.int .i64 K,.string X,.int .i64 Z,.slice A m cp] 37))):=CS ((Below.refl _ w).alloc (Ai _) _);obtain⟨y0,-,l0⟩:=zad an;have H1:=CS ((OnceI.inv b).keep _ _ _ _ (w.alloc (.cells #[.int .i64 K,.string X,.int .i64 Z,.slice A m cp] 37)) bm (by simp) (λg hg=>Below.heap_alloc _ _ _ (bm.all g hg)));have ek:∀args w,(callFunc 132 args).run Tryz.prog w=.ok (.enter 132 args) w:=enters_of Tryz.func132 (by kernel_rfl) rfl;have HM:=CS hM;have cH:=CS af;have eJ:=CS (an.below bz.out l0);obtain⟨s',dP⟩:∃s',noteVar t s=s':=⟨_,rfl⟩;rw[dP]at hw ⊢
 clear hK hX hv az bm hM af an dP hS;unfold zbJ at y0;rcases hw with⟨d1,hr⟩|⟨d1,rfl⟩
 ·have HR:=CS hr
  clear hr;go_enter Tryz.func88,Tryz.ntmps88
  go_wp2_with fail
  refine(zgK b c s M0 X _ H1.out bT hc).mono ?_;rintro e w' ⟨rfl,M',i',fi,c'⟩;have HF:=CS (NoteI.next HM.out cH.out eJ.out i' fi c' bz.out);clear i' fi c';go_wp2_with fail
  first|go_end0|refine bodyPost_ret (results_none rfl _ _ _) rfl ?_
  rw[HR.out]
  exact⟨rfl,HF.out⟩
 ·go_enter Tryz.func88,Tryz.ntmps88
  go_wp2_with fail
  first|go_end0|refine bodyPost_ret (results_none rfl _ _ _) rfl ?_
  exact⟨rfl,NoteI.next HM.out cH.out eJ.out ((OnceI.inv b).mono _ _ _ _ _ H1.out (by omega)) (λg hg=>.inl hg) (Chg.refl M0 _) bz.out⟩
theorem zcn {w:World} {B B':Nat} {e:TypeId} {size n:Nat} {v:Value} {xs:List Value}(h:w.ownsRow B e size v n xs)(hb:B'<=B):w.ownsRow B' e size v n xs:=by
 obtain⟨h0,h⟩:=h;refine⟨h0,?_⟩;rcases h with h|⟨g,cap,cur,hv,hg,h⟩
 ·exact .inl h
 ·exact .inr ⟨g,cap,cur,hv,by omega,h⟩
def zav(t:Ty):List Name:=thr (atLeaf noteVar) (λ_ _ s=>s) [] t []
theorem zjR(t:Ty)(S:Nat->Prop)(v:Value)(w:World)(hv:RdV S w t v)(hS:∀g,S g->g<w.heap.size)(az:Nm t)(aD:t.size<=1000000):Calls Tryz.prog 42 #[v] w λe w'=>∃A cp,e=.returned (.slice A (zav t).length cp)/\w'.ownsRow w.heap.size 9 1 (.slice A (zav t).length cp) (zav t).length (strV (zav t))/\(zav t).length<=2000000/\Below w.heap.size w w':=by
 obtain⟨K,X,Z,A,m,cp,rfl,-,-,-,-,-⟩:=hv.parts;have iI:∀(fn:Fn) (first cap:Array Value) (w:World),(Instr.makeFunc fn first cap).run Tryz.prog w=.ok (.func fn first cap) w:=λ_ _ _ _=>rfl;have HV:=CS hv;have HS:=CS hS;have bK:=CS az;clear hv hS az;go_enter Tryz.func42,Tryz.ntmps42
 go_wp2_with fail
 obtain⟨h1,h2,bk,bJ⟩:=zaZ w (.cells #[.int .i64 K,.string X,.int .i64 Z,.slice A m cp] 37) (.cells #[.slice none 0 0] 95);refine(zf5 (w.heap.size+1) _ bk h2).mono ?_;rintro e w1 ⟨rfl,ho,aF,b1⟩;have cg:=bJ.trans (b1.mono (by omega));have iG:Blk w1 w.heap.size 37 #[.int .i64 K,.string X,.int .i64 Z,.slice A m cp]:=Blk.below h1 b1 (by omega);obtain⟨p0,p1,p2,p3,s0,s1,s2,s3,di⟩:=zaa iG;have HO:=CS ho;have fL:=CS aF;have fp:=CS cg;clear h1 h2 bk bJ ho aF b1 cg iG;unfold zbJ;go_wp2_with fail
 have aF:=fL.out;have dw:Below w.heap.size w (w1.alloc (.cells #[zbJ (w.heap.size+1)] 156)):=fp.out.alloc (by have:=fp.out.size;omega) _;have cT:Blk (w1.alloc (.cells #[zbJ (w.heap.size+1)] 156)) (w.heap.size+1+4) 156 #[zbJ (w.heap.size+1)]:=by rw[<-aF];exact heap_alloc_new w1 _
 have hle:=zhf 88 #[.pointer (some ⟨w.heap.size+1+4,0,none⟩)] (NoteI (w.heap.size+1)) noteVar (NoteI.inv _) (enters_of Tryz.func88 (by kernel_rfl) rfl) (znJ _)
  0 [] (λg=>(w.heap.size+1<=g/\g<=w.heap.size+1+3)\/g=w.heap.size+1+4) t S _ _
  ⟨_,λg=>Iff.rfl,(OnceI.inv _).keep _ _ _ _ _ HO.out (by simp) (λg hg=>Below.heap_alloc _ _ _ (by omega)),by omega,cT⟩
  (HV.out.keep (λ_ h=>h) (λg hg=>dw.block g (HS.out g hg))) (λg hg=>⟨by have:=HS.out g hg;have:=dw.size;omega,by have:=HS.out g hg;omega⟩) bK.out aD (by omega)
 rw[<-aF]at hle
 refine hle.mono ?_;rintro e w3 ⟨rfl,M',⟨M0,-,gy,-,-⟩,fi,c3⟩;obtain⟨A3,rK,iu,aj,-⟩:=gy.row;obtain⟨q0,q1,q2⟩:=zad iu;have hlen:=gy.len;have HB:=CS (dw.trans (c3.toBelow (B:=w.heap.size) (by have:=dw.size;omega) (λk hk h=>by omega)));have ay:=CS (zcn aj (show w.heap.size<=w.heap.size+1+4 by omega));have dU:=CS (show(zav t).length<=2000000 by unfold zav;omega);clear hle dw cT aF gy iu fi c3 aj hlen HO;replace q0:w3.cell? ⟨w.heap.size+1,0,none⟩=some (.slice A3 (zav t).length rK):=q0;go_wp2_with fail
 go_ret
 exact⟨A3,rK,rfl,ay.out,dU.out,HB.out⟩
end Go.Proofs.YtfafilmklhnngaaGreatDoor
namespace Go.Proofs.YtfafilmklhnngaaGreatDoor
open Go.RowKit Lx Tx Go.Maps Go.WideMaps Go.Shelf
set_option maxRecDepth 100000
theorem zeg:(Tryz.prog.info? 3).map (λi=>(i.zero,i.size,i.bytes))=some (some (.int .i64 0),1,8):=by kernel_rfl
theorem intKeyed:Keyed Tryz.prog 3:=int_keyed Tryz.underlying3
theorem intKey(n:Nat)(h:n<=999999):keyOf Tryz.prog 3 (.int .i64 n)=some (.int .i64 n):=keyOf_int_mk Tryz.underlying3 (by simp[Lit.wf,IntKind.min,IntKind.max,IntKind.signed,IntKind.bits];omega)
theorem klI(x:Int):WideAt.IsKeyLit (.int .i64 x):=trivial
def envZ:List Nat->DataW Unit
 |[]=>.map []
 |n::r=>(envZ r).put (.int .i64 n) .nil
theorem zdx:∀r,Tidy (envZ r)
 |[]=>tidy_empty
 |_::r=>(zdx r).put (klI _) _
theorem zhg:∀r,Maps.size (envZ r)<=r.length
 |[]=>by simp[envZ,Maps.size]
 |_::r=>by
  have:=zhg r;rw[envZ,size_put (zdx r),Ao]
  split <;> omega
theorem zin(x:Nat):∀r,Maps.has (envZ r) (.int .i64 x)=decide (x∈r)
 |[]=>rfl
 |p::r=>by
  rw[envZ]
  by_cases h:p=x
  ·rw[<-h,has_put_same (zdx r).isMap (klI _)];simp
  ·rw[has_put_other (λe=>h (by injection e with _ e;omega)),zin x r]
   simp[show x≠p from λe=>h e.symm]
theorem zjS(x:Nat):∀r,(envZ r).atKey (.int .i64 x) .nil=.nil
 |[]=>rfl
 |p::r=>by
  rw[envZ]
  by_cases h:p=x
  ·rw[<-h,atKey_put_same (zdx r).isMap (klI _)]
  ·rw[atKey_put_other (λe=>h (by injection e with _ e;omega)),zjS x r]
def MapZ(w:World)(b:Nat)(r:List Nat):Prop:=∃n,n<=r.length/\w.ownsMap Tryz.prog 3 unitElem b n (envZ r)
theorem zpT {w:World} {b n:Nat} {D:DataW Unit}(h:w.ownsMap Tryz.prog 3 unitElem b n D):w.ownsMap Tryz.prog 3 unitElem b (Maps.size D) D:=by
 obtain⟨es,clock,hb,F,_,rfl⟩:=h;exact⟨es,clock,hb,F,by simp[Maps.size,length_sorted],rfl⟩
theorem MapZ.lt {w:World} {b:Nat} {r:List Nat}(h:MapZ w b r):b<w.heap.size:=by obtain⟨_,_,h⟩:=h;exact h.lt
theorem MapZ.keep {w w':World} {b:Nat} {r:List Nat}(h:MapZ w b r)(hk:w'.heap[b]?=w.heap[b]?):MapZ w' b r:=by
 obtain⟨n,hn,es,clock,hb,F,hs,hD⟩:=h;exact⟨n,hn,es,clock,hk.trans hb,F,hs,hD⟩
theorem MapZ.laid {w:World} {b:Nat}(h:w.heap[b]?=some (.map #[] 0)):MapZ w b []:=⟨0,Ai _,ownsMade h⟩
theorem MapZ.getOk {w:World} {b:Nat} {r:List Nat}(h:MapZ w b r)(x:Nat)(hx:x<=999999):(Instr.lookup 187 (.map (some b)) (.int .i64 x) true).run Tryz.prog w=.ok (.tuple #[.agg #[],.bool (decide (x∈r))]) w:=by
 obtain⟨n,_,h⟩:=h;obtain⟨v,ps,aA,hv⟩:=h.look_ok intKeyed Tryz.underlying187 (z:=.agg #[]) (by kernel_rfl) (zd:=.nil) (zp:=[]) rfl (intKey x hx);rw[aA,zin]
 rw[zjS]at hv
 rw[unitElem_inv hv]
theorem zjs(w:World) {ops:Array Oper} {rest:List Oper} {o:Oper} {a:Act} {Q:Exit->Act->World->Prop}
  (hg:o.guard=none)(mo x vo:Operand)(jQ:o.op=Op.mapUpdate 187 mo x vo)(b:Nat)(r:List Nat)(hm:a.eval mo=.map (some b))(h:MapZ w b r)(hn:r.length<1000000000)(X:Nat)(hX:X<=999999)
  (hx:a.eval x=.int .i64 X)(hv:a.eval vo=.agg #[])(hK:∀w',MapZ w' b (X::r)->w.grownBy w' (some b)->wpList Tryz.prog ops Q rest (a.put o.dst undef) w'):wpList Tryz.prog ops Q (o::rest) a w:=by
 obtain⟨n,gX,h⟩:=h;exact wpList_mapUpdate_own w hg mo x vo 187 jQ 3 153 intKeyed Tryz.underlying187 unitElem b n _ hm h (by unfold maxLen;omega) _ _ _ hx hv (intKey X hX) .nil [] rfl (λw' h1 h2=>hK w' ⟨_,zhg (X::r),zpT (D:=envZ (X::r)) h1⟩ h2)
structure OnceZ (b:Nat) (c:Nat) (s:List Nat) (M:Nat->Prop) (w:World):Prop where
 met:Blk w (b+3) 187 #[.map (some (b+2))]
 ptr:Blk w (b+1) 123 #[.pointer (some ⟨b,0,none⟩)]
 set:MapZ w (b+2) s.reverse
 len:s.length<=c
 low:M b/\M (b+1)/\M (b+2)/\M (b+3)
 all:∀g,M g->g<w.heap.size
 row:∃A cp,Blk w b 61 #[.slice A s.length cp]/\w.ownsRow (b+4) 3 1 (.slice A s.length cp) s.length (intV s)/\∀a,A=some a->M a.block
theorem OnceZ.inv(b:Nat):Inv (OnceZ b) where
 mono c c' s M w h hc:={ h with len:=AB h.len hc }
 lt c s M w h:=h.all
 keep c s M w w' h hs hk :=
  {met:=h.met.same (hk _ h.low.2.2.2)
   ptr:=h.ptr.same (hk _ h.low.2.1)
   set:=h.set.keep (hk _ h.low.2.2.1)
   len:=h.len
   low:=h.low
   all:=λg hg=>As (h.all g hg) hs
   row:=by
    obtain⟨A,cp,h1,h2,h3⟩:=h.row;exact⟨A,cp,h1.same (hk _ h.low.1),zaY h2 (λa ha=>hk _ (h3 a ha)),h3⟩ }
theorem zlQ {b c:Nat} {s:List Nat} {M:Nat->Prop} {n:Nat} {A:Option Addr} {cp:Nat} {w w1 W w5:World} {g3 c3:Nat}(dB:Blk w (b+3) 187 #[.map (some (b+2))])(aL:∀g,M g->g<w.heap.size)(aZ:M b/\M (b+1)/\M (b+2)/\M (b+3))(hlen:s.length<=c)(hA:∀a,A=some a->M a.block)
  (ai:w.ownsRow (b+4) 3 1 (.slice A s.length cp) s.length (intV s))(aF:w.heap.size+1<=w1.heap.size)(bI:∀k,k<w.heap.size->k≠b+2->w1.heap[k]?=w.heap[k]?)(aX:MapZ w1 (b+2) (n::s.reverse))
  (hW:∀k,k<w1.heap.size->W.heap[k]?=w1.heap[k]?)(hWs:W.heap.size=w1.heap.size+1)(hCW:Chg M w W)(wZ:w5.ownsRow (b+4) 3 1 (.slice (some ⟨g3,0,none⟩) (s.length+1) c3) (s.length+1) (intV s++[.int .i64 n]))
  (im:W.grownBy w5 (Value.slice A s.length cp).ownBlock)(bF:(Value.slice A s.length cp).ownBlock=some g3\/g3=W.heap.size)(aP:Blk w5 b 61 #[.slice A s.length cp])(bG:Blk w5 (b+1) 123 #[.pointer (some ⟨b,0,none⟩)])(ah:g3<w5.heap.size):∃M',OnceZ b (c+1) (s++[n]) M' (w5.setCell ⟨b,0,none⟩ (.slice (some ⟨g3,0,none⟩) (s.length+1) c3))/\(∀g,M' g->M g\/w.heap.size<=g)/\Chg M w (w5.setCell ⟨b,0,none⟩ (.slice (some ⟨g3,0,none⟩) (s.length+1) c3)):=by
 have aJ:∀k,some k=(Value.slice A s.length cp).ownBlock->b+4<=k/\M k:=λk hk=>by
  refine⟨(ai.lt k hk.symm).1,?_⟩;cases A with
  |none=>cases hk
  |some a=>injection hk with hk;rw[hk];exact hA a rfl
 have hg3b:b+4<=g3:=(wZ.lt g3 rfl).1;have h3:=aL _ aZ.2.2.2;have hf:∀k,k<b+4->k≠b->(w5.setCell ⟨b,0,none⟩ (.slice (some ⟨g3,0,none⟩) (s.length+1) c3)).heap[k]?=w1.heap[k]?:=λk hk af =>
  (Below.heap_setCell w5 ⟨b,0,none⟩ _ k af).trans ((im.block k (by omega) (λe=>by have:=(aJ k e).1;omega)).trans (hW k (by omega)))
 have aD:(w5.setCell ⟨b,0,none⟩ (.slice (some ⟨g3,0,none⟩) (s.length+1) c3)).heap.size=w5.heap.size:=by simp
 have ej:=im.size;refine⟨λg=>M g\/g=g3,⟨dB.same ((hf _ (by omega) (by omega)).trans (bI _ (by omega) (by omega))),bG.far (by show b+1≠b;omega) _,?_,by simp;omega,⟨.inl aZ.1,.inl aZ.2.1,.inl aZ.2.2.1,.inl aZ.2.2.2⟩,λg hg=>?_,some ⟨g3,0,none⟩,c3,?_,?_,λa ha=>by injection ha with ha;rw[<-ha];exact .inr rfl⟩,λg hg=>?_,?_⟩
 ·rw[Cd,List.reverse_singleton,Cy]
  exact aX.keep (hf _ (by omega) (by omega))
 ·rw[aD]
  rcases hg with hg|rfl
  ·have:=aL g hg;omega
  ·exact ah
 ·have:=one_setCell (u:=.slice (some ⟨g3,0,none⟩) (s.length+1) c3) aP
  rw[Ap]
  exact this
 ·rw[Ap,show intV (s++[n])=intV s++[.int .i64 n] by simp[intV]]
  exact zaY wZ (λa ha=>by injection ha with ha;rw[<-ha];exact Below.heap_setCell w5 ⟨b,0,none⟩ _ g3 (by show g3≠b;omega))
 ·rcases hg with hg|rfl
  ·exact .inl hg
  ·rcases bF with h|h
   ·exact .inl (aJ _ h.symm).2
   ·exact .inr (by omega)
 ·exact(hCW.grown im (λk hk=>.inr (aJ k hk.symm).2)).setCell (p:=⟨b,0,none⟩) (.inr aZ.1) _
theorem znL(b c:Nat)(s:List Nat)(M:Nat->Prop)(n:Nat)(w:World)(h:OnceZ b c s M w)(hX:n<=999999)(hc:c<10000000):Calls Tryz.prog 107 #[.int .i64 n,.pointer (some ⟨b+3,0,none⟩),.pointer (some ⟨b+1,0,none⟩)] w λe w'=>e=.returned (.tuple #[])/\∃M',OnceZ b (c+1) (addN n s) M' w'/\(∀g,M' g->M g\/w.heap.size<=g)/\Chg M w w':=by
 obtain⟨dB,eW,bZ,hlen,aZ,aL,A,cp,an,ai,hA⟩:=h;obtain⟨m0,-,lm⟩:=zad dB;obtain⟨p0,-,lp⟩:=zad eW;have aR:=bZ.getOk n hX;simp only[CB]at aR;by_cases hin:n∈s
 ·rw[AN hin]at aR
  replace aR:(Instr.lookup 187 (.map (some (b+2))) (.int .i64 n) true).run Tryz.prog w=.ok (.tuple #[.agg #[],.bool true]) w:=aR;have aW:addN n s=s:=Aq hin;rw[aW]
  have od:Hid (OnceZ b (c+1) s M (w.alloc (.cells #[] 153))):=CS ((OnceZ.inv b).mono _ _ _ _ _ ((OnceZ.inv b).keep _ _ _ _ _ ⟨dB,eW,bZ,hlen,aZ,aL,A,cp,an,ai,hA⟩ (by simp) (λg hg=>Below.heap_alloc _ _ _ (aL g hg))) (by omega));clear dB eW bZ hlen aZ aL an ai hA hin aW;go_enter Tryz.func107,Tryz.ntmps107
  go_wp2_with fail
  first|go_end0|refine bodyPost_ret (results_none rfl _ _ _) rfl ?_
  exact⟨rfl,M,od.out,λg hg=>.inl hg,(Chg.refl M w).alloc _⟩
 ·rw[AQ hin]at aR
  replace aR:(Instr.lookup 187 (.map (some (b+2))) (.int .i64 n) true).run Tryz.prog w=.ok (.tuple #[.agg #[],.bool false]) w:=aR;have aW:addN n s=s++[n]:=Am hin;rw[aW]
  obtain⟨i0,bm,bO,bD,bj⟩:=info_parts zeg;have tN:=CS (bZ.keep (w':=w.alloc (.cells #[] 153)) (Below.heap_alloc _ _ _ bZ.lt));have kX:Hid (∀k,k<w.heap.size->(w.alloc (.cells #[] 153)).heap[k]?=w.heap[k]?):=CS λk hk=>Below.heap_alloc _ _ _ hk;have HX:=CS hX;have dU:Hid (s.reverse.length<1000000000):=CS (by simp;omega);obtain⟨z0,z1,z2⟩:=zad an;have tZ:=CS dB;have tV:=CS eW;have eJ:=CS an;have ay:=CS ai;have eF:=CS aZ;have eG:=CS aL;have HA:=CS hA;clear bZ hin aW dB eW an ai aZ aL hA z0 z1;go_enter Tryz.func107,Tryz.ntmps107
  go_wp2_with (at_mapUpdate;refine zjs _ rfl _ _ _ rfl (b+2) s.reverse rfl tN.out dU.out n HX.out rfl rfl ?_;intro w1 aX aY;have aF:w.heap.size+1<=w1.heap.size:=(by have:=aY.size;simp at this;exact this);have bI:∀k,k<w.heap.size->k≠b+2->w1.heap[k]?=w.heap[k]?:=(λk hk af=>(aY.block k (by simp;omega) (λe=>af (by injection e))).trans (kX.out k hk));have dH:=CS aX;have oj:=CS bI;have aw:=eJ.out.same (bI b z2 (by omega));have mH:=tV.out.same (bI (b+1) lp (by omega));have cE:=CS (zaY (w':=w1) ay.out (λa ha=>bI a.block (eG.out _ (HA.out a ha)) (by have:=(ay.out.lt a.block (by rw[ha];rfl)).1;omega)));obtain⟨q0,q1,q2⟩:=zad aw;obtain⟨r0,r1,r2⟩:=zad mH;have bN:=CS aw;have HP1:=CS mH;have jG:Hid (Chg M w (w1.alloc (.cells #[.int .i64 n] 3)).drew):=CS (((((Chg.refl M w).alloc (.cells #[] 153)).grown aY (λk hk=>.inr (by injection hk with hk;rw[<-hk];exact eF.out.2.2.1))).alloc _).drew);have bp:Hid ((w1.drew.alloc (.cells #[.int .i64 n] 3)).ownsRow (b+4) 3 1 (.slice A s.length cp) s.length (intV s)):=CS (cE.out.alloc (.cells #[.int .i64 n] 3));have dz:Hid (∀j u,[Value.int .i64 n][j]?=some u->(w1.drew.alloc (.cells #[.int .i64 n] 3)).cell? ((⟨w1.heap.size,0,none⟩:Addr).add j)=some u):=CS (zas _ _ _ _ rfl);clear aX aY bI aw mH)
  go_region_law (refine step_append_lies _ (by rfl) _ _ _ (by rfl) (b+4) 3 i0 _ 1 8 Tryz.underlying61 bm bO bD bj rfl (by decide) _ s.length (intV s) (by rfl) bp.out ⟨w1.heap.size,0,none⟩ 1 1 [.int .i64 n] rfl rfl dz.out (by intro u hu;simp at hu;subst hu;rfl) (by omega) (by unfold maxLen;omega) (by omega) (by simp;omega) _ rfl ?_;intro g3 c3 w5 aj ae bF ah;have aP:Blk w5 b 61 #[.slice A s.length cp]:=(Blk.alloc (w:=w1.drew) bN.out _).grown ae (λe=>by have:=(ay.out.lt b e.symm).1;omega);have bG:Blk w5 (b+1) 123 #[.pointer (some ⟨b,0,none⟩)]:=(Blk.alloc (w:=w1.drew) HP1.out _).grown ae (λe=>by have:=(ay.out.lt (b+1) e.symm).1;omega);obtain⟨d0,d1,d2⟩:=zad aP;obtain⟨e0,e1,e2⟩:=zad bG;have cV:=CS aj;have bg:=CS ae;have fq:=CS bF;have mh:=CS aP;have oQ:=CS bG;clear aj ae bF aP bG)
  all_goals
   go_wp2_with fail
   first|go_end0|refine bodyPost_ret (results_none rfl _ _ _) rfl ?_
   exact⟨rfl,zlQ (W:=(w1.alloc (.cells #[.int .i64 n] 3)).drew) tZ.out eG.out eF.out hlen HA.out ay.out aF oj.out dH.out (λk hk=>Below.heap_alloc w1 _ k hk) (size_alloc w1 _) (jG.out) cV.out bg.out fq.out mh.out oQ.out ah⟩
def zdy(b:Nat):Value:=.func (.func 107) #[] #[.pointer (some ⟨b+3,0,none⟩),.pointer (some ⟨b+1,0,none⟩)]
theorem zjt(b:Nat)(w:World)(hb:w.heap.size=b+1)(h:Blk w b 61 #[.slice none 0 0]):Calls Tryz.prog 62 #[.pointer (some ⟨b,0,none⟩)] w λe w'=>e=.returned (zdy b)/\OnceZ b 0 [] (λg=>b<=g/\g<=b+3) w'/\w'.heap.size=b+4/\Below w.heap.size w w':=by
 have iI:∀(fn:Fn) (first cap:Array Value) (w:World),(Instr.makeFunc fn first cap).run Tryz.prog w=.ok (.func fn first cap) w:=λ_ _ _ _=>rfl;have dY:∀w,(Instr.makeMap 187 none).run Tryz.prog w=.ok (.map (some w.heap.size)) (w.alloc (.map #[] 0)):=λ_=>rfl;have H:=CS h;have HB:=CS hb;clear h hb;go_enter Tryz.func62,Tryz.ntmps62
 go_wp2_with fail
 go_ret
 obtain⟨h1,h2,h3,hs,bJ⟩:=zcw w (.cells #[.pointer (some ⟨b,0,none⟩)] 123) (.map #[] 0) (.cells #[.map (some (w.heap.size+1))] 187);have hb:=HB.out;refine⟨by rw[hb];rfl,⟨?_,?_,?_,Ai _,by omega,λg hg=>by omega,none,0,?_,⟨rfl,.inl ⟨rfl,rfl⟩⟩,λa ha=>by cases ha⟩,by omega,bJ⟩
 ·rw[show b+3=w.heap.size+1+1 by omega,show b+2=w.heap.size+1 by omega];exact h3
 ·rw[show b+1=w.heap.size by omega];exact h1
 ·rw[show b+2=w.heap.size+1 by omega];exact MapZ.laid h2
 ·exact H.out.below bJ (by omega)
def NoteZ(b:Nat)(c:Nat)(s:List Nat)(M:Nat->Prop)(w:World):Prop :=
 ∃M0,(∀g,M g↔M0 g\/g=b+4)/\OnceZ b c s M0 w/\¬M0 (b+4)/\Blk w (b+4) 121 #[zdy b]
theorem NoteZ.inv(b:Nat):Inv (NoteZ b) where
 mono c c' s M w:=λ⟨M0,h1,h2,h3⟩ hc=>⟨M0,h1,(OnceZ.inv b).mono _ _ _ _ _ h2 hc,h3⟩
 lt c s M w:=λ⟨M0,h1,h2,h3,h4⟩ g hg=>by
  rcases(h1 g).1 hg with h|h
  ·exact h2.all g h
  ·rw[h];exact h4.lt
 keep c s M w w':=λ⟨M0,h1,h2,h3,h4⟩ hs hk =>
  ⟨M0,h1,(OnceZ.inv b).keep _ _ _ _ _ h2 hs (λg hg=>hk g ((h1 g).2 (.inl hg))),h3,h4.same (hk _ ((h1 _).2 (.inr rfl)))⟩
theorem NoteZ.next {b c:Nat} {s':List Nat} {M M0 M':Nat->Prop} {w w1 w':World}(h1:∀g,M g↔M0 g\/g=b+4)(h3:¬M0 (b+4))(h4:Blk w1 (b+4) 121 #[zdy b])(hi:OnceZ b c s' M' w')(hM:∀g,M' g->M0 g\/w1.heap.size<=g)(hc:Chg M0 w1 w')(hb:Below w.heap.size w w1):∃M2,NoteZ b c s' M2 w'/\(∀g,M2 g->M g\/w.heap.size<=g)/\Chg M w w':=by
 have hs:=hb.size;have hl:=h4.lt;refine⟨λg=>M' g\/g=b+4,⟨M',λg=>Iff.rfl,hi,λh=>?_,h4.chg hc h3⟩,λg hg=>?_,(Chg.of_below hb).trans' hc (λg _ h=>(h1 g).2 (.inl h))⟩
 ·rcases hM _ h with h|h
  ·exact h3 h
  ·omega
 ·rcases hg with h|h
  ·rcases hM _ h with h|h
   ·exact .inl ((h1 g).2 (.inl h))
   ·exact .inr (by omega)
  ·exact .inl ((h1 g).2 (.inr h))
end Go.Proofs.YtfafilmklhnngaaGreatDoor
namespace Go.Proofs.YtfafilmklhnngaaGreatDoor
open Go.RowKit Lx Tx Go.Maps Go.WideMaps Go.Shelf
set_option maxRecDepth 100000
def noteMt:Ty->List Nat->List Nat
 |.mt n,s=>addN n s
 |_,s=>s
theorem zju(t:Ty)(s:List Nat):((kd t:Int)==2)=true/\noteMt t s=addN (nn t) s\/((kd t:Int)==2)=false/\noteMt t s=s:=by
 cases t with
 |var x=>exact .inr ⟨rfl,rfl⟩
 |mt n=>exact .inl ⟨rfl,rfl⟩
 |con c l=>exact .inr ⟨rfl,rfl⟩
 |fn a b=>exact .inr ⟨rfl,rfl⟩
 |all x t=>exact .inr ⟨rfl,rfl⟩
theorem zlR(b:Nat):Doer 64 #[.pointer (some ⟨b+4,0,none⟩)] (NoteZ b) noteMt:=by
 intro c s M t S v w hi hv hS az hc;obtain⟨M0,hM,bm,af,an⟩:=hi;obtain⟨K,X,Z,A,m,cp,rfl,hK,-,hZ,-,-⟩:=hv.parts;have hw:=zju t s;rw[<-hK]at hw
 have hN:nn t<=999999:=by cases az <;> first|exact AV _|assumption
 obtain⟨n,hn⟩:∃n,nn t=n:=⟨_,rfl⟩;rw[hn]at hw hZ hN
 subst hZ;have bz:Hid (Below w.heap.size w (w.alloc (.cells #[.int .i64 K,.string X,.int .i64 (n:Nat),.slice A m cp] 37))):=CS ((Below.refl _ w).alloc (Ai _) _);obtain⟨y0,-,l0⟩:=zad an;have H1:=CS ((OnceZ.inv b).keep _ _ _ _ (w.alloc (.cells #[.int .i64 K,.string X,.int .i64 (n:Nat),.slice A m cp] 37)) bm (by simp) (λg hg=>Below.heap_alloc _ _ _ (bm.all g hg)));have ek:∀args w,(callFunc 107 args).run Tryz.prog w=.ok (.enter 107 args) w:=enters_of Tryz.func107 (by kernel_rfl) rfl;have HM:=CS hM;have cH:=CS af;have eJ:=CS (an.below bz.out l0);obtain⟨s',dP⟩:∃s',noteMt t s=s':=⟨_,rfl⟩;rw[dP]at hw ⊢
 clear hK hn hv az bm hM af an dP hS;unfold zdy at y0;rcases hw with⟨d1,hr⟩|⟨d1,rfl⟩
 ·have HR:=CS hr
  clear hr;go_enter Tryz.func64,Tryz.ntmps64
  go_wp2_with fail
  refine(znL b c s M0 n _ H1.out hN hc).mono ?_;rintro e w' ⟨rfl,M',i',fi,c'⟩;have HF:=CS (NoteZ.next HM.out cH.out eJ.out i' fi c' bz.out);clear i' fi c';go_wp2_with fail
  first|go_end0|refine bodyPost_ret (results_none rfl _ _ _) rfl ?_
  rw[HR.out]
  exact⟨rfl,HF.out⟩
 ·go_enter Tryz.func64,Tryz.ntmps64
  go_wp2_with fail
  first|go_end0|refine bodyPost_ret (results_none rfl _ _ _) rfl ?_
  exact⟨rfl,NoteZ.next HM.out cH.out eJ.out ((OnceZ.inv b).mono _ _ _ _ _ H1.out (by omega)) (λg hg=>.inl hg) (Chg.refl M0 _) bz.out⟩
def zcg(t:Ty):List Nat:=thr (atLeaf noteMt) (λ_ _ s=>s) [] t []
theorem znM(t:Ty)(S:Nat->Prop)(v:Value)(w:World)(hv:RdV S w t v)(hS:∀g,S g->g<w.heap.size)(az:Nm t)(aD:t.size<=1000000):Calls Tryz.prog 25 #[v] w λe w'=>∃A cp,e=.returned (.slice A (zcg t).length cp)/\w'.ownsRow w.heap.size 3 1 (.slice A (zcg t).length cp) (zcg t).length (intV (zcg t))/\(zcg t).length<=2000000/\Below w.heap.size w w':=by
 obtain⟨K,X,Z,A,m,cp,rfl,-,-,-,-,-⟩:=hv.parts;have iI:∀(fn:Fn) (first cap:Array Value) (w:World),(Instr.makeFunc fn first cap).run Tryz.prog w=.ok (.func fn first cap) w:=λ_ _ _ _=>rfl;have HV:=CS hv;have HS:=CS hS;have bK:=CS az;clear hv hS az;go_enter Tryz.func25,Tryz.ntmps25
 go_wp2_with fail
 obtain⟨h1,h2,bk,bJ⟩:=zaZ w (.cells #[.int .i64 K,.string X,.int .i64 Z,.slice A m cp] 37) (.cells #[.slice none 0 0] 61);refine(zjt (w.heap.size+1) _ bk h2).mono ?_;rintro e w1 ⟨rfl,ho,aF,b1⟩;have cg:=bJ.trans (b1.mono (by omega));have iG:Blk w1 w.heap.size 37 #[.int .i64 K,.string X,.int .i64 Z,.slice A m cp]:=Blk.below h1 b1 (by omega);obtain⟨p0,p1,p2,p3,s0,s1,s2,s3,di⟩:=zaa iG;have HO:=CS ho;have fL:=CS aF;have fp:=CS cg;clear h1 h2 bk bJ ho aF b1 cg iG;unfold zdy;go_wp2_with fail
 have aF:=fL.out;have dw:Below w.heap.size w (w1.alloc (.cells #[zdy (w.heap.size+1)] 121)):=fp.out.alloc (by have:=fp.out.size;omega) _;have cT:Blk (w1.alloc (.cells #[zdy (w.heap.size+1)] 121)) (w.heap.size+1+4) 121 #[zdy (w.heap.size+1)]:=by rw[<-aF];exact heap_alloc_new w1 _
 have hle:=zhf 64 #[.pointer (some ⟨w.heap.size+1+4,0,none⟩)] (NoteZ (w.heap.size+1)) noteMt (NoteZ.inv _) (enters_of Tryz.func64 (by kernel_rfl) rfl) (zlR _)
  0 [] (λg=>(w.heap.size+1<=g/\g<=w.heap.size+1+3)\/g=w.heap.size+1+4) t S _ _
  ⟨_,λg=>Iff.rfl,(OnceZ.inv _).keep _ _ _ _ _ HO.out (by simp) (λg hg=>Below.heap_alloc _ _ _ (by omega)),by omega,cT⟩
  (HV.out.keep (λ_ h=>h) (λg hg=>dw.block g (HS.out g hg))) (λg hg=>⟨by have:=HS.out g hg;have:=dw.size;omega,by have:=HS.out g hg;omega⟩) bK.out aD (by omega)
 rw[<-aF]at hle
 refine hle.mono ?_;rintro e w3 ⟨rfl,M',⟨M0,-,gy,-,-⟩,fi,c3⟩;obtain⟨A3,rK,iu,aj,-⟩:=gy.row;obtain⟨q0,q1,q2⟩:=zad iu;have hlen:=gy.len;have HB:=CS (dw.trans (c3.toBelow (B:=w.heap.size) (by have:=dw.size;omega) (λk hk h=>by omega)));have ay:=CS (zcn aj (show w.heap.size<=w.heap.size+1+4 by omega));have dU:=CS (show(zcg t).length<=2000000 by unfold zcg;omega);clear hle dw cT aF gy iu fi c3 aj hlen HO;replace q0:w3.cell? ⟨w.heap.size+1,0,none⟩=some (.slice A3 (zcg t).length rK):=q0;go_wp2_with fail
 go_ret
 exact⟨A3,rK,rfl,ay.out,dU.out,HB.out⟩
end Go.Proofs.YtfafilmklhnngaaGreatDoor
namespace Go.Proofs.YtfafilmklhnngaaGreatDoor
open Go.RowKit Lx Tx Go.Maps Go.WideMaps Go.Shelf
set_option maxRecDepth 100000
theorem zio {w:World} {B:Nat} {e:TypeId} {n c:Nat} {A:Option Addr} {xs:List Value}(h:w.ownsRow B e 1 (.slice A n c) n xs) {i:Nat}(hi:i<n) {u:Value}(hu:xs[i]?=some u):∃g,A=some ⟨g,0,none⟩/\B<=g/\g<w.heap.size/\∀w':World,w'.heap[g]?=w.heap[g]?->w'.cell? ⟨g,i,none⟩=some u:=by
 obtain⟨h0,h⟩:=h;rcases h with⟨_,h⟩|⟨g,cap,cur,hv,hg,hb,h1,h2,h3,h4⟩
 ·omega
 ·injection hv with hv
  refine⟨g,hv,hg,lt_of_block hb,λw' hk=>?_⟩;rw[cell_of_row w' g i cur e (0,0) (hk.trans hb),<-hu,<-h4,Cq (by omega)]
  simp
theorem znN(l:List Name)(i:Nat)(hi:i<l.length):(strV l)[i]?=some (.string ⟨l[i].toArray⟩):=by simp[strV,Ak hi]
def zqg(b:Nat)(dn l:List Name)(w0:World)(gg:Nat)(v:Value)(wr:World):Prop :=
 ∃i:Nat,v=.int .i64 i/\gg=l.length-i/\i<=l.length/\MapE mkSet wr b (units (dn++l.take i))/\Chg (only b) w0 wr
def zpU(b:Nat)(L:List (List Name))(w0:World)(gg:Nat)(v:Value)(wr:World):Prop :=
 ∃j:Nat,v=.int .i64 j/\gg=L.length-j/\j<=L.length/\MapE mkSet wr b (units (L.take j).flatten)/\Chg (only b) w0 wr
def zlS(w:World)(g:Nat)(L:List (List Name)):Prop :=
 ∀j (hj:j<L.length),∃A cp,w.cell? ⟨g,j,none⟩=some (.slice A L[j].length cp)/\RowV w (.slice A L[j].length cp) (strV L[j])
theorem zhh(L:List (List Name))(j:Nat)(hj:j<L.length):(L.take (j+1)).flatten=(L.take j).flatten++L[j]:=by
 rw[Bn hj,CM];simp
theorem ziq(L:List (List Name))(j i:Nat)(hj:j<L.length):((L.take j).flatten++L[j].take i).length<=L.flatten.length:=by
 have h:L.flatten=(L.take j).flatten++(L[j]++(L.drop (j+1)).flatten):=by
  rw[<-Bj,<-zhh L j hj,<-CM,List.take_append_drop]
 rw[h]
 simp only[Ap,Bc];omega
theorem zpc(L:List (List Name))(g c:Nat)(w:World)(h:zlS w g L)(hg:g<w.heap.size)(hl:∀x∈L.flatten,x.length<=maxLen)(hlen:L.flatten.length<=10000000)(hL:L.length<=1000):Calls Tryz.prog 41 #[.slice (some ⟨g,0,none⟩) L.length c] w λe w'=>e=.returned (.map (some w.heap.size))/\MapE mkSet w' w.heap.size (units L.flatten)/\Below w.heap.size w w':=by
 have dY:∀w,(Instr.makeMap 93 none).run Tryz.prog w=.ok (.map (some w.heap.size)) (w.alloc (.map #[] 0)):=λ_=>rfl;have H:=CS h;have HL:=CS hl;have HF:=CS hlen;obtain⟨n,hn⟩:∃n,L.length=n:=⟨_,rfl⟩;have HN:=CS hn;rw[hn]at hL ⊢
 clear h hl hn hlen;go_enter Tryz.func41,Tryz.ntmps41
 go_wp2_with fail
 go_loopg [11] n (λgg vi wr=>zpU w.heap.size L (w.alloc (.map #[] 0)) gg vi wr)
 case atStart =>
  exact⟨0,rfl,by rw[HN.out];omega,AV _,by rw[Ba];exact MapE.made mkSet w,Chg.refl _ _⟩
 case round =>
  obtain⟨j,rfl,kY,hj,hm,hc⟩:=hrel;have HM:=CS hm;have HC:=CS hc;rw[HN.out]at kY hj
  clear hm hc;by_cases pQ:j<n
  ·have jU:j<L.length:=by rw[HN.out];exact pQ
   obtain⟨A,cp,au,aJ⟩:=H.out j jU;have uX:wr.heap[g]?=w.heap[g]?:=(HC.out.block g (by simp;omega) (by unfold only;omega)).trans (Below.heap_alloc _ _ _ hg);have hx0:wr.cell? ⟨g,j,none⟩=some (.slice A L[j].length cp):=(World.cell?_of_block (w:=w) (a:=⟨g,j,none⟩) uX).trans au;obtain⟨m,hm⟩:∃m,L[j].length=m:=⟨_,rfl⟩;have dp:m<=10000000:=by have:=ziq L j m jU;have:=HF.out;rw[Ap,Bc,hm]at *;omega
   have jE:=CS hm;have HR:=CS aJ;rw[hm]at hx0
   have gk_old:=kY;clear au uX aJ hm;go_wp2_with fail
   go_loopg [17] m (λgg vi wr'=>zqg w.heap.size (L.take j).flatten L[j] (w.alloc (.map #[] 0)) gg vi wr')
   case atStart =>
    exact⟨0,rfl,by rw[jE.out];omega,AV _,by rw[Ba,AU];exact HM.out,HC.out⟩
   case round =>
    obtain⟨i,rfl,hgi,hi,cB,cw⟩:=hrel;have gD:=CS cB;have qB:=CS cw;rw[jE.out]at hgi hi
    clear cB cw;by_cases ah:i<m
    ·have mT:i<L[j].length:=by rw[jE.out];exact ah
     obtain⟨A',c',hv,hp⟩:=HR.out;obtain⟨g2,tw,iK,fX⟩:=hp (by rw[znv];omega);injection hv with hv _ dK;rw[tw]at hv
     subst hv;have xH:=(qB.out.block g2 (by simp;omega) (by unfold only;omega)).trans (Below.heap_alloc w (.map #[] 0) g2 iK);obtain⟨y,hy⟩:∃y,L[j][i]=y:=⟨_,rfl⟩;have hx:=fX i _ (znN L[j] i mT);rw[<-World.cell?_of_block (w:=w) (a:=⟨g2,i,none⟩) xH]at hx
     have bT:L[j][i].length<=maxLen:=HL.out _ (List.mem_flatten.2 ⟨_,Bd jU,Bd mT⟩);have fm:Hid (L[j].take (i+1)=L[j].take i++[y]):=CS (by rw[Bn mT,hy]);rw[hy]at hx bT
     clear hy;obtain⟨X,hX⟩:∃X:ByteArray,(⟨y.toArray⟩:ByteArray)=X:=⟨_,rfl⟩;have rN:Hid (X.data.toList=y):=CS (by rw[<-hX]);have HX:Hid (X.size<=maxLen):=CS (by rw[<-hX];show y.toArray.size<=maxLen;rw[Bf];exact bT);have HUL:Hid ((units ((L.take j).flatten++L[j].take i)).length<1000000000):=CS (by have:=ziq L j i jU;have:=HF.out;unfold units;rw[AR,BU];omega);rw[hX]at hx
     clear fX xH hX hp tw dK mT bT;go_wp2_with (at_mapUpdate;refine zcT mkSet _ rfl _ _ _ rfl w.heap.size (units ((L.take j).flatten++L[j].take i)) rfl gD.out HUL.out X HX.out rfl () trivial rfl ?_;intro w1 aX aY;have dH:=CS aX;have oT:=CS aY;clear aX aY)
     go_roundg (m-(i+1))
     case measure=>omega
     case rel =>
      refine⟨i+1,by go_num,by rw[jE.out],by rw[jE.out];omega,?_,qB.out.grown oT.out (λk hk=>.inr (by injection hk with hk;exact hk.symm))⟩;rw[fm.out,<-Bj,zf4,<-rN.out]
      exact dH.out
    ·have aU:L[j].take i=L[j]:=AK (by rw[jE.out];omega)
     have HE:=CS aU;clear aU;go_wp2_with fail
     go_roundg (n-(j+1))
     case measure=>omega
     case rel =>
      refine⟨j+1,by go_num,by rw[HN.out],by rw[HN.out];omega,?_,qB.out⟩;have:=gD.out;rw[HE.out]at this
      rw[zhh L j jU]
      exact this
  ·have aU:L.take j=L:=AK (by have:=HN.out;omega)
   have HE:=CS aU;clear aU;go_wp2_with fail
   go_ret
   refine⟨rfl,by have:=HM.out;rw[HE.out]at this;exact this,((Below.refl _ w).alloc (Ai _) _).trans (HC.out.toBelow (by simp) (λk hk h=>by unfold only at h;omega))⟩
theorem zir(L:List (List Name))(g c:Nat)(w:World)(h:zlS w g L)(hg:g<w.heap.size)(hl:∀x∈L.flatten,x.length<=24)(hlen:L.flatten.length<=10000000)(hL:L.length<=1000):Calls Tryz.prog 41 #[.slice (some ⟨g,0,none⟩) L.length c] w λe w'=>e=.returned (.map (some w.heap.size))/\MapE mkSet w' w.heap.size (units L.flatten)/\Below w.heap.size w w' :=
 zpc L g c w h hg (λx hx=>AB (hl x hx) (by unfold maxLen;omega)) hlen hL
end Go.Proofs.YtfafilmklhnngaaGreatDoor
namespace Go.Proofs.YtfafilmklhnngaaGreatDoor
open Go.RowKit Lx Tx Go.Maps Go.WideMaps Go.Shelf
set_option maxRecDepth 100000
def noteName:Ty->List Name->List Name
 |.var x,s=>addN x s
 |.all x _,s=>addN x s
 |_,s=>s
theorem zeB(t:Ty)(s:List Name):((kd t:Int)==1)=true/\noteName t s=addN (nmB t).data.toList s\/((kd t:Int)==1)=false/\((kd t:Int)==5)=true/\noteName t s=addN (nmB t).data.toList s\/((kd t:Int)==1)=false/\((kd t:Int)==5)=false/\noteName t s=s:=by
 cases t with
 |var x=>exact .inl ⟨rfl,rfl⟩
 |mt n=>exact .inr (.inr ⟨rfl,rfl,rfl⟩)
 |con c l=>exact .inr (.inr ⟨rfl,rfl,rfl⟩)
 |fn a b=>exact .inr (.inr ⟨rfl,rfl,rfl⟩)
 |all x t=>exact .inr (.inl ⟨rfl,rfl,rfl⟩)
def atName(_:List Name)(t:Ty)(s:List Name):List Name:=noteName t s
theorem zkI(b mb:Nat):Vis 155 #[.pointer (some ⟨b+4,0,none⟩)] mb (NoteI b) atName:=by
 intro c s M env t S v w hi _ _ hv hS az _ hc;obtain⟨M0,hM,bm,af,an⟩:=hi;obtain⟨K,X,Z,A,m,cp,rfl,hK,hX,-,-,-⟩:=hv.parts;have hw:=zeB t s;rw[<-hK,<-hX]at hw
 have bT:X.size<=24:=by have:=zbo az;rw[<-hX]at this;exact this
 have bz:Hid (Below w.heap.size w (w.alloc (.cells #[.int .i64 K,.string X,.int .i64 Z,.slice A m cp] 37))):=CS ((Below.refl _ w).alloc (Ai _) _);obtain⟨y0,-,l0⟩:=zad an;have H1:=CS ((OnceI.inv b).keep _ _ _ _ (w.alloc (.cells #[.int .i64 K,.string X,.int .i64 Z,.slice A m cp] 37)) bm (by simp) (λg hg=>Below.heap_alloc _ _ _ (bm.all g hg)));have ek:∀args w,(callFunc 132 args).run Tryz.prog w=.ok (.enter 132 args) w:=enters_of Tryz.func132 (by kernel_rfl) rfl;have HM:=CS hM;have cH:=CS af;have eJ:=CS (an.below bz.out l0);obtain⟨s',dP⟩:∃s',noteName t s=s':=⟨_,rfl⟩;rw[dP]at hw
 rw[show atName env t s=noteName t s from rfl,dP]
 clear hK hX hv az bm hM af an dP hS;unfold zbJ at y0;rcases hw with⟨d1,hr⟩|⟨d1,d5,hr⟩|⟨d1,d5,rfl⟩
 ·have HR:=CS hr
  clear hr;go_enter Tryz.func155,Tryz.ntmps155
  go_wp2_with fail
  refine(zgK b c s M0 X _ H1.out bT hc).mono ?_;rintro e w' ⟨rfl,M',i',fi,c'⟩;have HF:=CS (NoteI.next HM.out cH.out eJ.out i' fi c' bz.out);clear i' fi c';go_wp2_with fail
  first|go_end0|refine bodyPost_ret (results_none rfl _ _ _) rfl ?_
  rw[HR.out]
  exact⟨rfl,HF.out⟩
 ·have HR:=CS hr
  clear hr;go_enter Tryz.func155,Tryz.ntmps155
  go_wp2_with fail
  refine(zgK b c s M0 X _ H1.out bT hc).mono ?_;rintro e w' ⟨rfl,M',i',fi,c'⟩;have HF:=CS (NoteI.next HM.out cH.out eJ.out i' fi c' bz.out);clear i' fi c';go_wp2_with fail
  first|go_end0|refine bodyPost_ret (results_none rfl _ _ _) rfl ?_
  rw[HR.out]
  exact⟨rfl,HF.out⟩
 ·go_enter Tryz.func155,Tryz.ntmps155
  go_wp2_with fail
  first|go_end0|refine bodyPost_ret (results_none rfl _ _ _) rfl ?_
  exact⟨rfl,NoteI.next HM.out cH.out eJ.out ((OnceI.inv b).mono _ _ _ _ _ H1.out (by omega)) (λg hg=>.inl hg) (Chg.refl M0 _) bz.out⟩
theorem zlP(K:Int)(X:ByteArray)(Z:Int)(A:Option Addr)(m c:Nat)(w:World):Calls Tryz.prog 156 #[.agg #[.int .i64 K,.string X,.int .i64 Z,.slice A m c]] w λe w'=>e=.returned (.tuple #[])/\Below w.heap.size w w':=by
 go_enter Tryz.func156,Tryz.ntmps156
 go_wp2
 first|go_end0|refine bodyPost_ret (results_none rfl _ _ _) rfl ?_
 exact⟨rfl,(Below.refl _ w).alloc (Ai _) _⟩
def zaF(t:Ty):List Name:=thr atName (λ_ _ s=>s) [] t []
theorem znK(t:Ty)(S:Nat->Prop)(v:Value)(w:World)(hv:RdV S w t v)(hS:∀g,S g->g<w.heap.size)(az:Nm t)(aD:t.size<=1000000):Calls Tryz.prog 113 #[v] w λe w'=>∃A cp,e=.returned (.slice A (zaF t).length cp)/\w'.ownsRow w.heap.size 9 1 (.slice A (zaF t).length cp) (zaF t).length (strV (zaF t))/\(zaF t).length<=2000000/\Below w.heap.size w w':=by
 obtain⟨K,X,Z,A,m,cp,rfl,-,-,-,-,-⟩:=hv.parts;have iI:∀(fn:Fn) (first cap:Array Value) (w:World),(Instr.makeFunc fn first cap).run Tryz.prog w=.ok (.func fn first cap) w:=λ_ _ _ _=>rfl;have dY:∀w,(Instr.makeMap 116 none).run Tryz.prog w=.ok (.map (some w.heap.size)) (w.alloc (.map #[] 0)):=λ_=>rfl;have HV:=CS hv;have HS:=CS hS;have bK:=CS az;clear hv hS az;go_enter Tryz.func113,Tryz.ntmps113
 go_wp2_with fail
 obtain⟨h1,h2,bk,bJ⟩:=zaZ w (.cells #[.int .i64 K,.string X,.int .i64 Z,.slice A m cp] 37) (.cells #[.slice none 0 0] 95);refine(zf5 (w.heap.size+1) _ bk h2).mono ?_;rintro e w1 ⟨rfl,ho,aF,b1⟩;have cg:=bJ.trans (b1.mono (by omega));have iG:Blk w1 w.heap.size 37 #[.int .i64 K,.string X,.int .i64 Z,.slice A m cp]:=Blk.below h1 b1 (by omega);obtain⟨p0,p1,p2,p3,s0,s1,s2,s3,di⟩:=zaa iG;have HO:=CS ho;have fL:=CS aF;have fp:=CS cg;clear h1 h2 bk bJ ho aF b1 cg iG;unfold zbJ;go_wp2_with fail
 have aF:=fL.out;obtain⟨k1,k2,ks,kb⟩:=zaZ w1 (.cells #[zbJ (w.heap.size+1)] 156) (.map #[] 0);have dw:Below w.heap.size w ((w1.alloc (.cells #[zbJ (w.heap.size+1)] 156)).alloc (.map #[] 0)):=fp.out.trans (kb.mono (by have:=fp.out.size;omega));have cT:Blk ((w1.alloc (.cells #[zbJ (w.heap.size+1)] 156)).alloc (.map #[] 0)) (w.heap.size+1+4) 156 #[zbJ (w.heap.size+1)]:=by rw[<-aF];exact k1
 have hle:=zjQ t.size 155 156 #[.pointer (some ⟨w.heap.size+1+4,0,none⟩)] #[] (w1.heap.size+1) (NoteI (w.heap.size+1)) atName (λ_ _ s=>s) (NoteI.inv _)
  (enters_of Tryz.func155 (by kernel_rfl) rfl) (enters_of Tryz.func156 (by kernel_rfl) rfl) (zkI _ _) (zim 156 _ _ (NoteI.inv _) zlP)
  0 [] (λg=>(w.heap.size+1<=g/\g<=w.heap.size+1+3)\/g=w.heap.size+1+4) [] t S _ _ (Ai _) aD
  ⟨_,λg=>Iff.rfl,(OnceI.inv _).keep _ _ _ _ _ HO.out kb.size (λg hg=>kb.block g (HO.out.all g hg)),by omega,cT⟩ (MapE.laid mkInt k2) (by omega)
  (HV.out.keep (λ_ h=>h) (λg hg=>dw.block g (HS.out g hg))) (λg hg=>⟨by have:=HS.out g hg;have:=dw.size;omega,by have:=HS.out g hg;omega,by have:=HS.out g hg;omega⟩) bK.out (by omega) (by simp;omega) trivial
 unfold fnV at hle;rw[<-aF]at hle
 refine hle.mono ?_;rintro e w3 ⟨rfl,M',⟨M0,-,gy,-,-⟩,-,fi,c3⟩;obtain⟨A3,rK,iu,aj,-⟩:=gy.row;obtain⟨q0,q1,q2⟩:=zad iu;have hlen:=gy.len;have HB:=CS (dw.trans (c3.toBelow (B:=w.heap.size) (by have:=dw.size;omega) (λk hk h=>by omega)));have ay:=CS (zcn aj (show w.heap.size<=w.heap.size+1+4 by omega));have dU:=CS (show(zaF t).length<=2000000 by unfold zaF;omega);clear hle dw cT aF gy iu fi c3 aj hlen HO k1 k2 ks kb;replace q0:w3.cell? ⟨w.heap.size+1,0,none⟩=some (.slice A3 (zaF t).length rK):=q0;go_wp2_with fail
 go_ret
 exact⟨A3,rK,rfl,ay.out,dU.out,HB.out⟩
def IsPl(kp:Nat)(cp:Array Value)(J:World->Prop)(ak:Ty->Bool):Prop :=
 ∀(t:Ty) (S:Nat->Prop) (v:Value) (w:World),J w->RdV S w t v->(∀g,S g->g<w.heap.size)->kd t=1\/kd t=2->Nm t ->
  Calls Tryz.prog kp (#[v]++cp) w λe w'=>e=.returned (.bool (ak t))/\Below w.heap.size w w'
structure Pl where
 ar:List Nat
 wi:List Nat
 al:Nat
def plCome(ak:Ty->Bool)(env:List Name)(t:Ty)(s:Pl):Pl :=
 if kd t=5 then⟨s.ar++[s.wi.length],s.wi++[s.al],s.al⟩ else if isLf env t=true/\ak t=true then⟨s.ar,s.wi,s.al+1⟩ else s
def plLeave(_:List Name)(t:Ty)(s:Pl):Pl :=
 if kd t=5 then⟨s.ar.take (s.ar.length-1),s.wi.set (s.ar.getD (s.ar.length-1) 0) (s.al-s.wi.getD (s.ar.getD (s.ar.length-1) 0) 0),s.al⟩ else s
def plOK(_:List Name)(t:Ty)(s:Pl):Prop:=kd t=5->s.ar≠[]/\s.ar.getD (s.ar.length-1) 0<s.wi.length/\s.wi.getD (s.ar.getD (s.ar.length-1) 0) 0<=s.al
theorem zcV(ak:Ty->Bool)(env:List Name)(t:Ty)(s:Pl)(h:kd t=5):plCome ak env t s=⟨s.ar++[s.wi.length],s.wi++[s.al],s.al⟩:=Aq h
theorem zlV(ak:Ty->Bool)(n:Nat):∀(t:Ty)(env:List Name)(s:Pl),t.size<=n->(∀a∈s.ar,a<s.wi.length/\s.wi.getD a 0<=s.al) ->
  WfT plOK (plCome ak) plLeave env t s/\(thr (plCome ak) plLeave env t s).ar=s.ar/\s.wi.length<=(thr (plCome ak) plLeave env t s).wi.length/\s.al<=(thr (plCome ak) plLeave env t s).al/\∀a,a<s.wi.length->(thr (plCome ak) plLeave env t s).wi.getD a 0=s.wi.getD a 0:=by
 induction n with
 |zero=>intro t env s h;rw[zaj]at h;omega
 |succ n ih =>
  intro t env s h hs;have ew:∀i (hi:i<(kids t).length),(kids t)[i].size<=n:=λi hi=>by have:=zc9 t i hi;omega
  have hL:∀(l:List Ty) (bA:List Name) (s':Pl),(∀u∈l,u.size<=n)->(∀a∈s'.ar,a<s'.wi.length/\s'.wi.getD a 0<=s'.al) ->
    (∀i u,(∃hi:i<l.length,l[i]=u)->WfT plOK (plCome ak) plLeave bA u (thrL (plCome ak) plLeave bA (l.take i) s'))/\(thrL (plCome ak) plLeave bA l s').ar=s'.ar/\s'.wi.length<=(thrL (plCome ak) plLeave bA l s').wi.length/\s'.al<=(thrL (plCome ak) plLeave bA l s').al /\
     ∀a,a<s'.wi.length->(thrL (plCome ak) plLeave bA l s').wi.getD a 0=s'.wi.getD a 0:=by
   intro l;induction l with
   |nil =>
    intro bA s' _ _;refine⟨λi u hu=>?_,by rw[thrL],by rw[thrL];exact Ai _,by rw[thrL];exact Ai _,λa _=>by rw[thrL]⟩;obtain⟨hi,_⟩:=hu;exact absurd hi (Nat.not_lt_zero _)
   |cons u r ihr =>
    intro bA s' aD fT;obtain⟨k1,k2,k3,k4,k5⟩:=ih u bA s' (aD u Ay) fT;have hok2:∀a∈(thr (plCome ak) plLeave bA u s').ar,a<(thr (plCome ak) plLeave bA u s').wi.length/\(thr (plCome ak) plLeave bA u s').wi.getD a 0<=(thr (plCome ak) plLeave bA u s').al:=λa ha=>by
     rw[k2]at ha
     have:=fT a ha;exact⟨by omega,by rw[k5 a this.1];omega⟩
    obtain⟨j1,j2,j3,j4,j5⟩:=ihr bA (thr (plCome ak) plLeave bA u s') (λx hx=>aD x (Ar _ hx)) hok2;rw[thrL]
    refine⟨λi x hx=>?_,by rw[j2,k2],by omega,by omega,λa ha=>by rw[j5 a (by omega),k5 a ha]⟩;obtain⟨hi,hx⟩:=hx;cases i with
    |zero =>
     rw[Ba,thrL]
     rw[<-hx]
     exact k1
    |succ i =>
     rw[AZ,thrL]
     exact j1 i x ⟨by simpa using hi,by rw[<-hx];rfl⟩
  have gZ:∀u∈kids t,u.size<=n:=λu hu=>by
   obtain⟨i,hi,rfl⟩:=AS.1 hu;exact ew i hi
  by_cases h5:kd t=5
  ·have hc:=zcV ak env t s h5
   have hok1:∀a∈(plCome ak env t s).ar,a<(plCome ak env t s).wi.length/\(plCome ak env t s).wi.getD a 0<=(plCome ak env t s).al:=by
    rw[hc]
    intro a ha;simp only[Ap,List.length_singleton];rcases AA.1 ha with ha|ha
    ·have:=hs a ha
     refine⟨by omega,?_⟩;rw[AO,Bm this.1,<-AO]
     exact this.2
    ·have ha:a=s.wi.length:=by simpa using ha
     subst ha;refine⟨by omega,?_⟩;simp
   obtain⟨j1,j2,j3,j4,j5⟩:=hL (kids t) (envOf env t) (plCome ak env t s) gZ hok1;rw[zee]
   generalize hq:thrL (plCome ak) plLeave (envOf env t) (kids t) (plCome ak env t s)=q at *;rw[hc]at j2 j3 j4 j5
   simp only[Ap,List.length_singleton]at j2 j3 j4 j5;have mY:q.ar.getD (q.ar.length-1) 0=s.wi.length:=by rw[j2];simp
   have hv:=j5 s.wi.length (by omega);have dK:q.wi.getD s.wi.length 0=s.al:=by rw[hv];simp
   refine⟨.mk _ _ _ (λi u hu=>j1 i u hu) ?_,?_,?_,?_,?_⟩
   ·rw[hq]
    intro _;exact⟨by rw[j2];simp,by rw[mY];omega,by rw[mY,dK];omega⟩
   ·rw[plLeave,Aq h5,j2]
    simp
   ·rw[plLeave,Aq h5]
    simp only[CK];omega
   ·rw[plLeave,Aq h5]
    exact j4
   ·intro a ha
    rw[plLeave,Aq h5,mY]
    show(q.wi.set s.wi.length _).getD a 0=_;rw[AO,List.getElem?_set_ne (by omega),<-AO,j5 a (by omega),AO,Bm ha,<-AO]
  ·have hc:(plCome ak env t s).ar=s.ar/\(plCome ak env t s).wi=s.wi/\s.al<=(plCome ak env t s).al:=by
    rw[plCome,Am h5]
    split
    ·exact⟨rfl,rfl,BT _⟩
    ·exact⟨rfl,rfl,Ai _⟩
   obtain⟨c1,c2,c3⟩:=hc;obtain⟨j1,j2,j3,j4,j5⟩:=hL (kids t) (envOf env t) (plCome ak env t s) gZ (λa ha=>by rw[c1]at ha;rw[c2];have:=hs a ha;exact⟨this.1,by omega⟩);rw[zee]
   have hl:∀q:Pl,plLeave env t q=q:=λq=>by rw[plLeave,Am h5]
   rw[hl]
   rw[c2]at j3 j5
   exact⟨.mk _ _ _ (λi u hu=>j1 i u hu) (λh=>absurd h h5),by rw[j2,c1],j3,by omega,j5⟩
def NumsAt(w:World)(B q:Nat)(l:List Nat)(A:Option Addr)(c:Nat):Prop :=
 Blk w q 61 #[.slice A l.length c]/\w.ownsRow B 3 1 (.slice A l.length c) l.length (intV l)
theorem NumsAt.keep {w w':World} {B q:Nat} {l:List Nat} {A:Option Addr} {c:Nat}(h:NumsAt w B q l A c)(h1:w'.heap[q]?=w.heap[q]?)(h2:∀a,A=some a->w'.heap[a.block]?=w.heap[a.block]?):NumsAt w' B q l A c :=
 ⟨h.1.same h1,zaY h.2 h2⟩
structure PlI (b kp:Nat) (cp:Array Value) (J:World->Prop) (KJ:Nat->Prop) (c:Nat) (s:Pl) (M:Nat->Prop) (w:World):Prop where
 isp:Blk w b 58 #[fnV kp cp]
 num:Blk w (b+1) 3 #[.int .i64 (s.al:Nat)]
 cel:Blk w (b+4) 116 #[.map (some (b+3))]
 nums:∃A1 c1 A2 c2,NumsAt w (b+6) (b+5) s.ar A1 c1/\NumsAt w (b+6) (b+2) s.wi A2 c2/\(∀a,A1=some a->M a.block)/\(∀a,A2=some a->M a.block)/\∀a a',A1=some a->A2=some a'->a.block≠a'.block
 low:M b/\M (b+1)/\M (b+2)/\M (b+4)/\M (b+5)
 jj:J w
 kj:∀g,KJ g->M g/\g<b
 all:∀g,M g->g<w.heap.size
 len:s.ar.length<=c/\s.wi.length<=c/\s.al<=c
theorem PlI.inv(b kp:Nat)(cp:Array Value)(J:World->Prop)(KJ:Nat->Prop)(hJ:∀w w',J w->(∀g,KJ g->w'.heap[g]?=w.heap[g]?)->J w'):Inv (PlI b kp cp J KJ) where
 mono c c' s M w h hc:={ h with len:=by have:=h.len;omega }
 lt c s M w h:=h.all
 keep c s M w w' h hs hk :=
  {isp:=h.isp.same (hk _ h.low.1)
   num:=h.num.same (hk _ h.low.2.1)
   cel:=h.cel.same (hk _ h.low.2.2.2.1)
   nums:=by
    obtain⟨A1,c1,A2,c2,h1,h2,h3,h4,h5⟩:=h.nums;exact⟨A1,c1,A2,c2,h1.keep (hk _ h.low.2.2.2.2) (λa ha=>hk _ (h3 a ha)),h2.keep (hk _ h.low.2.2.1) (λa ha=>hk _ (h4 a ha)),h3,h4,h5⟩
   low:=h.low
   jj:=hJ w w' h.jj (λg hg=>hk g (h.kj g hg).1)
   kj:=h.kj
   all:=λg hg=>As (h.all g hg) hs
   len:=h.len }
end Go.Proofs.YtfafilmklhnngaaGreatDoor
namespace Go.Proofs.YtfafilmklhnngaaGreatDoor
open Go.RowKit Lx Tx Go.Maps Go.WideMaps Go.Shelf
set_option maxRecDepth 100000
theorem znP(t:Ty)(env:List Name)(h:isLf env t=true):kd t=1\/kd t=2:=by
 cases t with
 |var x=>exact .inl rfl
 |mt n=>exact .inr rfl
 |con c l=>cases h
 |fn a b=>cases h
 |all x t=>cases h
theorem zis(b kp:Nat)(cp:Array Value)(J:World->Prop)(KJ:Nat->Prop)(c:Nat)(s:Pl)(M:Nat->Prop)(K Z:Int)(X:ByteArray)(A:Option Addr)(m cq:Nat)(w:World)(d5:((K:Int)==5)=true)(hJ:∀w w',J w->(∀g,KJ g->w'.heap[g]?=w.heap[g]?)->J w')(hi:PlI b kp cp J KJ c s M w)(hc:c<10000000):Calls Tryz.prog 153 #[.agg #[.int .i64 K,.string X,.int .i64 Z,.slice A m cq],.pointer (some ⟨b+5,0,none⟩),.pointer (some ⟨b+2,0,none⟩),.pointer (some ⟨b+1,0,none⟩),.pointer (some ⟨b+4,0,none⟩),.pointer (some ⟨b,0,none⟩)] w λe w' =>
   e=.returned (.tuple #[])/\∃M',PlI b kp cp J KJ (c+1) ⟨s.ar++[s.wi.length],s.wi++[s.al],s.al⟩ M' w'/\(∀g,M' g->M g\/w.heap.size<=g)/\Chg M w w':=by
 obtain⟨hip,cA,lj,⟨A1,c1,A2,c2,⟨ha,nJ⟩,⟨hw,bh⟩,rI,oM,af⟩,aZ,hjj,re,aL,cg,dw,fH⟩:=hi;obtain⟨ar,wi,al⟩:=s;obtain⟨i0,bm,bO,bD,bj⟩:=info_parts zeg;simp only at cA ha nJ hw bh cg dw fH ⊢;obtain⟨n1,gH⟩:∃n1,ar.length=n1:=⟨_,rfl⟩;obtain⟨n2,fw⟩:∃n2,wi.length=n2:=⟨_,rfl⟩;rw[gH]at ha nJ cg
 rw[fw]at hw bh dw
 obtain⟨x0,x1,x2⟩:=zad cA;obtain⟨y0,y1,y2⟩:=zad ha;obtain⟨z0,z1,z2⟩:=zad hw;have HIP:=CS hip;have og:=CS cA;have zV:=CS lj;have HAR:=CS ha;have zZ:=CS ((nJ.alloc (.cells #[.int .i64 K,.string X,.int .i64 Z,.slice A m cq] 37)).alloc (.cells #[.int .i64 (n2:Nat)] 3));have vy:=CS hw;have fB:=CS bh;have HA1:=CS rI;have z8:=CS oM;have cH:=CS af;have eF:=CS aZ;have HJ:=CS hjj;have oS:=CS re;have eG:=CS aL;have kf:=CS gH;have iB:=CS fw;clear hip cA lj ha nJ hw bh rI oM af aZ hjj re aL gH fw;go_enter Tryz.func153,Tryz.ntmps153
 go_wp2_with (first|(at_builtin;refine wpList_append_own_at _ rfl (.tmp 10) (.tmp 13) 61 rfl (b+6) 3 i0 _ 1 8 Tryz.underlying61 bm bO bD bj rfl (by decide) _ n1 (intV ar) rfl zZ.out ⟨w.heap.size+1,0,none⟩ 1 1 [.int .i64 (n2:Nat)] rfl rfl (zas _ _ _ _ (by simp)) (by intro u hu;simp at hu;subst hu;rfl) (by unfold maxLen;omega) (by omega) (by simp;omega) ?_;intro v3 w3 aj gz _ aS;obtain⟨A3,c3,rfl⟩:=zam aj;have cV:=CS aj;have bg:=CS gz;have eR:=CS aS;have cY:w.heap.size+2<=w3.heap.size:=(by have:=gz.size;simp at this;omega);have eM:∀k,k<w.heap.size->some k≠(Value.slice A1 n1 c1).ownBlock->w3.heap[k]?=w.heap[k]?:=(λk hk af=>(gz.block k (by simp;omega) af).trans ((Below.heap_alloc _ _ _ (by simp;omega)).trans (Below.heap_alloc _ _ _ hk)));have eL:∀k,k<w.heap.size->k<b+6->w3.heap[k]?=w.heap[k]?:=(λk hk hb=>eM k hk (λe=>by have:=(zZ.out.lt k e.symm).1;omega));have cU:=HAR.out.same (eL (b+5) y2 (by omega));have h32:=vy.out.same (eL (b+2) z2 (by omega));have h31:=og.out.same (eL (b+1) x2 (by omega));obtain⟨r0,r1,r2⟩:=zad cU;obtain⟨s0,s1,s2⟩:=zad h32;obtain⟨t0,t1,t2⟩:=zad h31;have H35:=CS cU;have H32:=CS h32;have H31:=CS h31;have HK3:=CS eM;have HK6:=CS eL;have y8:Hid (((w3.setCell ⟨b+5,0,none⟩ (.slice A3 (n1+1) c3)).alloc (.cells #[.int .i64 (al:Nat)] 3)).ownsRow (b+6) 3 1 (.slice A2 n2 c2) n2 (intV wi)):=CS (zaY fB.out (λa ha=>by
    have q1:=(fB.out.lt a.block (by rw[ha];rfl)).1;have q2:=eG.out _ (z8.out a ha);exact(Below.heap_alloc _ _ _ (by simp;omega)).trans ((Below.heap_setCell w3 ⟨b+5,0,none⟩ _ a.block (by show a.block≠b+5;omega)).trans (eM a.block q2 (λe=>by
     cases hA:A1 with
     |none=>rw[hA]at e;cases e
     |some a1=>rw[hA]at e;injection e with e;exact cH.out a1 a hA ha e.symm)))));clear aj gz aS eM eL cU h32 h31)|(at_builtin;refine wpList_append_own_at _ rfl (.tmp 15) (.tmp 17) 61 rfl (b+6) 3 i0 _ 1 8 Tryz.underlying61 bm bO bD bj rfl (by decide) _ n2 (intV wi) rfl y8.out ⟨w3.heap.size,0,none⟩ 1 1 [.int .i64 (al:Nat)] rfl rfl (zas _ _ _ _ (by simp)) (by intro u hu;simp at hu;subst hu;rfl) (by unfold maxLen;omega) (by omega) (by simp;omega) ?_;intro v5 w5 cz jo _ pX;obtain⟨A5,c5,rfl⟩:=zam cz;have ke:=CS cz;have om:=CS jo;have HT5:=CS pX;have eL:∀k,k<w.heap.size->k<b+6->k≠b+5->w5.heap[k]?=w.heap[k]?:=(λk hk hb af=>(jo.block k (by simp;omega) (λe=>by have:=(y8.out.lt k e.symm).1;omega)).trans ((Below.heap_alloc _ _ _ (by simp;omega)).trans ((Below.heap_setCell w3 ⟨b+5,0,none⟩ _ k af).trans (HK6.out k hk hb))));have h52:=vy.out.same (eL (b+2) z2 (by omega) (by omega));obtain⟨k0,k1,k2⟩:=zad h52;have H52:=CS h52;have HK56:=CS eL;clear cz jo pX eL h52))
 first|go_end0|refine bodyPost_ret (results_none rfl _ _ _) rfl ?_
 obtain⟨g3,q3,e3,im,hgl3⟩:=cV.out.form (by omega);injection e3 with e3 _ e3';subst e3 e3';obtain⟨g5,q5,e5,hg5,hgl5⟩:=ke.out.form (by omega);injection e5 with e5 _ e5';subst e5 e5';have rI:∀q,some q=(Value.slice A1 n1 c1).ownBlock->M q/\b+6<=q:=λq hq=>by
  refine⟨?_,(zZ.out.lt q hq.symm).1⟩;cases hA:A1 with
  |none=>rw[hA]at hq;cases hq
  |some a=>rw[hA]at hq;injection hq with hq;rw[hq];exact HA1.out a hA
 have oM:∀q,some q=(Value.slice A2 n2 c2).ownBlock->M q/\b+6<=q:=λq hq=>by
  refine⟨?_,(fB.out.lt q hq.symm).1⟩;cases hA:A2 with
  |none=>rw[hA]at hq;cases hq
  |some a=>rw[hA]at hq;injection hq with hq;rw[hq];exact z8.out a hA
 have hA12:∀q,some q=(Value.slice A1 n1 c1).ownBlock->some q≠(Value.slice A2 n2 c2).ownBlock:=λq h1 h2=>by
  cases hA:A1 with
  |none=>rw[hA]at h1;cases h1
  |some a =>
   cases hB:A2 with
   |none=>rw[hB]at h2;cases h2
   |some a' =>
    rw[hA]at h1
    rw[hB]at h2
    injection h1 with h1;injection h2 with h2;exact cH.out a a' hA hB (by omega)
 have lC:some g3=(Value.slice A1 n1 c1).ownBlock\/g3=w.heap.size+2:=by
  rcases eR.out with h|h
  ·exact .inl h
  ·right
   have:(some g3:Option Nat)=some _:=h;injection this with this;rw[this];simp
 have hT5:some g5=(Value.slice A2 n2 c2).ownBlock\/g5=w3.heap.size+1:=by
  rcases HT5.out with h|h
  ·exact .inl h
  ·right
   have:(some g5:Option Nat)=some _:=h;injection this with this;rw[this];simp
 have xL:some g3≠(Value.slice A2 n2 c2).ownBlock:=λh=>by
  rcases lC with h3|h3
  ·exact hA12 g3 h3 h
  ·have:=eG.out g3 (oM g3 h).1
   omega
 have xf:g3≠g5:=λe=>by
  rcases hT5 with h5|h5
  ·exact xL (e▸h5)
  ·omega
 have aO:∀k,k<w3.heap.size->k≠b+5->some k≠(Value.slice A2 n2 c2).ownBlock->w5.heap[k]?=w3.heap[k]?:=λk h1 h2 h3=>(om.out.block k (by simp;omega) h3).trans ((Below.heap_alloc _ _ _ (by simp;exact h1)).trans (Below.heap_setCell w3 ⟨b+5,0,none⟩ _ k h2));have hf:∀k,k≠b+2->(w5.setCell ⟨b+2,0,none⟩ (.slice (some ⟨g5,0,none⟩) (n2+1) c5)).heap[k]?=w5.heap[k]?:=λk hk=>Below.heap_setCell w5 ⟨b+2,0,none⟩ _ k hk;have aD:(w5.setCell ⟨b+2,0,none⟩ (.slice (some ⟨g5,0,none⟩) (n2+1) c5)).heap.size=w5.heap.size:=by simp
 have ej:w3.heap.size+1<=w5.heap.size:=by have:=om.out.size;simp at this;exact this
 have aP:Blk w5 (b+5) 61 #[.slice (some ⟨g3,0,none⟩) (n1+1) c3]:=(om.out.block (b+5) (by simp;omega) (λh=>by have:=(oM _ h).2;omega)).trans ((Below.heap_alloc _ _ _ (by simp;omega)).trans (one_setCell H35.out));have aH:=HK56.out;refine⟨rfl,λg=>M g\/g=g3\/g=g5,⟨HIP.out.same ((hf b (by omega)).trans (aH b (by omega) (by omega) (by omega))),og.out.same ((hf _ (by omega)).trans (aH _ x2 (by omega) (by omega))),zV.out.same ((hf _ (by omega)).trans (aH _ zV.out.lt (by omega) (by omega))),⟨some ⟨g3,0,none⟩,c3,some ⟨g5,0,none⟩,c5,⟨?_,?_⟩,⟨?_,?_⟩,?_,?_,?_⟩,?_,?_,?_,?_,?_⟩,?_,?_⟩
 ·rw[Ap,kf.out]
  exact(hf _ (by omega)).trans aP
 ·rw[Ap,kf.out,iB.out,show intV (ar++[n2])=intV ar++[.int .i64 (n2:Nat)] by simp[intV]]
  refine zaY cV.out (λa ha=>?_);injection ha with ha;rw[<-ha]
  exact(hf g3 (by omega)).trans (aO g3 hgl3 (by omega) xL)
 ·rw[Ap,iB.out]
  exact one_setCell H52.out
 ·rw[Ap,iB.out,show intV (wi++[al])=intV wi++[.int .i64 (al:Nat)] by simp[intV]]
  refine zaY ke.out (λa ha=>?_);injection ha with ha;rw[<-ha]
  exact hf g5 (by omega)
 ·intro a ha;injection ha with ha;rw[<-ha];exact .inr (.inl rfl)
 ·intro a ha;injection ha with ha;rw[<-ha];exact .inr (.inr rfl)
 ·intro a a' ha bP;injection ha with ha;injection bP with bP;rw[<-ha,<-bP];exact xf
 ·exact⟨.inl eF.out.1,.inl eF.out.2.1,.inl eF.out.2.2.1,.inl eF.out.2.2.2.1,.inl eF.out.2.2.2.2⟩
 ·exact hJ w _ HJ.out (λg hg=>(hf g (by have:=(oS.out g hg).2;omega)).trans (aH g (eG.out g (oS.out g hg).1) (by have:=(oS.out g hg).2;omega) (by have:=(oS.out g hg).2;omega)))
 ·exact λg hg=>⟨.inl (oS.out g hg).1,(oS.out g hg).2⟩
 ·intro g hg
  rw[aD]
  rcases hg with hg|rfl|rfl
  ·have:=eG.out g hg;omega
  ·omega
  ·omega
 ·simp only[Ap,List.length_singleton]
  rw[kf.out,iB.out]
  omega
 ·intro g hg
  rcases hg with hg|rfl|rfl
  ·exact .inl hg
  ·rcases lC with h|h
   ·exact .inl (rI _ h).1
   ·exact .inr (by omega)
  ·rcases hT5 with h|h
   ·exact .inl (oM _ h).1
   ·exact .inr (by omega)
 ·refine Chg.setCell ?_ (p:=⟨b+2,0,none⟩) (.inr eF.out.2.2.1) _
  refine Chg.grown ?_ om.out (λk hk=>.inr (oM k hk.symm).1);refine Chg.alloc ?_ _;refine Chg.setCell ?_ (p:=⟨b+5,0,none⟩) (.inr eF.out.2.2.2.2) _;exact((((Chg.refl M w).alloc _).alloc _).grown bg.out (λk hk=>.inr (rI k hk.symm).1))
set_option maxRecDepth 100000
theorem PlI.step {b kp:Nat} {cp:Array Value} {J:World->Prop} {KJ:Nat->Prop} {c:Nat} {s:Pl} {M:Nat->Prop} {w w':World}(hJ:∀w w',J w->(∀g,KJ g->w'.heap[g]?=w.heap[g]?)->J w')(h:PlI b kp cp J KJ c s M w)(hb:Below w.heap.size w w'):PlI b kp cp J KJ (c+1) s M w' :=
 (PlI.inv b kp cp J KJ hJ).mono _ _ _ _ _ ((PlI.inv b kp cp J KJ hJ).keep _ _ _ _ _ h hb.size (λg hg=>hb.block g (h.all g hg))) (BT _)
theorem zgL(b kp:Nat)(cp:Array Value)(J:World->Prop)(KJ:Nat->Prop)(ak:Ty->Bool)(hJ:∀w w',J w->(∀g,KJ g->w'.heap[g]?=w.heap[g]?)->J w')(ep:∀args w,(callFunc kp args).run Tryz.prog w=.ok (.enter kp args) w)(HP:IsPl kp cp J ak)
  (c:Nat)(s:Pl)(M:Nat->Prop)(env:List Name)(t:Ty)(S:Nat->Prop)(v:Value)(w:World)(h5:kd t≠5)(hi:PlI b kp cp J KJ c s M w)(hm:MapE mkInt w (b+3) (ones env))(hv:RdV S w t v)(hS:∀g,S g->g<w.heap.size/\¬M g)(az:Nm t)(hc:c<10000000):Calls Tryz.prog 153 #[v,.pointer (some ⟨b+5,0,none⟩),.pointer (some ⟨b+2,0,none⟩),.pointer (some ⟨b+1,0,none⟩),.pointer (some ⟨b+4,0,none⟩),.pointer (some ⟨b,0,none⟩)] w λe w' =>
   e=.returned (.tuple #[])/\∃M',PlI b kp cp J KJ (c+1) (plCome ak env t s) M' w'/\(∀g,M' g->M g\/w.heap.size<=g)/\Chg M w w':=by
 obtain⟨K,X,Z,A,m,cq,rfl,hK,-,-,-,-⟩:=hv.parts;have d5:((K:Int)==5)=false:=by rw[hK];exact kF _ 5 h5
 have bz:Below w.heap.size w (w.alloc (.cells #[.int .i64 K,.string X,.int .i64 Z,.slice A m cq] 37)):=(Below.refl _ w).alloc (Ai _) _;have hL:=zhe (b+3) env t S _ _ (hv.keep (λ_ h=>h) (λg hg=>bz.block g (hS g hg).1)) (hm.keep (bz.block _ hm.lt)) az;have aI:plCome ak env t s=if isLf env t=true/\ak t=true then⟨s.ar,s.wi,s.al+1⟩ else s:=Am h5
 obtain⟨s',dP⟩:∃s',plCome ak env t s=s':=⟨_,rfl⟩;rw[dP]at aI
 rw[dP]
 obtain⟨y0,-,l4⟩:=zad hi.cel;have mW:=znP t env;obtain⟨q,hq⟩:∃q,isLf env t=q:=⟨_,rfl⟩;rw[hq]at hL mW aI
 have dS:=CS aI;have HL:=CS hL;have HI:=CS hi;have HV:=CS hv;have HS:=CS hS;have bK:=CS az;have z6:=CS bz;clear hq aI dP hK hL hi hm hv hS az bz h5;go_enter Tryz.func153,Tryz.ntmps153
 go_wp2_with fail
 refine HL.out.mono ?_;rintro e w1 ⟨rfl,b1⟩;have aw:=z6.out.trans (b1.mono (by simp));have aF:=b1.size;simp at aF;have an:=Blk.below (heap_alloc_new w (.cells #[.int .i64 K,.string X,.int .i64 Z,.slice A m cq] 37)) b1 (by simp);obtain⟨p0,p1,p2,p3,u0,u1,u2,u3,di⟩:=zaa an;have bN:=CS aw;have I1:=CS (PlI.step hJ HI.out aw);obtain⟨i0,-,il⟩:=zad I1.out.isp;unfold fnV at i0;clear aw b1 an HL;cases q with
 |false =>
  go_wp2_with fail
  first|go_end0|refine bodyPost_ret (results_none rfl _ _ _) rfl ?_
  have aI:=dS.out;rw[Am (λh=>absurd h.1 (by decide))]at aI
  rw[aI]
  exact⟨rfl,M,I1.out,λg hg=>.inl hg,Chg.of_below bN.out⟩
 |true =>
  have cS:=HP t S _ w1 I1.out.jj (HV.out.keep (λ_ h=>h) (λg hg=>bN.out.block g (HS.out g hg).1)) (λg hg=>by have:=(HS.out g hg).1;omega) (mW rfl) bK.out;obtain⟨r,hr⟩:∃r,ak t=r:=⟨_,rfl⟩;have aI:=dS.out;rw[hr]at cS aI
  have lJ:=CS aI;clear aI;have ma:=CS cS;clear cS hr mW;go_wp2_with fail
  refine ma.out.mono ?_;rintro e w2 ⟨rfl,b2⟩;have bQ:=CS (bN.out.trans (b2.mono bN.out.size));have I2:=CS (PlI.step hJ HI.out bQ.out);clear b2 ma;cases r with
  |false =>
   go_wp2_with fail
   first|go_end0|refine bodyPost_ret (results_none rfl _ _ _) rfl ?_
   have aI:=lJ.out;rw[Am (λh=>absurd h.2 (by decide))]at aI
   rw[aI]
   exact⟨rfl,M,I2.out,λg hg=>.inl hg,Chg.of_below bQ.out⟩
  |true =>
   have hlen:=HI.out.len;obtain⟨x0,x1,x2⟩:=zad I2.out.num;have hal3:s.al<10000000:=by omega
   go_wp2_with fail
   first|go_end0|refine bodyPost_ret (results_none rfl _ _ _) rfl ?_
   have aI:=lJ.out;rw[Aq (by simp)]at aI
   rw[aI]
   have jV:=I2.out;have aZ:=jV.low;have hf:∀k,k≠b+1->(w2.setCell ⟨b+1,0,none⟩ (.int .i64 ((s.al:Int)+1))).heap[k]?=w2.heap[k]?:=λk hk=>Below.heap_setCell w2 ⟨b+1,0,none⟩ _ k hk;obtain⟨A1,c1,A2,c2,h1,h2,h3,h4,h5⟩:=jV.nums;refine⟨rfl,M,{ isp:=jV.isp.same (hf b (by omega)),num:=?_,cel:=jV.cel.same (hf _ (by omega)),nums:=⟨A1,c1,A2,c2,h1.keep (hf _ (by omega)) (λa ha=>hf _ ?_),h2.keep (hf _ (by omega)) (λa ha=>hf _ ?_),h3,h4,h5⟩,low:=aZ,jj:=hJ _ _ jV.jj (λg hg=>hf g (by have:=(jV.kj g hg).2;omega)),kj:=jV.kj,all:=λg hg=>by have:=jV.all g hg;simp;exact this,len:=?_ },λg hg=>.inl hg,(Chg.of_below bQ.out).setCell (p:=⟨b+1,0,none⟩) (.inr aZ.2.1) _⟩
   ·have:=one_setCell (u:=.int .i64 ((s.al:Int)+1)) jV.num
    exact this
   ·have:=(h1.2.lt a.block (by rw[ha];rfl)).1;omega
   ·have:=(h2.2.lt a.block (by rw[ha];rfl)).1;omega
   ·show s.ar.length<=c+1/\s.wi.length<=c+1/\s.al+1<=c+1
    omega
theorem zjv(b kp:Nat)(cp:Array Value)(J:World->Prop)(KJ:Nat->Prop)(ak:Ty->Bool)(hJ:∀w w',J w->(∀g,KJ g->w'.heap[g]?=w.heap[g]?)->J w')(ep:∀args w,(callFunc kp args).run Tryz.prog w=.ok (.enter kp args) w)(HP:IsPl kp cp J ak):Vis 153 #[.pointer (some ⟨b+5,0,none⟩),.pointer (some ⟨b+2,0,none⟩),.pointer (some ⟨b+1,0,none⟩),.pointer (some ⟨b+4,0,none⟩),.pointer (some ⟨b,0,none⟩)] (b+3) (PlI b kp cp J KJ) (plCome ak):=by
 intro c s M env t S v w hi hm _ hv hS az _ hc;by_cases h5:kd t=5
 ·rw[zcV ak env t s h5]
  obtain⟨K,X,Z,A,m,cq,rfl,hK,-,-,-,-⟩:=hv.parts;exact zis b kp cp J KJ c s M K Z X A m cq w (by rw[hK,h5];rfl) hJ hi hc
 ·exact zgL b kp cp J KJ ak hJ ep HP c s M env t S v w h5 hi hm hv hS az hc
set_option maxRecDepth 100000
theorem zit(l:List Nat)(i:Nat)(hi:i<l.length):(intV l)[i]?=some (.int .i64 ((l.getD i 0:Nat):Int)):=by
 simp[intV,Ak hi]
theorem znQ {w:World} {B:Nat} {e:TypeId} {g n c k:Nat} {xs:List Value}(h:w.ownsRow B e 1 (.slice (some ⟨g,0,none⟩) n c) n xs)(hk:k<=n):w.ownsRow B e 1 (.slice (some ⟨g,0,none⟩) k c) k (xs.take k):=by
 obtain⟨h0,h⟩:=h;refine⟨by rw[Bc];omega,?_⟩;rcases h with⟨h,_⟩|⟨g',cap,cur,hv,hg,hb,h1,h2,h3,h4⟩
 ·cases h
 ·injection hv with hv _ hc
  injection hv with hv;injection hv with hv;subst hv hc;refine .inr ⟨g,c,cur,rfl,hg,hb,by omega,h2,h3,?_⟩;rw[<-h4,List.take_take,CH,CH,Nat.min_eq_left hk]
theorem ziu(b kp:Nat)(cp:Array Value)(J:World->Prop)(KJ:Nat->Prop)(c:Nat)(s:Pl)(M:Nat->Prop)(K Z:Int)(X:ByteArray)(A:Option Addr)(m cq:Nat)(w:World)(d5:((K:Int)==5)=true)(hJ:∀w w',J w->(∀g,KJ g->w'.heap[g]?=w.heap[g]?)->J w')(hi:PlI b kp cp J KJ c s M w)(hc:c<10000000)
  (h1:s.ar≠[])(h2:s.ar.getD (s.ar.length-1) 0<s.wi.length)(h3:s.wi.getD (s.ar.getD (s.ar.length-1) 0) 0<=s.al):Calls Tryz.prog 154 #[.agg #[.int .i64 K,.string X,.int .i64 Z,.slice A m cq],.pointer (some ⟨b+5,0,none⟩),.pointer (some ⟨b+1,0,none⟩),.pointer (some ⟨b+2,0,none⟩)] w λe w' =>
   e=.returned (.tuple #[])/\∃M',PlI b kp cp J KJ (c+1) ⟨s.ar.take (s.ar.length-1),s.wi.set (s.ar.getD (s.ar.length-1) 0) (s.al-s.wi.getD (s.ar.getD (s.ar.length-1) 0) 0),s.al⟩ M' w'/\(∀g,M' g->M g\/w.heap.size<=g)/\Chg M w w':=by
 obtain⟨A1,c1,A2,c2,⟨ha,nJ⟩,⟨hw,bh⟩,rI,oM,af⟩:=hi.nums;have cA:=hi.num;have hl:=hi.len;have HI:=CS hi;clear hi;obtain⟨ar,wi,al⟩:=s;simp only at cA ha nJ hw bh hl h1 h2 h3 ⊢;obtain⟨k,hk⟩:∃k,ar.length=k+1:=⟨ar.length-1,by have:=List.length_pos_iff.2 h1;omega⟩;obtain⟨n2,fw⟩:∃n2,wi.length=n2:=⟨_,rfl⟩;rw[hk,Nat.add_sub_cancel]at h2 h3 ⊢
 rw[hk]at ha nJ hl
 rw[fw]at hw bh hl h2
 obtain⟨p,hp⟩:∃p,ar.getD k 0=p:=⟨_,rfl⟩;obtain⟨x,hx⟩:∃x,wi.getD p 0=x:=⟨_,rfl⟩;rw[hp]at h2 h3 ⊢
 rw[hx]at h3 ⊢
 have ga:=zit ar k (by omega);rw[hp]at ga
 have gw:=zit wi p (by omega);rw[hx]at gw
 obtain⟨g1,rfl,q1,q2,q3⟩:=zio nJ (Nat.lt_succ_self k) ga;obtain⟨g2,rfl,r1,r2,r3⟩:=zio bh h2 gw;obtain⟨x0,x1,x2⟩:=zad cA;obtain⟨y0,y1,y2⟩:=zad ha;obtain⟨z0,z1,z2⟩:=zad hw;have u0:=q3 w rfl;have v0:=r3 w rfl;have bz:∀q,q<w.heap.size->(w.alloc (.cells #[.int .i64 K,.string X,.int .i64 Z,.slice A m cq] 37)).heap[q]?=w.heap[q]?:=λq hq=>Below.heap_alloc _ _ _ hq;have v1:w.frozen? ⟨g2,p,none⟩=false:=by
  rcases bh.2 with⟨_,h0⟩|⟨g,cap,cur,hv,hg,hb,_⟩
  ·omega
  ·injection hv with hv
   injection hv with hv;injection hv with hv;subst hv;exact frozen_of_row w g2 p cur _ hb
 have xX:k+1<=c1:=by
  rcases nJ.2 with⟨_,h0⟩|⟨g,cap,cur,hv,hg,hb,h4,_⟩
  ·omega
  ·injection hv with _ _ hv
   omega
 have HAR:=CS ha;have zZ:=CS nJ;have vy:=CS hw;have fB:=CS bh;have HA1:=CS rI;have z8:=CS oM;have cH:=CS (af _ _ rfl rfl);have og:=CS cA;have HP:=CS hp;have HX:=CS hx;have HK:=CS hk;have iB:=CS fw;clear cA ha nJ hw bh rI oM af ga gw q3 r3 bz hp hx hk fw h1;go_enter Tryz.func154,Tryz.ntmps154
 go_wp2_with fail
 go_region
 all_goals
  go_wp2_with fail
 first|go_end0|refine bodyPost_ret (results_none rfl _ _ _) rfl ?_
 have hi:=HI.out;have iK:g2<w.heap.size:=r2;have hf:∀q,q<w.heap.size->q≠g2->q≠b+5->((((w.setCell ⟨g2,p,none⟩ (.int .i64 ((al:Int)-(x:Int)))).setCell ⟨b+5,0,none⟩ (.slice (some ⟨g1,0,none⟩) k c1)).alloc (.cells #[.int .i64 K,.string X,.int .i64 Z,.slice A m cq] 37)).drew).heap[q]?=w.heap[q]?:=λq h1 h2 h3 =>
  (Below.heap_alloc _ _ q (by simp;exact h1)).trans ((Below.heap_setCell _ ⟨b+5,0,none⟩ _ q h3).trans (Below.heap_setCell w ⟨g2,p,none⟩ _ q h2))
 have qV:g1≠g2:=cH.out;refine⟨rfl,M,{ isp:=hi.isp.same (hf b hi.isp.lt (by omega) (by omega)),num:=hi.num.same (hf _ x2 (by omega) (by omega)),cel:=hi.cel.same (hf _ hi.cel.lt (by omega) (by omega)),nums:=⟨some ⟨g1,0,none⟩,c1,some ⟨g2,0,none⟩,c2,⟨?_,?_⟩,⟨?_,?_⟩,HA1.out,z8.out,λa a' h h'=>by injection h with h;injection h' with h';rw[<-h,<-h'];exact qV⟩,low:=hi.low,jj:=hJ w _ hi.jj (λg hg=>hf g (hi.all g (hi.kj g hg).1) (by have:=(hi.kj g hg).2;omega) (by have:=(hi.kj g hg).2;omega)),kj:=hi.kj,all:=λg hg=>by have:=hi.all g hg;show g<(World.alloc _ _).heap.size;simp;omega,len:=?_ },λg hg=>.inl hg,?_⟩
 ·rw[Bc,HK.out,Nat.min_eq_left (BT k)]
  have h1:Blk (w.setCell ⟨g2,p,none⟩ (.int .i64 ((al:Int)-(x:Int)))) (b+5) 61 #[.slice (some ⟨g1,0,none⟩) (k+1) c1]:=HAR.out.far (p:=⟨g2,p,none⟩) (by show b+5≠g2;omega) _;exact(Below.heap_alloc _ _ _ (by simp;exact y2)).trans (one_setCell h1)
 ·rw[Bc,HK.out,Nat.min_eq_left (BT k)]
  have h1:=znQ zZ.out (BT k);rw[show(intV ar).take k=intV (ar.take k) by simp[intV,List.map_take]]at h1
  exact zaY h1 (λa h=>by injection h with h;rw[<-h];exact hf g1 q2 qV (by show g1≠b+5;omega))
 ·rw[CK,iB.out]
  exact vy.out.same (hf _ z2 (by omega) (by omega))
 ·rw[CK,iB.out]
  have h1:=(fB.out.stored p (.int .i64 ((al:Int)-(x:Int)))).1;rw[show(intV wi).set p (.int .i64 ((al:Int)-(x:Int)))=intV (wi.set p (al-x)) by unfold intV;rw[List.map_set,Int.ofNat_sub h3]]at h1
  refine zaY h1 (λa h=>?_);injection h with h;rw[<-h]
  exact(Below.heap_alloc _ _ _ (by simp;exact iK)).trans (Below.heap_setCell _ ⟨b+5,0,none⟩ _ g2 (by show g2≠b+5;omega))
 ·show(ar.take k).length<=c+1/\(wi.set p (al-x)).length<=c+1/\al<=c+1
  rw[Bc,CK,HK.out,iB.out]
  omega
 ·exact((((Chg.refl M w).setCell (p:=⟨g2,p,none⟩) (.inr (z8.out ⟨g2,0,none⟩ rfl)) _).setCell (p:=⟨b+5,0,none⟩) (.inr hi.low.2.2.2.2) _).alloc _).drew
set_option maxRecDepth 100000
theorem zhT(K:Int)(X:ByteArray)(Z:Int)(A:Option Addr)(m c:Nat)(x y z:Value)(w:World)(d5:((K:Int)==5)=false):Calls Tryz.prog 154 #[.agg #[.int .i64 K,.string X,.int .i64 Z,.slice A m c],x,y,z] w λe w'=>e=.returned (.tuple #[])/\Below w.heap.size w w':=by
 go_enter Tryz.func154,Tryz.ntmps154
 go_wp2
 first|go_end0|refine bodyPost_ret (results_none rfl _ _ _) rfl ?_
 exact⟨rfl,(Below.refl _ w).alloc (Ai _) _⟩
theorem zjw(b kp:Nat)(cp:Array Value)(J:World->Prop)(KJ:Nat->Prop)(hJ:∀w w',J w->(∀g,KJ g->w'.heap[g]?=w.heap[g]?)->J w'):VisP 154 #[.pointer (some ⟨b+5,0,none⟩),.pointer (some ⟨b+1,0,none⟩),.pointer (some ⟨b+2,0,none⟩)] (b+3) (PlI b kp cp J KJ) plOK plLeave:=by
 intro c s M env t S v w hi _ _ hv _ _ _ hc hp;obtain⟨K,X,Z,A,m,cq,rfl,hK,-,-,-,-⟩:=hv.parts;by_cases h5:kd t=5
 ·obtain⟨h1,h2,h3⟩:=hp h5
  rw[show plLeave env t s=⟨s.ar.take (s.ar.length-1),s.wi.set (s.ar.getD (s.ar.length-1) 0) (s.al-s.wi.getD (s.ar.getD (s.ar.length-1) 0) 0),s.al⟩ from Aq h5]
  exact ziu b kp cp J KJ c s M K Z X A m cq w (by rw[hK,h5];rfl) hJ hi hc h1 h2 h3
 ·rw[show plLeave env t s=s from Am h5]
  refine(zhT K X Z A m cq _ _ _ w (by rw[hK];exact kF _ 5 h5)).mono ?_;rintro e w' ⟨rfl,hb⟩;exact⟨rfl,M,hi.step hJ hb,λg hg=>.inl hg,Chg.of_below hb⟩
end Go.Proofs.YtfafilmklhnngaaGreatDoor
