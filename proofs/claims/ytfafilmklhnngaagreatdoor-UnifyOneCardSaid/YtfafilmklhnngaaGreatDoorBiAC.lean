import Derived.Test.YtfafilmklhnngaaGreatDoorBiAB
import Derived.Laws.EntriesVeiled
set_option maxHeartbeats 12800000
namespace Go.Proofs.YtfafilmklhnngaaGreatDoor
open Go.RowKit Lx Tx Go.Maps Go.WideMaps Go.Shelf
set_option maxRecDepth 100000
def zdc(b:Nat):Value:=.func (.func 132) #[] #[.pointer (some ⟨b+3,0,none⟩),.pointer (some ⟨b+1,0,none⟩)]
theorem zjD(b:Nat)(w:World)(hb:w.heap.size=b+1)(h:Blk w b 95 #[.slice none 0 0]):Calls Tryz.prog 87 #[.pointer (some ⟨b,0,none⟩)] w λe w'=>e=.returned (zdc b)/\OnceI b 0 [] (λg=>b<=g/\g<=b+3) w'/\w'.heap.size=b+4/\Below w.heap.size w w':=by
 have hmf:∀(fn:Fn) (first cap:Array Value) (w:World),(Instr.makeFunc fn first cap).run Tryz.prog w=.ok (.func fn first cap) w:=λ_ _ _ _=>rfl;have hmm:∀w,(Instr.makeMap 93 none).run Tryz.prog w=.ok (.map (some w.heap.size)) (w.alloc (.map #[] 0)):=λ_=>rfl;have H:=hidE h;have HB:=hidE hb;clear h hb;go_enter Tryz.func87,Tryz.ntmps87
 go_wp2_with fail
 go_ret
 obtain⟨h1,h2,h3,hs,hbl⟩:=zcE w (.cells #[.pointer (some ⟨b,0,none⟩)] 158) (.map #[] 0) (.cells #[.map (some (w.heap.size+1))] 93);have hb:=HB.out;refine⟨by rw[hb];rfl,⟨?_,?_,?_,Nat.le_refl _,by omega,λg hg=>by omega,none,0,?_,⟨rfl,.inl ⟨rfl,rfl⟩⟩,λa ha=>by cases ha⟩,by omega,hbl⟩
 ·rw[show b+3=w.heap.size+1+1 by omega,show b+2=w.heap.size+1 by omega];exact h3
 ·rw[show b+1=w.heap.size by omega];exact h1
 ·rw[show b+2=w.heap.size+1 by omega];exact MapE.laid mkSet h2
 ·exact H.out.below hbl (by omega)
def NoteI(b:Nat)(c:Nat)(s:List Name)(M:Nat->Prop)(w:World):Prop :=
 ∃M0,(∀g,M g↔M0 g\/g=b+4)/\OnceI b c s M0 w/\¬M0 (b+4)/\Blk w (b+4) 156 #[zdc b]
theorem NoteI.inv(b:Nat):Inv (NoteI b) where
 mono c c' s M w:=λ⟨M0,h1,h2,h3⟩ hc=>⟨M0,h1,(OnceI.inv b).mono _ _ _ _ _ h2 hc,h3⟩
 lt c s M w:=λ⟨M0,h1,h2,h3,h4⟩ g hg=>by
  rcases(h1 g).1 hg with h|h
  ·exact h2.all g h
  ·rw[h];exact h4.lt
 keep c s M w w':=λ⟨M0,h1,h2,h3,h4⟩ hs hk =>
  ⟨M0,h1,(OnceI.inv b).keep _ _ _ _ _ h2 hs (λg hg=>hk g ((h1 g).2 (.inl hg))),h3,h4.same (hk _ ((h1 _).2 (.inr rfl)))⟩
theorem NoteI.next {b c:Nat} {s':List Name} {M M0 M':Nat->Prop} {w w1 w':World}(h1:∀g,M g↔M0 g\/g=b+4)(h3:¬M0 (b+4))(h4:Blk w1 (b+4) 156 #[zdc b])(hi:OnceI b c s' M' w')(hM:∀g,M' g->M0 g\/w1.heap.size<=g)(hc:Chg M0 w1 w')(hb:Below w.heap.size w w1):∃M2,NoteI b c s' M2 w'/\(∀g,M2 g->M g\/w.heap.size<=g)/\Chg M w w':=by
 have hs:=hb.size;have hl:=h4.lt;refine⟨λg=>M' g\/g=b+4,⟨M',λg=>Iff.rfl,hi,λh=>?_,h4.chg hc h3⟩,λg hg=>?_,(Chg.of_below hb).trans' hc (λg _ h=>(h1 g).2 (.inl h))⟩
 ·rcases hM _ h with h|h
  ·exact h3 h
  ·omega
 ·rcases hg with h|h
  ·rcases hM _ h with h|h
   ·exact .inl ((h1 g).2 (.inl h))
   ·exact .inr (by omega)
  ·exact .inl ((h1 g).2 (.inr h))
def noteVar:Ty->List Name->List Name
 |.var x,s=>addN x s
 |_,s=>s
theorem zen(t:Ty)(s:List Name):((kd t:Int)==1)=true/\noteVar t s=addN (nmB t).data.toList s\/((kd t:Int)==1)=false/\noteVar t s=s:=by
 cases t with
 |var x=>exact .inl ⟨rfl,rfl⟩
 |mt n=>exact .inr ⟨rfl,rfl⟩
 |con c l=>exact .inr ⟨rfl,rfl⟩
 |fn a b=>exact .inr ⟨rfl,rfl⟩
 |all x t=>exact .inr ⟨rfl,rfl⟩
theorem zmy(b:Nat):Doer 88 #[.pointer (some ⟨b+4,0,none⟩)] (NoteI b) noteVar:=by
 intro c s M t S v w hi hv hS hnm hc;obtain⟨M0,hM,hi0,hne,hbk⟩:=hi;obtain⟨K,X,Z,A,m,cp,rfl,hK,hX,-,-,-⟩:=hv.parts;have hw:=zen t s;rw[<-hK,<-hX]at hw
 have hX24:X.size<=24:=by have:=zbh hnm;rw[<-hX]at this;exact this
 have hal:Hid (Below w.heap.size w (w.alloc (.cells #[.int .i64 K,.string X,.int .i64 Z,.slice A m cp] 37))):=hidE ((Below.refl _ w).alloc (Nat.le_refl _) _);obtain⟨y0,-,l0⟩:=zai hbk;have H1:=hidE ((OnceI.inv b).keep _ _ _ _ (w.alloc (.cells #[.int .i64 K,.string X,.int .i64 Z,.slice A m cp] 37)) hi0 (by simp) (λg hg=>Below.heap_alloc _ _ _ (hi0.all g hg)));have ek:∀args w,(callFunc 132 args).run Tryz.prog w=.ok (.enter 132 args) w:=enters_of Tryz.func132 (by kernel_rfl) rfl;have HM:=hidE hM;have HNE:=hidE hne;have HBK:=hidE (hbk.below hal.out l0);obtain⟨s',hs'⟩:∃s',noteVar t s=s':=⟨_,rfl⟩;rw[hs']at hw ⊢
 clear hK hX hv hnm hi0 hM hne hbk hs' hS;unfold zdc at y0;rcases hw with⟨d1,hr⟩|⟨d1,rfl⟩
 ·have HR:=hidE hr
  clear hr;go_enter Tryz.func88,Tryz.ntmps88
  go_wp2_with fail
  refine(zn0 b c s M0 X _ H1.out hX24 hc).mono ?_;rintro e w' ⟨rfl,M',i',hM',c'⟩;have HF:=hidE (NoteI.next HM.out HNE.out HBK.out i' hM' c' hal.out);clear i' hM' c';go_wp2_with fail
  first|go_end0|refine bodyPost_ret (results_none rfl _ _ _) rfl ?_
  rw[HR.out]
  exact⟨rfl,HF.out⟩
 ·go_enter Tryz.func88,Tryz.ntmps88
  go_wp2_with fail
  first|go_end0|refine bodyPost_ret (results_none rfl _ _ _) rfl ?_
  exact⟨rfl,NoteI.next HM.out HNE.out HBK.out ((OnceI.inv b).mono _ _ _ _ _ H1.out (by omega)) (λg hg=>.inl hg) (Chg.refl M0 _) hal.out⟩
theorem zdQ {w:World} {B B':Nat} {e:TypeId} {size n:Nat} {v:Value} {xs:List Value}(h:w.ownsRow B e size v n xs)(hb:B'<=B):w.ownsRow B' e size v n xs:=by
 obtain⟨h0,h⟩:=h;refine⟨h0,?_⟩;rcases h with h|⟨g,cap,cur,hv,hg,h⟩
 ·exact .inl h
 ·exact .inr ⟨g,cap,cur,hv,by omega,h⟩
def za7(t:Ty):List Name:=thr (atLeaf noteVar) (λ_ _ s=>s) [] t []
theorem zn1(t:Ty)(S:Nat->Prop)(v:Value)(w:World)(hv:RdV S w t v)(hS:∀g,S g->g<w.heap.size)(hnm:Nm t)(hsz:t.size<=1000000):Calls Tryz.prog 42 #[v] w λe w'=>∃A cp,e=.returned (.slice A (za7 t).length cp)/\w'.ownsRow w.heap.size 9 1 (.slice A (za7 t).length cp) (za7 t).length (strV (za7 t))/\(za7 t).length<=2000000/\Below w.heap.size w w':=by
 obtain⟨K,X,Z,A,m,cp,rfl,-,-,-,-,-⟩:=hv.parts;have hmf:∀(fn:Fn) (first cap:Array Value) (w:World),(Instr.makeFunc fn first cap).run Tryz.prog w=.ok (.func fn first cap) w:=λ_ _ _ _=>rfl;have HV:=hidE hv;have HS:=hidE hS;have HNM:=hidE hnm;clear hv hS hnm;go_enter Tryz.func42,Tryz.ntmps42
 go_wp2_with fail
 obtain⟨h1,h2,hs2,hbl⟩:=za2 w (.cells #[.int .i64 K,.string X,.int .i64 Z,.slice A m cp] 37) (.cells #[.slice none 0 0] 95);refine(zjD (w.heap.size+1) _ hs2 h2).mono ?_;rintro e w1 ⟨rfl,ho,hs1,b1⟩;have hl1:=hbl.trans (b1.mono (by omega));have ht1:Blk w1 w.heap.size 37 #[.int .i64 K,.string X,.int .i64 Z,.slice A m cp]:=Blk.below h1 b1 (by omega);obtain⟨p0,p1,p2,p3,s0,s1,s2,s3,hlx⟩:=zaa ht1;have HO:=hidE ho;have HS1:=hidE hs1;have HL1:=hidE hl1;clear h1 h2 hs2 hbl ho hs1 b1 hl1 ht1;unfold zdc;go_wp2_with fail
 have hs1:=HS1.out;have hl2:Below w.heap.size w (w1.alloc (.cells #[zdc (w.heap.size+1)] 156)):=HL1.out.alloc (by have:=HL1.out.size;omega) _;have hb4:Blk (w1.alloc (.cells #[zdc (w.heap.size+1)] 156)) (w.heap.size+1+4) 156 #[zdc (w.heap.size+1)]:=by rw[<-hs1];exact heap_alloc_new w1 _
 have hle:=zgx 88 #[.pointer (some ⟨w.heap.size+1+4,0,none⟩)] (NoteI (w.heap.size+1)) noteVar (NoteI.inv _) (enters_of Tryz.func88 (by kernel_rfl) rfl) (zmy _)
  0 [] (λg=>(w.heap.size+1<=g/\g<=w.heap.size+1+3)\/g=w.heap.size+1+4) t S _ _
  ⟨_,λg=>Iff.rfl,(OnceI.inv _).keep _ _ _ _ _ HO.out (by simp) (λg hg=>Below.heap_alloc _ _ _ (by omega)),by omega,hb4⟩
  (HV.out.keep (λ_ h=>h) (λg hg=>hl2.block g (HS.out g hg))) (λg hg=>⟨by have:=HS.out g hg;have:=hl2.size;omega,by have:=HS.out g hg;omega⟩) HNM.out hsz (by omega)
 rw[<-hs1]at hle
 refine hle.mono ?_;rintro e w3 ⟨rfl,M',⟨M0,-,hi3,-,-⟩,hM',c3⟩;obtain⟨A3,cp3,hbk3,hown3,-⟩:=hi3.row;obtain⟨q0,q1,q2⟩:=zai hbk3;have hlen:=hi3.len;have HB:=hidE (hl2.trans (c3.toBelow (B:=w.heap.size) (by have:=hl2.size;omega) (λk hk h=>by omega)));have HOWN:=hidE (zdQ hown3 (show w.heap.size<=w.heap.size+1+4 by omega));have HLEN:=hidE (show(za7 t).length<=2000000 by unfold za7;omega);clear hle hl2 hb4 hs1 hi3 hbk3 hM' c3 hown3 hlen HO;replace q0:w3.cell? ⟨w.heap.size+1,0,none⟩=some (.slice A3 (za7 t).length cp3):=q0;go_wp2_with fail
 go_ret
 exact⟨A3,cp3,rfl,HOWN.out,HLEN.out,HB.out⟩
end Go.Proofs.YtfafilmklhnngaaGreatDoor
namespace Go.Proofs.YtfafilmklhnngaaGreatDoor
open Go.RowKit Lx Tx Go.Maps Go.WideMaps Go.Shelf
set_option maxRecDepth 100000
theorem zmz:(Tryz.prog.info? 3).map (λi=>(i.zero,i.size,i.bytes))=some (some (.int .i64 0),1,8):=by kernel_rfl
theorem intKeyed:Keyed Tryz.prog 3:=int_keyed Tryz.underlying3
theorem intKey(n:Nat)(h:n<=999999):keyOf Tryz.prog 3 (.int .i64 n)=some (.int .i64 n):=keyOf_int_mk Tryz.underlying3 (by simp[Lit.wf,IntKind.min,IntKind.max,IntKind.signed,IntKind.bits];omega)
theorem klI(x:Int):WideAt.IsKeyLit (.int .i64 x):=trivial
def envZ:List Nat->DataW Unit
 |[]=>.map []
 |n::r=>(envZ r).put (.int .i64 n) .nil
theorem zdd:∀r,Tidy (envZ r)
 |[]=>tidy_empty
 |_::r=>(zdd r).put (klI _) _
theorem zgy:∀r,Maps.size (envZ r)<=r.length
 |[]=>by simp[envZ,Maps.size]
 |_::r=>by
  have:=zgy r;rw[envZ,size_put (zdd r),List.length_cons]
  split <;> omega
theorem zhv(x:Nat):∀r,Maps.has (envZ r) (.int .i64 x)=decide (x∈r)
 |[]=>rfl
 |p::r=>by
  rw[envZ]
  by_cases h:p=x
  ·rw[<-h,has_put_same (zdd r).isMap (klI _)];simp
  ·rw[has_put_other (λe=>h (by injection e with _ e;omega)),zhv x r]
   simp[show x≠p from λe=>h e.symm]
theorem ziQ(x:Nat):∀r,(envZ r).atKey (.int .i64 x) .nil=.nil
 |[]=>rfl
 |p::r=>by
  rw[envZ]
  by_cases h:p=x
  ·rw[<-h,atKey_put_same (zdd r).isMap (klI _)]
  ·rw[atKey_put_other (λe=>h (by injection e with _ e;omega)),ziQ x r]
def MapZ(w:World)(b:Nat)(r:List Nat):Prop:=∃n,n<=r.length/\w.ownsMap Tryz.prog 3 unitElem b n (envZ r)
theorem zoG {w:World} {b n:Nat} {D:DataW Unit}(h:w.ownsMap Tryz.prog 3 unitElem b n D):w.ownsMap Tryz.prog 3 unitElem b (Maps.size D) D:=by
 obtain⟨es,clock,hb,F,_,rfl⟩:=h;exact⟨es,clock,hb,F,by simp[Maps.size,length_sorted],rfl⟩
theorem MapZ.lt {w:World} {b:Nat} {r:List Nat}(h:MapZ w b r):b<w.heap.size:=by obtain⟨_,_,h⟩:=h;exact h.lt
theorem MapZ.keep {w w':World} {b:Nat} {r:List Nat}(h:MapZ w b r)(hk:w'.heap[b]?=w.heap[b]?):MapZ w' b r:=by
 obtain⟨n,hn,es,clock,hb,F,hs,hD⟩:=h;exact⟨n,hn,es,clock,hk.trans hb,F,hs,hD⟩
theorem MapZ.laid {w:World} {b:Nat}(h:w.heap[b]?=some (.map #[] 0)):MapZ w b []:=⟨0,Nat.le_refl _,ownsMade h⟩
theorem MapZ.getOk {w:World} {b:Nat} {r:List Nat}(h:MapZ w b r)(x:Nat)(hx:x<=999999):(Instr.lookup 187 (.map (some b)) (.int .i64 x) true).run Tryz.prog w=.ok (.tuple #[.agg #[],.bool (decide (x∈r))]) w:=by
 obtain⟨n,_,h⟩:=h;obtain⟨v,ps,hrun,hv⟩:=h.look_ok intKeyed Tryz.underlying187 (z:=.agg #[]) (by kernel_rfl) (zd:=.nil) (zp:=[]) rfl (intKey x hx);rw[hrun,zhv]
 rw[ziQ]at hv
 rw[unitElem_inv hv]
theorem zir(w:World) {ops:Array Oper} {rest:List Oper} {o:Oper} {a:Act} {Q:Exit->Act->World->Prop}
  (hg:o.guard=none)(mo x vo:Operand)(hop:o.op=Op.mapUpdate 187 mo x vo)(b:Nat)(r:List Nat)(hm:a.eval mo=.map (some b))(h:MapZ w b r)(hn:r.length<1000000000)(X:Nat)(hX:X<=999999)
  (hx:a.eval x=.int .i64 X)(hv:a.eval vo=.agg #[])(hK:∀w',MapZ w' b (X::r)->w.grownBy w' (some b)->wpList Tryz.prog ops Q rest (a.put o.dst undef) w'):wpList Tryz.prog ops Q (o::rest) a w:=by
 obtain⟨n,hnr,h⟩:=h;exact wpList_mapUpdate_own w hg mo x vo 187 hop 3 153 intKeyed Tryz.underlying187 unitElem b n _ hm h (by unfold maxLen;omega) _ _ _ hx hv (intKey X hX) .nil [] rfl (λw' h1 h2=>hK w' ⟨_,zgy (X::r),zoG (D:=envZ (X::r)) h1⟩ h2)
structure OnceZ (b:Nat) (c:Nat) (s:List Nat) (M:Nat->Prop) (w:World):Prop where
 met:Blk w (b+3) 187 #[.map (some (b+2))]
 ptr:Blk w (b+1) 123 #[.pointer (some ⟨b,0,none⟩)]
 set:MapZ w (b+2) s.reverse
 len:s.length<=c
 low:M b/\M (b+1)/\M (b+2)/\M (b+3)
 all:∀g,M g->g<w.heap.size
 row:∃A cp,Blk w b 61 #[.slice A s.length cp]/\w.ownsRow (b+4) 3 1 (.slice A s.length cp) s.length (intV s)/\∀a,A=some a->M a.block
theorem OnceZ.inv(b:Nat):Inv (OnceZ b) where
 mono c c' s M w h hc:={ h with len:=Nat.le_trans h.len hc }
 lt c s M w h:=h.all
 keep c s M w w' h hs hk :=
  {met:=h.met.same (hk _ h.low.2.2.2)
   ptr:=h.ptr.same (hk _ h.low.2.1)
   set:=h.set.keep (hk _ h.low.2.2.1)
   len:=h.len
   low:=h.low
   all:=λg hg=>Nat.lt_of_lt_of_le (h.all g hg) hs
   row:=by
    obtain⟨A,cp,h1,h2,h3⟩:=h.row;exact⟨A,cp,h1.same (hk _ h.low.1),zbX h2 (λa ha=>hk _ (h3 a ha)),h3⟩ }
theorem zkL {b c:Nat} {s:List Nat} {M:Nat->Prop} {n:Nat} {A:Option Addr} {cp:Nat} {w w1 W w5:World} {g3 c3:Nat}(hmet:Blk w (b+3) 187 #[.map (some (b+2))])(hall:∀g,M g->g<w.heap.size)(hlow:M b/\M (b+1)/\M (b+2)/\M (b+3))(hlen:s.length<=c)(hA:∀a,A=some a->M a.block)
  (hown:w.ownsRow (b+4) 3 1 (.slice A s.length cp) s.length (intV s))(hs1:w.heap.size+1<=w1.heap.size)(hk1:∀k,k<w.heap.size->k≠b+2->w1.heap[k]?=w.heap[k]?)(hm1:MapZ w1 (b+2) (n::s.reverse))
  (hW:∀k,k<w1.heap.size->W.heap[k]?=w1.heap[k]?)(hWs:W.heap.size=w1.heap.size+1)(hCW:Chg M w W)(ho3:w5.ownsRow (b+4) 3 1 (.slice (some ⟨g3,0,none⟩) (s.length+1) c3) (s.length+1) (intV s++[.int .i64 n]))
  (hg3:W.grownBy w5 (Value.slice A s.length cp).ownBlock)(hat:(Value.slice A s.length cp).ownBlock=some g3\/g3=W.heap.size)(hb5:Blk w5 b 61 #[.slice A s.length cp])(hp5:Blk w5 (b+1) 123 #[.pointer (some ⟨b,0,none⟩)])(hlt:g3<w5.heap.size):∃M',OnceZ b (c+1) (s++[n]) M' (w5.setCell ⟨b,0,none⟩ (.slice (some ⟨g3,0,none⟩) (s.length+1) c3))/\(∀g,M' g->M g\/w.heap.size<=g)/\Chg M w (w5.setCell ⟨b,0,none⟩ (.slice (some ⟨g3,0,none⟩) (s.length+1) c3)):=by
 have hrow:∀k,some k=(Value.slice A s.length cp).ownBlock->b+4<=k/\M k:=λk hk=>by
  refine⟨(hown.lt k hk.symm).1,?_⟩;cases A with
  |none=>cases hk
  |some a=>injection hk with hk;rw[hk];exact hA a rfl
 have hg3b:b+4<=g3:=(ho3.lt g3 rfl).1;have h3:=hall _ hlow.2.2.2;have hf:∀k,k<b+4->k≠b->(w5.setCell ⟨b,0,none⟩ (.slice (some ⟨g3,0,none⟩) (s.length+1) c3)).heap[k]?=w1.heap[k]?:=λk hk hne =>
  (Below.heap_setCell w5 ⟨b,0,none⟩ _ k hne).trans ((hg3.block k (by omega) (λe=>by have:=(hrow k e).1;omega)).trans (hW k (by omega)))
 have hsz:(w5.setCell ⟨b,0,none⟩ (.slice (some ⟨g3,0,none⟩) (s.length+1) c3)).heap.size=w5.heap.size:=by simp
 have hs5:=hg3.size;refine⟨λg=>M g\/g=g3,⟨hmet.same ((hf _ (by omega) (by omega)).trans (hk1 _ (by omega) (by omega))),hp5.far (by show b+1≠b;omega) _,?_,by simp;omega,⟨.inl hlow.1,.inl hlow.2.1,.inl hlow.2.2.1,.inl hlow.2.2.2⟩,λg hg=>?_,some ⟨g3,0,none⟩,c3,?_,?_,λa ha=>by injection ha with ha;rw[<-ha];exact .inr rfl⟩,λg hg=>?_,?_⟩
 ·rw[List.reverse_append,List.reverse_singleton,List.singleton_append]
  exact hm1.keep (hf _ (by omega) (by omega))
 ·rw[hsz]
  rcases hg with hg|rfl
  ·have:=hall g hg;omega
  ·exact hlt
 ·have:=one_setCell (u:=.slice (some ⟨g3,0,none⟩) (s.length+1) c3) hb5
  rw[List.length_append]
  exact this
 ·rw[List.length_append,show intV (s++[n])=intV s++[.int .i64 n] by simp[intV]]
  exact zbX ho3 (λa ha=>by injection ha with ha;rw[<-ha];exact Below.heap_setCell w5 ⟨b,0,none⟩ _ g3 (by show g3≠b;omega))
 ·rcases hg with hg|rfl
  ·exact .inl hg
  ·rcases hat with h|h
   ·exact .inl (hrow _ h.symm).2
   ·exact .inr (by omega)
 ·exact(hCW.grown hg3 (λk hk=>.inr (hrow k hk.symm).2)).setCell (p:=⟨b,0,none⟩) (.inr hlow.1) _
theorem zmA(b c:Nat)(s:List Nat)(M:Nat->Prop)(n:Nat)(w:World)(h:OnceZ b c s M w)(hX:n<=999999)(hc:c<10000000):Calls Tryz.prog 107 #[.int .i64 n,.pointer (some ⟨b+3,0,none⟩),.pointer (some ⟨b+1,0,none⟩)] w λe w'=>e=.returned (.tuple #[])/\∃M',OnceZ b (c+1) (addN n s) M' w'/\(∀g,M' g->M g\/w.heap.size<=g)/\Chg M w w':=by
 obtain⟨hmet,hptr,hset,hlen,hlow,hall,A,cp,hbk,hown,hA⟩:=h;obtain⟨m0,-,lm⟩:=zai hmet;obtain⟨p0,-,lp⟩:=zai hptr;have hlk0:=hset.getOk n hX;simp only[List.mem_reverse]at hlk0;by_cases hin:n∈s
 ·rw[decide_eq_true hin]at hlk0
  replace hlk0:(Instr.lookup 187 (.map (some (b+2))) (.int .i64 n) true).run Tryz.prog w=.ok (.tuple #[.agg #[],.bool true]) w:=hlk0;have hadd:addN n s=s:=if_pos hin;rw[hadd]
  have HOUT:Hid (OnceZ b (c+1) s M (w.alloc (.cells #[] 153))):=hidE ((OnceZ.inv b).mono _ _ _ _ _ ((OnceZ.inv b).keep _ _ _ _ _ ⟨hmet,hptr,hset,hlen,hlow,hall,A,cp,hbk,hown,hA⟩ (by simp) (λg hg=>Below.heap_alloc _ _ _ (hall g hg))) (by omega));clear hmet hptr hset hlen hlow hall hbk hown hA hin hadd;go_enter Tryz.func107,Tryz.ntmps107
  go_wp2_with fail
  first|go_end0|refine bodyPost_ret (results_none rfl _ _ _) rfl ?_
  exact⟨rfl,M,HOUT.out,λg hg=>.inl hg,(Chg.refl M w).alloc _⟩
 ·rw[decide_eq_false hin]at hlk0
  replace hlk0:(Instr.lookup 187 (.map (some (b+2))) (.int .i64 n) true).run Tryz.prog w=.ok (.tuple #[.agg #[],.bool false]) w:=hlk0;have hadd:addN n s=s++[n]:=if_neg hin;rw[hadd]
  obtain⟨i0,hi0,hz0,hz1,hz2⟩:=info_parts zmz;have HSET:=hidE (hset.keep (w':=w.alloc (.cells #[] 153)) (Below.heap_alloc _ _ _ hset.lt));have hk0:Hid (∀k,k<w.heap.size->(w.alloc (.cells #[] 153)).heap[k]?=w.heap[k]?):=hidE λk hk=>Below.heap_alloc _ _ _ hk;have HX:=hidE hX;have HLEN:Hid (s.reverse.length<1000000000):=hidE (by simp;omega);obtain⟨z0,z1,z2⟩:=zai hbk;have HMET:=hidE hmet;have HPTR:=hidE hptr;have HBK:=hidE hbk;have HOWN:=hidE hown;have HLOW:=hidE hlow;have HALL:=hidE hall;have HA:=hidE hA;clear hset hin hadd hmet hptr hbk hown hlow hall hA z0 z1;go_enter Tryz.func107,Tryz.ntmps107
  go_wp2_with (at_mapUpdate;refine zir _ rfl _ _ _ rfl (b+2) s.reverse rfl HSET.out HLEN.out n HX.out rfl rfl ?_;intro w1 hm1 hg1;have hs1:w.heap.size+1<=w1.heap.size:=(by have:=hg1.size;simp at this;exact this);have hk1:∀k,k<w.heap.size->k≠b+2->w1.heap[k]?=w.heap[k]?:=(λk hk hne=>(hg1.block k (by simp;omega) (λe=>hne (by injection e))).trans (hk0.out k hk));have HM1:=hidE hm1;have HK1:=hidE hk1;have hb1:=HBK.out.same (hk1 b z2 (by omega));have hp1:=HPTR.out.same (hk1 (b+1) lp (by omega));have HOWN1:=hidE (zbX (w':=w1) HOWN.out (λa ha=>hk1 a.block (HALL.out _ (HA.out a ha)) (by have:=(HOWN.out.lt a.block (by rw[ha];rfl)).1;omega)));obtain⟨q0,q1,q2⟩:=zai hb1;obtain⟨r0,r1,r2⟩:=zai hp1;have HB1:=hidE hb1;have HP1:=hidE hp1;have HC1:Hid (Chg M w (w1.alloc (.cells #[.int .i64 n] 3)).drew):=hidE (((((Chg.refl M w).alloc (.cells #[] 153)).grown hg1 (λk hk=>.inr (by injection hk with hk;rw[<-hk];exact HLOW.out.2.2.1))).alloc _).drew);have HOWN2:Hid ((w1.drew.alloc (.cells #[.int .i64 n] 3)).ownsRow (b+4) 3 1 (.slice A s.length cp) s.length (intV s)):=hidE (HOWN1.out.alloc (.cells #[.int .i64 n] 3));have HNEW:Hid (∀j u,[Value.int .i64 n][j]?=some u->(w1.drew.alloc (.cells #[.int .i64 n] 3)).cell? ((⟨w1.heap.size,0,none⟩:Addr).add j)=some u):=hidE (zar _ _ _ _ rfl);clear hm1 hg1 hk1 hb1 hp1)
  go_region_law (refine step_append_lies _ (by rfl) _ _ _ (by rfl) (b+4) 3 i0 _ 1 8 Tryz.underlying61 hi0 hz0 hz1 hz2 rfl (by decide) _ s.length (intV s) (by rfl) HOWN2.out ⟨w1.heap.size,0,none⟩ 1 1 [.int .i64 n] rfl rfl HNEW.out (by intro u hu;simp at hu;subst hu;rfl) (by omega) (by unfold maxLen;omega) (by omega) (by simp;omega) _ rfl ?_;intro g3 c3 w5 hown3 hgrow hat hlt;have hb5:Blk w5 b 61 #[.slice A s.length cp]:=(Blk.alloc (w:=w1.drew) HB1.out _).grown hgrow (λe=>by have:=(HOWN.out.lt b e.symm).1;omega);have hp5:Blk w5 (b+1) 123 #[.pointer (some ⟨b,0,none⟩)]:=(Blk.alloc (w:=w1.drew) HP1.out _).grown hgrow (λe=>by have:=(HOWN.out.lt (b+1) e.symm).1;omega);obtain⟨d0,d1,d2⟩:=zai hb5;obtain⟨e0,e1,e2⟩:=zai hp5;have HO3:=hidE hown3;have HG3:=hidE hgrow;have HAT:=hidE hat;have HB5:=hidE hb5;have HP5:=hidE hp5;clear hown3 hgrow hat hb5 hp5)
  all_goals
   go_wp2_with fail
   first|go_end0|refine bodyPost_ret (results_none rfl _ _ _) rfl ?_
   exact⟨rfl,zkL (W:=(w1.alloc (.cells #[.int .i64 n] 3)).drew) HMET.out HALL.out HLOW.out hlen HA.out HOWN.out hs1 HK1.out HM1.out (λk hk=>Below.heap_alloc w1 _ k hk) (size_alloc w1 _) (HC1.out) HO3.out HG3.out HAT.out HB5.out HP5.out hlt⟩
def zde(b:Nat):Value:=.func (.func 107) #[] #[.pointer (some ⟨b+3,0,none⟩),.pointer (some ⟨b+1,0,none⟩)]
theorem zis(b:Nat)(w:World)(hb:w.heap.size=b+1)(h:Blk w b 61 #[.slice none 0 0]):Calls Tryz.prog 62 #[.pointer (some ⟨b,0,none⟩)] w λe w'=>e=.returned (zde b)/\OnceZ b 0 [] (λg=>b<=g/\g<=b+3) w'/\w'.heap.size=b+4/\Below w.heap.size w w':=by
 have hmf:∀(fn:Fn) (first cap:Array Value) (w:World),(Instr.makeFunc fn first cap).run Tryz.prog w=.ok (.func fn first cap) w:=λ_ _ _ _=>rfl;have hmm:∀w,(Instr.makeMap 187 none).run Tryz.prog w=.ok (.map (some w.heap.size)) (w.alloc (.map #[] 0)):=λ_=>rfl;have H:=hidE h;have HB:=hidE hb;clear h hb;go_enter Tryz.func62,Tryz.ntmps62
 go_wp2_with fail
 go_ret
 obtain⟨h1,h2,h3,hs,hbl⟩:=zcE w (.cells #[.pointer (some ⟨b,0,none⟩)] 123) (.map #[] 0) (.cells #[.map (some (w.heap.size+1))] 187);have hb:=HB.out;refine⟨by rw[hb];rfl,⟨?_,?_,?_,Nat.le_refl _,by omega,λg hg=>by omega,none,0,?_,⟨rfl,.inl ⟨rfl,rfl⟩⟩,λa ha=>by cases ha⟩,by omega,hbl⟩
 ·rw[show b+3=w.heap.size+1+1 by omega,show b+2=w.heap.size+1 by omega];exact h3
 ·rw[show b+1=w.heap.size by omega];exact h1
 ·rw[show b+2=w.heap.size+1 by omega];exact MapZ.laid h2
 ·exact H.out.below hbl (by omega)
def NoteZ(b:Nat)(c:Nat)(s:List Nat)(M:Nat->Prop)(w:World):Prop :=
 ∃M0,(∀g,M g↔M0 g\/g=b+4)/\OnceZ b c s M0 w/\¬M0 (b+4)/\Blk w (b+4) 121 #[zde b]
theorem NoteZ.inv(b:Nat):Inv (NoteZ b) where
 mono c c' s M w:=λ⟨M0,h1,h2,h3⟩ hc=>⟨M0,h1,(OnceZ.inv b).mono _ _ _ _ _ h2 hc,h3⟩
 lt c s M w:=λ⟨M0,h1,h2,h3,h4⟩ g hg=>by
  rcases(h1 g).1 hg with h|h
  ·exact h2.all g h
  ·rw[h];exact h4.lt
 keep c s M w w':=λ⟨M0,h1,h2,h3,h4⟩ hs hk =>
  ⟨M0,h1,(OnceZ.inv b).keep _ _ _ _ _ h2 hs (λg hg=>hk g ((h1 g).2 (.inl hg))),h3,h4.same (hk _ ((h1 _).2 (.inr rfl)))⟩
theorem NoteZ.next {b c:Nat} {s':List Nat} {M M0 M':Nat->Prop} {w w1 w':World}(h1:∀g,M g↔M0 g\/g=b+4)(h3:¬M0 (b+4))(h4:Blk w1 (b+4) 121 #[zde b])(hi:OnceZ b c s' M' w')(hM:∀g,M' g->M0 g\/w1.heap.size<=g)(hc:Chg M0 w1 w')(hb:Below w.heap.size w w1):∃M2,NoteZ b c s' M2 w'/\(∀g,M2 g->M g\/w.heap.size<=g)/\Chg M w w':=by
 have hs:=hb.size;have hl:=h4.lt;refine⟨λg=>M' g\/g=b+4,⟨M',λg=>Iff.rfl,hi,λh=>?_,h4.chg hc h3⟩,λg hg=>?_,(Chg.of_below hb).trans' hc (λg _ h=>(h1 g).2 (.inl h))⟩
 ·rcases hM _ h with h|h
  ·exact h3 h
  ·omega
 ·rcases hg with h|h
  ·rcases hM _ h with h|h
   ·exact .inl ((h1 g).2 (.inl h))
   ·exact .inr (by omega)
  ·exact .inl ((h1 g).2 (.inr h))
end Go.Proofs.YtfafilmklhnngaaGreatDoor
namespace Go.Proofs.YtfafilmklhnngaaGreatDoor
open Go.RowKit Lx Tx Go.Maps Go.WideMaps Go.Shelf
set_option maxRecDepth 100000
def noteMt:Ty->List Nat->List Nat
 |.mt n,s=>addN n s
 |_,s=>s
theorem zit(t:Ty)(s:List Nat):((kd t:Int)==2)=true/\noteMt t s=addN (nn t) s\/((kd t:Int)==2)=false/\noteMt t s=s:=by
 cases t with
 |var x=>exact .inr ⟨rfl,rfl⟩
 |mt n=>exact .inl ⟨rfl,rfl⟩
 |con c l=>exact .inr ⟨rfl,rfl⟩
 |fn a b=>exact .inr ⟨rfl,rfl⟩
 |all x t=>exact .inr ⟨rfl,rfl⟩
theorem zkM(b:Nat):Doer 64 #[.pointer (some ⟨b+4,0,none⟩)] (NoteZ b) noteMt:=by
 intro c s M t S v w hi hv hS hnm hc;obtain⟨M0,hM,hi0,hne,hbk⟩:=hi;obtain⟨K,X,Z,A,m,cp,rfl,hK,-,hZ,-,-⟩:=hv.parts;have hw:=zit t s;rw[<-hK]at hw
 have hN:nn t<=999999:=by cases hnm <;> first|exact Nat.zero_le _|assumption
 obtain⟨n,hn⟩:∃n,nn t=n:=⟨_,rfl⟩;rw[hn]at hw hZ hN
 subst hZ;have hal:Hid (Below w.heap.size w (w.alloc (.cells #[.int .i64 K,.string X,.int .i64 (n:Nat),.slice A m cp] 37))):=hidE ((Below.refl _ w).alloc (Nat.le_refl _) _);obtain⟨y0,-,l0⟩:=zai hbk;have H1:=hidE ((OnceZ.inv b).keep _ _ _ _ (w.alloc (.cells #[.int .i64 K,.string X,.int .i64 (n:Nat),.slice A m cp] 37)) hi0 (by simp) (λg hg=>Below.heap_alloc _ _ _ (hi0.all g hg)));have ek:∀args w,(callFunc 107 args).run Tryz.prog w=.ok (.enter 107 args) w:=enters_of Tryz.func107 (by kernel_rfl) rfl;have HM:=hidE hM;have HNE:=hidE hne;have HBK:=hidE (hbk.below hal.out l0);obtain⟨s',hs'⟩:∃s',noteMt t s=s':=⟨_,rfl⟩;rw[hs']at hw ⊢
 clear hK hn hv hnm hi0 hM hne hbk hs' hS;unfold zde at y0;rcases hw with⟨d1,hr⟩|⟨d1,rfl⟩
 ·have HR:=hidE hr
  clear hr;go_enter Tryz.func64,Tryz.ntmps64
  go_wp2_with fail
  refine(zmA b c s M0 n _ H1.out hN hc).mono ?_;rintro e w' ⟨rfl,M',i',hM',c'⟩;have HF:=hidE (NoteZ.next HM.out HNE.out HBK.out i' hM' c' hal.out);clear i' hM' c';go_wp2_with fail
  first|go_end0|refine bodyPost_ret (results_none rfl _ _ _) rfl ?_
  rw[HR.out]
  exact⟨rfl,HF.out⟩
 ·go_enter Tryz.func64,Tryz.ntmps64
  go_wp2_with fail
  first|go_end0|refine bodyPost_ret (results_none rfl _ _ _) rfl ?_
  exact⟨rfl,NoteZ.next HM.out HNE.out HBK.out ((OnceZ.inv b).mono _ _ _ _ _ H1.out (by omega)) (λg hg=>.inl hg) (Chg.refl M0 _) hal.out⟩
def zb5(t:Ty):List Nat:=thr (atLeaf noteMt) (λ_ _ s=>s) [] t []
theorem zmB(t:Ty)(S:Nat->Prop)(v:Value)(w:World)(hv:RdV S w t v)(hS:∀g,S g->g<w.heap.size)(hnm:Nm t)(hsz:t.size<=1000000):Calls Tryz.prog 25 #[v] w λe w'=>∃A cp,e=.returned (.slice A (zb5 t).length cp)/\w'.ownsRow w.heap.size 3 1 (.slice A (zb5 t).length cp) (zb5 t).length (intV (zb5 t))/\(zb5 t).length<=2000000/\Below w.heap.size w w':=by
 obtain⟨K,X,Z,A,m,cp,rfl,-,-,-,-,-⟩:=hv.parts;have hmf:∀(fn:Fn) (first cap:Array Value) (w:World),(Instr.makeFunc fn first cap).run Tryz.prog w=.ok (.func fn first cap) w:=λ_ _ _ _=>rfl;have HV:=hidE hv;have HS:=hidE hS;have HNM:=hidE hnm;clear hv hS hnm;go_enter Tryz.func25,Tryz.ntmps25
 go_wp2_with fail
 obtain⟨h1,h2,hs2,hbl⟩:=za2 w (.cells #[.int .i64 K,.string X,.int .i64 Z,.slice A m cp] 37) (.cells #[.slice none 0 0] 61);refine(zis (w.heap.size+1) _ hs2 h2).mono ?_;rintro e w1 ⟨rfl,ho,hs1,b1⟩;have hl1:=hbl.trans (b1.mono (by omega));have ht1:Blk w1 w.heap.size 37 #[.int .i64 K,.string X,.int .i64 Z,.slice A m cp]:=Blk.below h1 b1 (by omega);obtain⟨p0,p1,p2,p3,s0,s1,s2,s3,hlx⟩:=zaa ht1;have HO:=hidE ho;have HS1:=hidE hs1;have HL1:=hidE hl1;clear h1 h2 hs2 hbl ho hs1 b1 hl1 ht1;unfold zde;go_wp2_with fail
 have hs1:=HS1.out;have hl2:Below w.heap.size w (w1.alloc (.cells #[zde (w.heap.size+1)] 121)):=HL1.out.alloc (by have:=HL1.out.size;omega) _;have hb4:Blk (w1.alloc (.cells #[zde (w.heap.size+1)] 121)) (w.heap.size+1+4) 121 #[zde (w.heap.size+1)]:=by rw[<-hs1];exact heap_alloc_new w1 _
 have hle:=zgx 64 #[.pointer (some ⟨w.heap.size+1+4,0,none⟩)] (NoteZ (w.heap.size+1)) noteMt (NoteZ.inv _) (enters_of Tryz.func64 (by kernel_rfl) rfl) (zkM _)
  0 [] (λg=>(w.heap.size+1<=g/\g<=w.heap.size+1+3)\/g=w.heap.size+1+4) t S _ _
  ⟨_,λg=>Iff.rfl,(OnceZ.inv _).keep _ _ _ _ _ HO.out (by simp) (λg hg=>Below.heap_alloc _ _ _ (by omega)),by omega,hb4⟩
  (HV.out.keep (λ_ h=>h) (λg hg=>hl2.block g (HS.out g hg))) (λg hg=>⟨by have:=HS.out g hg;have:=hl2.size;omega,by have:=HS.out g hg;omega⟩) HNM.out hsz (by omega)
 rw[<-hs1]at hle
 refine hle.mono ?_;rintro e w3 ⟨rfl,M',⟨M0,-,hi3,-,-⟩,hM',c3⟩;obtain⟨A3,cp3,hbk3,hown3,-⟩:=hi3.row;obtain⟨q0,q1,q2⟩:=zai hbk3;have hlen:=hi3.len;have HB:=hidE (hl2.trans (c3.toBelow (B:=w.heap.size) (by have:=hl2.size;omega) (λk hk h=>by omega)));have HOWN:=hidE (zdQ hown3 (show w.heap.size<=w.heap.size+1+4 by omega));have HLEN:=hidE (show(zb5 t).length<=2000000 by unfold zb5;omega);clear hle hl2 hb4 hs1 hi3 hbk3 hM' c3 hown3 hlen HO;replace q0:w3.cell? ⟨w.heap.size+1,0,none⟩=some (.slice A3 (zb5 t).length cp3):=q0;go_wp2_with fail
 go_ret
 exact⟨A3,cp3,rfl,HOWN.out,HLEN.out,HB.out⟩
end Go.Proofs.YtfafilmklhnngaaGreatDoor
namespace Go.Proofs.YtfafilmklhnngaaGreatDoor
open Go.RowKit Lx Tx Go.Maps Go.WideMaps Go.Shelf
set_option maxRecDepth 100000
theorem zmC(l:List Name)(i:Nat)(hi:i<l.length):(strV l)[i]?=some (.string ⟨l[i].toArray⟩):=by simp[strV,List.getElem?_eq_getElem hi]
def zo3(b:Nat)(dn l:List Name)(w0:World)(gg:Nat)(v:Value)(wr:World):Prop :=
 ∃i:Nat,v=.int .i64 i/\gg=l.length-i/\i<=l.length/\MapE mkSet wr b (units (dn++l.take i))/\Chg (only b) w0 wr
def zoH(b:Nat)(L:List (List Name))(w0:World)(gg:Nat)(v:Value)(wr:World):Prop :=
 ∃j:Nat,v=.int .i64 j/\gg=L.length-j/\j<=L.length/\MapE mkSet wr b (units (L.take j).flatten)/\Chg (only b) w0 wr
def zkN(w:World)(g:Nat)(L:List (List Name)):Prop :=
 ∀j (hj:j<L.length),∃A cp,w.cell? ⟨g,j,none⟩=some (.slice A L[j].length cp)/\RowV w (.slice A L[j].length cp) (strV L[j])
theorem zgz(L:List (List Name))(j:Nat)(hj:j<L.length):(L.take (j+1)).flatten=(L.take j).flatten++L[j]:=by
 rw[List.take_succ_eq_append_getElem hj,List.flatten_append];simp
theorem zhw(L:List (List Name))(j i:Nat)(hj:j<L.length):((L.take j).flatten++L[j].take i).length<=L.flatten.length:=by
 have h:L.flatten=(L.take j).flatten++(L[j]++(L.drop (j+1)).flatten):=by
  rw[<-List.append_assoc,<-zgz L j hj,<-List.flatten_append,List.take_append_drop]
 rw[h]
 simp only[List.length_append,List.length_take];omega
theorem zn2(L:List (List Name))(g c:Nat)(w:World)(h:zkN w g L)(hg:g<w.heap.size)(hl:∀x∈L.flatten,x.length<=maxLen)(hlen:L.flatten.length<=10000000)(hL:L.length<=1000):Calls Tryz.prog 41 #[.slice (some ⟨g,0,none⟩) L.length c] w λe w'=>e=.returned (.map (some w.heap.size))/\MapE mkSet w' w.heap.size (units L.flatten)/\Below w.heap.size w w':=by
 have hmm:∀w,(Instr.makeMap 93 none).run Tryz.prog w=.ok (.map (some w.heap.size)) (w.alloc (.map #[] 0)):=λ_=>rfl;have H:=hidE h;have HL:=hidE hl;have HF:=hidE hlen;obtain⟨n,hn⟩:∃n,L.length=n:=⟨_,rfl⟩;have HN:=hidE hn;rw[hn]at hL ⊢
 clear h hl hn hlen;go_enter Tryz.func41,Tryz.ntmps41
 go_wp2_with fail
 go_loopg [11] n (λgg vi wr=>zoH w.heap.size L (w.alloc (.map #[] 0)) gg vi wr)
 case atStart =>
  exact⟨0,rfl,by rw[HN.out];omega,Nat.zero_le _,by rw[List.take_zero];exact MapE.made mkSet w,Chg.refl _ _⟩
 case round =>
  obtain⟨j,rfl,hgg,hj,hm,hc⟩:=hrel;have HM:=hidE hm;have HC:=hidE hc;rw[HN.out]at hgg hj
  clear hm hc;by_cases hjn:j<n
  ·have hj':j<L.length:=by rw[HN.out];exact hjn
   obtain⟨A,cp,hcell,hrow⟩:=H.out j hj';have hgw:wr.heap[g]?=w.heap[g]?:=(HC.out.block g (by simp;omega) (by unfold only;omega)).trans (Below.heap_alloc _ _ _ hg);have hx0:wr.cell? ⟨g,j,none⟩=some (.slice A L[j].length cp):=(World.cell?_of_block (w:=w) (a:=⟨g,j,none⟩) hgw).trans hcell;obtain⟨m,hm⟩:∃m,L[j].length=m:=⟨_,rfl⟩;have hmb:m<=10000000:=by have:=zhw L j m hj';have:=HF.out;rw[List.length_append,List.length_take,hm]at *;omega
   have HMM:=hidE hm;have HR:=hidE hrow;rw[hm]at hx0
   have gk_old:=hgg;clear hcell hgw hrow hm;go_wp2_with fail
   go_loopg [17] m (λgg vi wr'=>zo3 w.heap.size (L.take j).flatten L[j] (w.alloc (.map #[] 0)) gg vi wr')
   case atStart =>
    exact⟨0,rfl,by rw[HMM.out];omega,Nat.zero_le _,by rw[List.take_zero,List.append_nil];exact HM.out,HC.out⟩
   case round =>
    obtain⟨i,rfl,hgi,hi,hm2,hc2⟩:=hrel;have HM2:=hidE hm2;have HC2:=hidE hc2;rw[HMM.out]at hgi hi
    clear hm2 hc2;by_cases hlt:i<m
    ·have hlt':i<L[j].length:=by rw[HMM.out];exact hlt
     obtain⟨A',c',hv,hp⟩:=HR.out;obtain⟨g2,hA',hg2,hcl⟩:=hp (by rw[zmj];omega);injection hv with hv _ hv2;rw[hA']at hv
     subst hv;have hgw2:=(HC2.out.block g2 (by simp;omega) (by unfold only;omega)).trans (Below.heap_alloc w (.map #[] 0) g2 hg2);obtain⟨y,hy⟩:∃y,L[j][i]=y:=⟨_,rfl⟩;have hx:=hcl i _ (zmC L[j] i hlt');rw[<-World.cell?_of_block (w:=w) (a:=⟨g2,i,none⟩) hgw2]at hx
     have hX24:L[j][i].length<=maxLen:=HL.out _ (List.mem_flatten.2 ⟨_,List.getElem_mem hj',List.getElem_mem hlt'⟩);have HTK:Hid (L[j].take (i+1)=L[j].take i++[y]):=hidE (by rw[List.take_succ_eq_append_getElem hlt',hy]);rw[hy]at hx hX24
     clear hy;obtain⟨X,hX⟩:∃X:ByteArray,(⟨y.toArray⟩:ByteArray)=X:=⟨_,rfl⟩;have HXL:Hid (X.data.toList=y):=hidE (by rw[<-hX]);have HX:Hid (X.size<=maxLen):=hidE (by rw[<-hX];show y.toArray.size<=maxLen;rw[List.size_toArray];exact hX24);have HUL:Hid ((units ((L.take j).flatten++L[j].take i)).length<1000000000):=hidE (by have:=zhw L j i hj';have:=HF.out;unfold units;rw[List.length_map,List.length_reverse];omega);rw[hX]at hx
     clear hcl hgw2 hX hp hA' hv2 hlt' hX24;go_wp2_with (at_mapUpdate;refine zcD mkSet _ rfl _ _ _ rfl w.heap.size (units ((L.take j).flatten++L[j].take i)) rfl HM2.out HUL.out X HX.out rfl () trivial rfl ?_;intro w1 hm1 hg1;have HM1:=hidE hm1;have HG1:=hidE hg1;clear hm1 hg1)
     go_roundg (m-(i+1))
     case measure=>omega
     case rel =>
      refine⟨i+1,by go_num,by rw[HMM.out],by rw[HMM.out];omega,?_,HC2.out.grown HG1.out (λk hk=>.inr (by injection hk with hk;exact hk.symm))⟩;rw[HTK.out,<-List.append_assoc,zfu,<-HXL.out]
      exact HM1.out
    ·have hend:L[j].take i=L[j]:=List.take_of_length_le (by rw[HMM.out];omega)
     have HE:=hidE hend;clear hend;go_wp2_with fail
     go_roundg (n-(j+1))
     case measure=>omega
     case rel =>
      refine⟨j+1,by go_num,by rw[HN.out],by rw[HN.out];omega,?_,HC2.out⟩;have:=HM2.out;rw[HE.out]at this
      rw[zgz L j hj']
      exact this
  ·have hend:L.take j=L:=List.take_of_length_le (by have:=HN.out;omega)
   have HE:=hidE hend;clear hend;go_wp2_with fail
   go_ret
   refine⟨rfl,by have:=HM.out;rw[HE.out]at this;exact this,((Below.refl _ w).alloc (Nat.le_refl _) _).trans (HC.out.toBelow (by simp) (λk hk h=>by unfold only at h;omega))⟩
theorem zoI(L:List (List Name))(g c:Nat)(w:World)(h:zkN w g L)(hg:g<w.heap.size)(hl:∀x∈L.flatten,x.length<=24)(hlen:L.flatten.length<=10000000)(hL:L.length<=1000):Calls Tryz.prog 41 #[.slice (some ⟨g,0,none⟩) L.length c] w λe w'=>e=.returned (.map (some w.heap.size))/\MapE mkSet w' w.heap.size (units L.flatten)/\Below w.heap.size w w' :=
 zn2 L g c w h hg (λx hx=>Nat.le_trans (hl x hx) (by unfold maxLen;omega)) hlen hL
end Go.Proofs.YtfafilmklhnngaaGreatDoor
namespace Go.Proofs.YtfafilmklhnngaaGreatDoor
open Go.RowKit Lx Tx Go.Maps Go.WideMaps Go.Shelf
set_option maxRecDepth 100000
end Go.Proofs.YtfafilmklhnngaaGreatDoor
