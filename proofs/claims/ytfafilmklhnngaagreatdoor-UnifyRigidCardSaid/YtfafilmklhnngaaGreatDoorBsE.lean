import Derived.Test.YtfafilmklhnngaaGreatDoorBsA
import Derived.RangeFuncNested
import Derived.RangeFuncBound
import Derived.RangeFuncCalls
import Derived.RangeFuncLeaves
set_option maxHeartbeats 12800000
set_option maxRecDepth 100000
namespace Go.Proofs.YtfafilmklhnngaaGreatDoor
section
open Go.RowKit
def i_(r:Loop)(l D:Nat)(W:World):Prop:=W.heap[l]?=some (.loop r)/\W.heap[D]?=some (.deferred (some []))
theorem i_.al {r:Loop} {l D:Nat} {W W':World}(h:i_ r l D W)(h1:W'.heap[l]?=W.heap[l]?)(h2:W'.heap[D]?=W.heap[D]?):i_ r l D W':=⟨h1.trans h.1,h2.trans h.2⟩
theorem i_.lt {r:Loop} {l D:Nat} {W:World}(h:i_ r l D W):l<W.heap.size/\D<W.heap.size:=⟨(BV.1 h.1).1,(BV.1 h.2).1⟩
theorem i_.below {r:Loop} {l D:Nat} {W W':World}(h:i_ r l D W)(hb:Below W.heap.size W W'):i_ r l D W':=h.al (hb.block _ h.lt.1) (hb.block _ h.lt.2)
theorem i_.setCell {r:Loop} {l D:Nat} {W:World}(h:i_ r l D W)(p:Addr)(v:Value)(h1:p.block≠l)(h2:p.block≠D):i_ r l D (W.setCell p v) :=
 h.al (B8 _ _ _ _ (Et h1)) (B8 _ _ _ _ (Et h2))
def Nq {σ:Type}(r:Loop)(l D:Nat)(Jn:σ->World->Prop)(Js:Code->World->Prop)(s:σ):Exit->Act->World->Prop
 |.normal,_,W'=>Jn s W'/\i_ r l D W'
 |.ret,_,W'=>Js .ret W'/\i_ r l D W'
 |.exit id,_,W'=>Js (.exit id) W'/\i_ r l D W'
 |.goto t,_,W'=>Js (.goto t) W'/\i_ r l D W'
 |.panic _,_,_=>False
 |.outgrown,_,_=>False
def Np {σ:Type}(rec:LoopState->Option Code->Loop)(l D:Nat)(Jn:σ->World->Prop)(Js:Code->World->Prop)(s:σ)(e:Ending)(W':World):Prop :=
 (e=.returned (.bool true)/\Jn s W'/\i_ (rec .ready none) l D W')\/(e=.returned (.bool false)/\∃c,Js c W'/\i_ (rec .done (some c)) l D W')
def RB(rec:LoopState->Option Code->Loop)(l D:Nat)(Jd:World->Prop)(Js:Code->World->Prop)(e:Ending)(W':World):Prop :=
 (∃v,e=.returned v)/\((Jd W'/\i_ (rec .ready none) l D W')\/∃c,Js c W'/\i_ (rec .done (some c)) l D W')
def Ip(l:Nat)(I:World->Prop):Prop:=∀(W:World)(r r':Loop),I W->W.heap[l]?=some (.loop r)->I (W.putObj l (.loop r'))
variable {F:Fence} {n:Nat} {P:Program}
theorem P5 {σ:Type} {g:Operand} {ps:Array Tmp} {assign body:Code} {Q:Exit->Act->World->Prop} {a:Act} {w:World}
  (jo:F.round=none)(h1:1<=n) {gf:Nat} {fb lb:Array Value}(hg:a.eval g=.func (.func gf) fb lb)(hFg:F.fn gf)(eg:∀args w,(callFunc gf args).run P w=.ok (.enter gf args) w)
  (enc:σ->Array Value)(hps:∀s,(enc s).size=ps.size)
  (J Jn:σ->World->Prop)(Ax:σ->Act->World->Prop)(Jd:World->Prop)(Js:Code->World->Prop)
  (hAx:∀s a₁,Ip (w.heap.size+1) (Ax s a₁))(hJn:∀s,Ip (w.heap.size+1) (Jn s))(hJd:Ip (w.heap.size+1) Jd)(TY:∀c,Ip (w.heap.size+1) (Js c))
  (ry:∀(r:Loop)(s:σ)(W:World),J s W->i_ r (w.heap.size+1) w.heap.size W ->
   assign.wpIn (F.inRound (w.heap.size+1)) (n-1-1) P (Exit.then (λa₁ W₁=>i_ r (w.heap.size+1) w.heap.size W₁/\Ax s a₁ W₁) (λ_ _ _=>False)) { tmps:=(ps.zip (enc s)).foldl (λt (p,v)=>t.setIfInBounds p v) a.tmps,defers:=[] } W)
  (zP:∀(r:Loop)(s:σ)(a₁:Act)(W:World),Ax s a₁ W->i_ r (w.heap.size+1) w.heap.size W->body.wpIn (F.inRound (w.heap.size+1)) (n-1-1) P (Nq r (w.heap.size+1) w.heap.size Jn Js s) a₁ W)
  (zh:∀(rec:LoopState->Option Code->Loop)(W1:World),Below w.heap.size w W1->W1.heap.size=w.heap.size+2->i_ (rec .ready none) (w.heap.size+1) w.heap.size W1 ->
   (∀s W,J s W->i_ (rec .ready none) (w.heap.size+1) w.heap.size W->YieldAt F (n-1-1) P (w.heap.size+1) (enc s) W (Np rec (w.heap.size+1) w.heap.size Jn Js s)) ->
   CallsIn F (n-1) P gf (fb++#[.func (.yield (w.heap.size+1)) #[] #[]]++lb) W1 (RB rec (w.heap.size+1) w.heap.size Jd Js))
  (zJ:∀(W:World),Jd W->W.heap[w.heap.size]?=some (.deferred (some []))->Q .normal { a with defers:={ target:=.collected w.heap.size,args:=#[] }::a.defers } W)
  (lH:∀(c:Code)(W:World),Js c W->W.heap[w.heap.size]?=some (.deferred (some []))->c.wpIn F n P Q { a with defers:={ target:=.collected w.heap.size,args:=#[] }::a.defers } W):(Code.rangeFunc g ps assign body).wpIn F n P Q a w:=by
 refine wpIn_rangeFunc ?_;intro fn fC;rw[jo];obtain⟨rec,iz⟩:∃rec:LoopState->Option Code->Loop,rec=λst pe=>{ state:=st,pending:=pe,fn,tmps:=a.tmps,params:=ps,assign,body,defers:=w.heap.size }:=⟨_,rfl⟩;obtain⟨W1,rz⟩:∃W1,(w.alloc (.deferred (some []))).alloc (.loop (rec .ready none))=W1:=⟨_,rfl⟩;have rE:W1.heap[w.heap.size+1]?=some (.loop (rec .ready none)):=by
  rw[<-rz];have:=World.alloc_heap_new (w.alloc (.deferred (some []))) (.loop (rec .ready none));rwa [World.size_alloc]at this
 have fM:W1.heap[w.heap.size]?=some (.deferred (some [])):=by
  rw[<-rz];exact(BX _ _ _ (by simp)).trans (World.alloc_heap_new w _)
 have av:Below w.heap.size w W1:=by
  rw[<-rz];exact((Cc _ w).alloc (BU _) _).alloc (by simp) _
 have aH:W1.heap.size=w.heap.size+2:=by rw[<-rz];simp
 refine⟨w.heap.size+1,[{ target:=.collected w.heap.size,args:=#[] }],W1,{ target:=.fn (.func gf) lb,args:=fb++#[.func (.yield (w.heap.size+1)) #[] #[]] },W1,gf,
  fb++#[.func (.yield (w.heap.size+1)) #[] #[]]++lb,W1,?_,?_,?_,?_,λ_=>h1,?_⟩
 ·rw[<-rz,iz];exact run_enterLoop_outer _ _ _ _ _
 ·simp only[resolve,hg]
  simp[go_sem]
 ·intro f' nI;simp[Target.leads]at nI;subst nI;exact hFg
 ·simp[invoke,go_sem,eg]
 ·refine(zh rec W1 av aH ⟨rE,fM⟩ ?_).mono ?_
  ·rintro s W hj ⟨hl,hk⟩
   have af:w.heap.size+1<W.heap.size:=(BV.1 hl).1;have hy:=run_yield (P:=P) (args:=enc s) hl (by rw[iz];exact hps s);rw[iz]at hy;refine⟨fn,_,assign,body,hy,roundIn_of_wpIn fC (wpIn_mono (ry _ s W hj ⟨hl,hk⟩) ?_)⟩;intro e a₁ W₁ hp;cases e with
   |normal =>
    obtain⟨⟨cR,aU⟩,hax⟩:=hp;have ey:w.heap.size+1<W₁.heap.size:=(BV.1 cR).1;refine⟨_,run_beginRound cR (by rw[iz]),?_⟩;have ez:(W₁.putObj (w.heap.size+1) (.loop { rec .ready none with state:=.busy })).heap[w.heap.size+1]?=some (.loop { rec .ready none with state:=.busy }):=World.putObj_heap_same ey;have bZ:(W₁.putObj (w.heap.size+1) (.loop { rec .ready none with state:=.busy })).heap[w.heap.size]?=some (.deferred (some [])):=(CC (by omega)).trans aU;refine wpIn_mono (zP _ s a₁ _ (hAx s a₁ _ _ _ hax cR) ⟨ez,bZ⟩) ?_;have fin:∀(jump:Option Code) (W3:World),i_ { rec .ready none with state:=.busy } (w.heap.size+1) w.heap.size W3 ->
      (Instr.endRound (w.heap.size+1) jump).run P W3=.ok (.bool jump.isNone) (W3.putObj (w.heap.size+1) (.loop (rec (if jump.isNone then .ready else .done) jump))) /\
      i_ (rec (if jump.isNone then .ready else .done) jump) (w.heap.size+1) w.heap.size (W3.putObj (w.heap.size+1) (.loop (rec (if jump.isNone then .ready else .done) jump))):=λjump W3 fK=>by
     obtain⟨iH,hd3⟩:=fK;have:=run_endRound (P:=P) jump iH;rw[iz]at this ⊢;exact⟨this,World.putObj_heap_same (BV.1 iH).1,(CC (by omega)).trans hd3⟩
    rintro e a3 W3 hp;cases e with
    |normal =>
     obtain⟨kJ,fK⟩:=hp;obtain⟨hr,iH⟩:=fin none W3 fK;exact⟨_,_,hr,.inl ⟨rfl,hJn s _ _ _ kJ fK.1,iH⟩⟩
    |ret =>
     obtain⟨kJ,fK⟩:=hp;obtain⟨hr,iH⟩:=fin (some .ret) W3 fK;exact⟨_,_,hr,.inr ⟨rfl,.ret,TY _ _ _ _ kJ fK.1,iH⟩⟩
    |exit id =>
     obtain⟨kJ,fK⟩:=hp;obtain⟨hr,iH⟩:=fin (some (.exit id)) W3 fK;exact⟨_,_,hr,.inr ⟨rfl,.exit id,TY _ _ _ _ kJ fK.1,iH⟩⟩
    |goto t =>
     obtain⟨kJ,fK⟩:=hp;obtain⟨hr,iH⟩:=fin (some (.goto t)) W3 fK;exact⟨_,_,hr,.inr ⟨rfl,.goto t,TY _ _ _ _ kJ fK.1,iH⟩⟩
    |panic ch=>exact hp.elim
    |outgrown=>exact hp.elim
   |exit id=>exact hp.elim
   |goto t=>exact hp.elim
   |ret=>exact hp.elim
   |panic ch=>exact hp.elim
   |outgrown=>exact hp.elim
  ·rintro e W2 ⟨⟨v,rfl⟩,(⟨hi,hl,hk⟩|⟨c,hi,hl,hk⟩)⟩
   ·exact⟨none,_,by have:=run_endLoop (P:=P) hl (by rw[iz];simp);rw[iz]at this;exact this,zJ _ (hJd _ _ _ hi hl) ((CC (by omega)).trans hk)⟩
   ·exact⟨some c,_,by have:=run_endLoop (P:=P) hl (by rw[iz];simp);rw[iz]at this;exact this,lH c _ (TY c _ _ _ hi hl) ((CC (by omega)).trans hk)⟩
end
end Go.Proofs.YtfafilmklhnngaaGreatDoor
