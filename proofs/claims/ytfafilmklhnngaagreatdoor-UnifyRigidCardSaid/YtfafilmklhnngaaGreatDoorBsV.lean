import Derived.Test.YtfafilmklhnngaaGreatDoorBsT
import Derived.Deep.CutRange
set_option maxHeartbeats 12800000
set_option maxRecDepth 100000
namespace Go.Proofs.YtfafilmklhnngaaGreatDoor
open Tryz
section
open Go.RowKit Lx Tx Go.Maps Go.WideMaps
set_option maxRecDepth 100000
theorem l_.Nl {w w':World} {G:Nat->Option Nd} {D:Nat->Dy} {mb:Nat} {κ:Type} [DecidableEq κ] {kv:κ->Value} {f:κ->Option Nat}(h:l_ w G D)(hm:d_ kv Lq w mb f)(hc:b_ (only mb) w w'):l_ w' G D :=
 h.same λk hk ⟨_,_,hx⟩=>hc.block k hk (λe=>by
  have e:k=mb:=e;rw[e]at hx;exact hm.no hx)
theorem znr {w w':World} {mv mu:Nat} {G:Nat->Option Nd} {D:Nat->Dy} {V:Name->Option Nat} {U:Nat->Option Nat}(h:Lays w mv mu G D V U)(ai:mv≠mu)(x:Name) {A:Option Addr} {m c:Nat} {e:Ending}
  (hp:Nn SK mv V x (Hn 1 ⟨x.toArray⟩ 0 A m c) w e w'):EV mv mu G D V U (.var x) w e w':=by
 obtain⟨p,rfl,sC,hold,fV,hc⟩:=hp;have aA:=hc.size;have wE:Ku w' mu U:=d_.al h.mi (hc.block _ (d_.lt h.mi) (λe=>ai (show mu=mv from e).symm)) (λ_ h=>h);have bH:=h.pd.Nl h.ms hc;have hC:b_ (λg=>g=mv\/g=mu) w w':=hc.mono λ_ _ h=>.inl h;cases hv:V x with
 |some q =>
  have hq:=hold q hv;subst hq;have hV:(λy=>if y=x then some p else V y)=V:=funext λy=>by
   by_cases hy:y=x
   ·rw[Ch hy,hy,hv]
   ·rw[Cg hy]
  rw[hV]at sC;exact⟨p,[],G,D,V,U,rfl,⟨sC,wE,bH,h.vn,h.un,h.dn⟩,G6.refl λq x hx=>h.lt hx,.var _ _ _ hv,Dr,(λq hq=>by cases hq),hC⟩
 |none =>
  obtain⟨jr,hb⟩:=fV hv;have af:=hb.lt;have hG:∀q y,G q=some y->q≠p:=λq y hy e=>by have:=h.lt hy;omega
  refine⟨p,[],Gn G p (some ⟨1,⟨x.toArray⟩,0,[],none,false⟩),Gn D p ⟨.slice A m c,false,0,0⟩,Gn V x (some p),U,rfl,⟨sC,wE,λq y hy=>?_,λy q hy=>?_,λn q hn=>?_,λq y hy=>?_⟩,⟨λq hq=>?_,λq y hy hl=>?_,λy q hy=>?_,λ_ _ h=>h,λy q hy=>?_⟩,.var _ _ _ (Gm _ _ _),Dr,(λq hq=>by cases hq),hC⟩
  ·by_cases G_:q=p
   ·subst G_
    rw[Gm]at hy ⊢;injection hy with hy;subst hy;exact⟨none,0,hb,λhk=>absurd rfl hk⟩
   ·rw[Fk _ _ _ _ G_]at hy ⊢
    exact bH q y hy
  ·by_cases bU:y=x
   ·rw[bU,Gm]at hy
    injection hy with hy;subst hy;exact⟨false,by rw[Gm,bU]⟩
   ·rw[Fk _ _ _ _ bU]at hy
    obtain⟨nw,h1⟩:=h.vn y q hy;exact⟨nw,by rw[Fk _ _ _ _ (hG q _ h1)];exact h1⟩
  ·have h1:=h.un n q hn
   rw[Fk _ _ _ _ (hG q _ h1)];exact h1
  ·by_cases G_:q=p
   ·rw[G_,Gm];exact⟨rfl,rfl,_,_,_,rfl⟩
   ·rw[Fk _ _ _ _ G_]at hy ⊢;exact h.dn q y hy
  ·have:q≠p:=by omega
   rw[Fk _ _ _ _ this,Fk _ _ _ _ this];exact⟨rfl,rfl⟩
  ·by_cases G_:q=p
   ·subst G_
    rw[Gm]at hy;injection hy with hy;subst hy;exact⟨af,λhk=>absurd rfl hk⟩
   ·rw[Fk _ _ _ _ G_]at hy
    have:=h.lt hy;omega
  ·have:y≠x:=λe=>by rw[e,hv]at hy;cases hy
   rw[Fk _ _ _ _ this];exact hy
  ·by_cases bU:y=x
   ·rw[bU,Gm]at hy
    injection hy with hy;subst hy;exact .inr ⟨by rw[bU];exact hv,by rw[Gm,bU]⟩
   ·rw[Fk _ _ _ _ bU]at hy;exact .inl hy
theorem zpq {w w':World} {mv mu:Nat} {G:Nat->Option Nd} {D:Nat->Dy} {V:Name->Option Nat} {U:Nat->Option Nat}(h:Lays w mv mu G D V U)(ai:mv≠mu)(x:Nat) {A:Option Addr} {m c:Nat} {e:Ending}
  (hp:Nn IK mu U x (Hn 2 ⟨#[]⟩ (x:Nat) A m c) w e w'):EV mv mu G D V U (.mt x) w e w':=by
 obtain⟨p,rfl,wE,hold,fV,hc⟩:=hp;have aA:=hc.size;have sC:Jc w' mv V:=d_.al h.ms (hc.block _ (d_.lt h.ms) (λe=>ai (show mv=mu from e))) (λ_ h=>h);have bH:=h.pd.Nl h.mi hc;have hC:b_ (λg=>g=mv\/g=mu) w w':=hc.mono λ_ _ h=>.inr h;cases hv:U x with
 |some q =>
  have hq:=hold q hv;subst hq;have hU:(λy=>if y=x then some p else U y)=U:=funext λy=>by
   by_cases hy:y=x
   ·rw[Ch hy,hy,hv]
   ·rw[Cg hy]
  rw[hU]at wE;exact⟨p,[],G,D,V,U,rfl,⟨sC,wE,bH,h.vn,h.un,h.dn⟩,G6.refl λq x hx=>h.lt hx,.mt _ _ _ hv,Dr,(λq hq=>by cases hq),hC⟩
 |none =>
  obtain⟨jr,hb⟩:=fV hv;have af:=hb.lt;have hG:∀q y,G q=some y->q≠p:=λq y hy e=>by have:=h.lt hy;omega
  refine⟨p,[],Gn G p (some ⟨2,⟨#[]⟩,x,[],none,false⟩),Gn D p ⟨.slice A m c,false,0,0⟩,V,Gn U x (some p),rfl,⟨sC,wE,λq y hy=>?_,λy q hy=>?_,λn q hn=>?_,λq y hy=>?_⟩,⟨λq hq=>?_,λq y hy hl=>?_,λ_ _ h=>h,λy q hy=>?_,λ_ _ h=>.inl h⟩,.mt _ _ _ (Gm _ _ _),Dr,(λq hq=>by cases hq),hC⟩
  ·by_cases G_:q=p
   ·subst G_
    rw[Gm]at hy ⊢;injection hy with hy;subst hy;exact⟨none,0,hb,λhk=>absurd rfl hk⟩
   ·rw[Fk _ _ _ _ G_]at hy ⊢
    exact bH q y hy
  ·obtain⟨nw,h1⟩:=h.vn y q hy
   exact⟨nw,by rw[Fk _ _ _ _ (hG q _ h1)];exact h1⟩
  ·by_cases bU:n=x
   ·rw[bU,Gm]at hn
    injection hn with hn;subst hn;rw[Gm,bU]
   ·rw[Fk _ _ _ _ bU]at hn
    have h1:=h.un n q hn;rw[Fk _ _ _ _ (hG q _ h1)];exact h1
  ·by_cases G_:q=p
   ·rw[G_,Gm];exact⟨rfl,rfl,_,_,_,rfl⟩
   ·rw[Fk _ _ _ _ G_]at hy ⊢;exact h.dn q y hy
  ·have:q≠p:=by omega
   rw[Fk _ _ _ _ this,Fk _ _ _ _ this];exact⟨rfl,rfl⟩
  ·by_cases G_:q=p
   ·subst G_
    rw[Gm]at hy;injection hy with hy;subst hy;exact⟨af,λhk=>absurd rfl hk⟩
   ·rw[Fk _ _ _ _ G_]at hy
    have:=h.lt hy;omega
  ·have:y≠x:=λe=>by rw[e,hv]at hy;cases hy
   rw[Fk _ _ _ _ this];exact hy
theorem EV.from {mv mu:Nat} {G:Nat->Option Nd} {D:Nat->Dy} {V:Name->Option Nat} {U:Nat->Option Nat} {t:Ty} {w w1 w':World} {e:Ending}(h:EV mv mu G D V U t w1 e w')(hb:Below w.heap.size w w1)(hG:∀q x,G q=some x->q<w.heap.size):EV mv mu G D V U t w e w':=by
 obtain⟨p,ns,G',D',V',U',he,hl,hx,ht,hn,iX,hc⟩:=h;have hs:=hb.size;refine⟨p,ns,G',D',V',U',he,hl,⟨λq hq=>hx.GD q (by omega),λq y hy ku=>?_,hx.vx,hx.ux,hx.vn⟩,ht,hn,λq hq=>?_,(b_.c_ hb).trans' hc (λg _ h=>h)⟩
 ·by_cases hq:q<w1.heap.size
  ·rw[(hx.GD q hq).1]at hy
   have:=hG q y hy;omega
  ·obtain⟨h1,h2⟩:=hx.new q y hy (by omega)
   exact⟨h1,λhk=>by have:=h2 hk;omega⟩
 ·have:=iX q hq
  omega
theorem zlU(b mv mu:Nat)(x:Name)(A:Option Addr)(m c:Nat)(w:World)(sl mk sr:Value)(G:Nat->Option Nd)(D:Nat->Dy)(V:Name->Option Nat)(U:Nat->Option Nat)(hb:ar w b 85 #[sl,.map (some mv),.map (some mu),mk,sr])(hl:Lays w mv mu G D V U)(ai:mv≠mu):Calls prog 33 #[.pointer (some ⟨b,0,none⟩),.agg #[.int .i64 1,.string ⟨x.toArray⟩,.int .i64 0,.slice A m c]] w (EV mv mu G D V U (.var x) w):=by
 obtain⟨w1,bX⟩:∃w1,w.alloc (.cells #[.int .i64 1,.string ⟨x.toArray⟩,.int .i64 0,.slice A m c] 37)=w1:=⟨_,rfl⟩;have av:Below w.heap.size w w1:=by rw[<-bX];exact(Cc _ w).alloc (BU _) _
 have aH:w1.heap.size=w.heap.size+1:=by rw[<-bX];simp
 have jQ:=hb.below av hb.lt;have gA:ar w1 w.heap.size 37 #[.int .i64 1,.string ⟨x.toArray⟩,.int .i64 0,.slice A m c]:=by rw[<-bX];exact BZ w _
 have cR:Lays w1 mv mu G D V U:=hl.al λk hk=>av.block k hk;have kB:Lays w1.drew mv mu G D V U:=cR.al λ_ _=>rfl;have yO:mv<w.heap.size:=d_.lt hl.ms;have bI:b≠mv:=λe=>d_.no hl.ms (e▸hb);have vF:Hid (Calls prog 67 #[.map (some mv),.string ⟨x.toArray⟩,.agg #[.int .i64 1,.string ⟨x.toArray⟩,.int .i64 0,.slice A m c]] w1.drew (λe w'=>EV mv mu G D V U (.var x) w e w'/\b_ (only mv) w1.drew w')):=EP (by
  refine(zq1 mv V x 1 ⟨x.toArray⟩ 0 A m c w1.drew kB.ms).mono ?_;intro e w' h;exact⟨(znr kB ai x h).from (Below.drew av) (λq x hx=>hl.lt hx),by obtain⟨_,_,_,_,_,hc⟩:=h;exact hc⟩)
 obtain⟨t0,t1,t2,t3,-,-,-,-,-⟩:=n_ gA;have b1:=jQ.cell 1;simp at b1;have a8:=jQ.lt;have bh:Hid (∀W:World,b_ (only mv) w1.drew W->W.cell? ⟨w.heap.size,0,none⟩=some (.int .i64 1)/\W.cell? ⟨w.heap.size,1,none⟩=some (.string ⟨x.toArray⟩)/\W.cell? ⟨w.heap.size,2,none⟩=some (.int .i64 0)/\W.cell? ⟨w.heap.size,3,none⟩=some (.slice A m c)/\W.cell? ⟨b,1,none⟩=some (.map (some mv))):=EP λW hc=>by
  have k1:=ar.iF (w:=w1.drew) gA hc (by unfold only;omega);have k2:=ar.iF (w:=w1.drew) jQ hc bI;exact⟨k1.cell 0,k1.cell 1,k1.cell 2,k1.cell 3,k2.cell 1⟩
 clear hb hl ai cR kB av jQ gA yO bI;go_enter_defers func33,ntmps33;go_upto_region 3 with fail;clear bX;go_region_held3 (λW:World=>W.cell? ⟨w.heap.size,0,none⟩=some (.int .i64 1)/\W.cell? ⟨w.heap.size,1,none⟩=some (.string ⟨x.toArray⟩)/\W.cell? ⟨w.heap.size,2,none⟩=some (.int .i64 0)/\W.cell? ⟨w.heap.size,3,none⟩=some (.slice A m c)/\W.cell? ⟨b,1,none⟩=some (.map (some mv))) (first|(exact⟨t0,t1,t2,t3,b1⟩)|(exact bh.o _ C5.o))
  (((with_reducible refine vF.o.mono ?_);rintro e w5 ⟨dE,bE⟩;obtain⟨p,hp⟩:∃p,e=.returned (.pointer (some ⟨p,0,none⟩)):=(by obtain⟨p,ns,G',D',V',U',he,_⟩:=dE;exact⟨p,he⟩);subst hp;have HP:=EP dE;have C5:=EP bE;clear dE bE))
 all_goals
  go_wp2_with fail;exact⟨_,results_tmp (show Tryz.f33.results=#[.tmp 4] from rfl) _ _ _,HP.o⟩
theorem zns(b mv mu:Nat)(x:Nat)(A:Option Addr)(m c:Nat)(w:World)(sl mk sr:Value)(G:Nat->Option Nd)(D:Nat->Dy)(V:Name->Option Nat)(U:Nat->Option Nat)(hb:ar w b 85 #[sl,.map (some mv),.map (some mu),mk,sr])(hl:Lays w mv mu G D V U)(ai:mv≠mu):Calls prog 33 #[.pointer (some ⟨b,0,none⟩),.agg #[.int .i64 2,.string ⟨#[]⟩,.int .i64 (x:Nat),.slice A m c]] w (EV mv mu G D V U (.mt x) w):=by
 obtain⟨w1,bX⟩:∃w1,w.alloc (.cells #[.int .i64 2,.string ⟨#[]⟩,.int .i64 (x:Nat),.slice A m c] 37)=w1:=⟨_,rfl⟩;have av:Below w.heap.size w w1:=by rw[<-bX];exact(Cc _ w).alloc (BU _) _
 have aH:w1.heap.size=w.heap.size+1:=by rw[<-bX];simp
 have jQ:=hb.below av hb.lt;have gA:ar w1 w.heap.size 37 #[.int .i64 2,.string ⟨#[]⟩,.int .i64 (x:Nat),.slice A m c]:=by rw[<-bX];exact BZ w _
 have cR:Lays w1 mv mu G D V U:=hl.al λk hk=>av.block k hk;have kB:Lays w1.drew mv mu G D V U:=cR.al λ_ _=>rfl;have yO:mu<w.heap.size:=d_.lt hl.mi;have bI:b≠mu:=λe=>d_.no hl.mi (e▸hb);have vF:Hid (Calls prog 68 #[.map (some mu),.int .i64 (x:Nat),.agg #[.int .i64 2,.string ⟨#[]⟩,.int .i64 (x:Nat),.slice A m c]] w1.drew (λe w'=>EV mv mu G D V U (.mt x) w e w'/\b_ (only mu) w1.drew w')):=EP (by
  refine(zq2 mu U x 2 ⟨#[]⟩ (x:Nat) A m c w1.drew kB.mi).mono ?_;intro e w' h;exact⟨(zpq kB ai x h).from (Below.drew av) (λq x hx=>hl.lt hx),by obtain⟨_,_,_,_,_,hc⟩:=h;exact hc⟩)
 obtain⟨t0,t1,t2,t3,-,-,-,-,-⟩:=n_ gA;have b1:=jQ.cell 2;simp at b1;have a8:=jQ.lt;have bh:Hid (∀W:World,b_ (only mu) w1.drew W->W.cell? ⟨w.heap.size,0,none⟩=some (.int .i64 2)/\W.cell? ⟨w.heap.size,1,none⟩=some (.string ⟨#[]⟩)/\W.cell? ⟨w.heap.size,2,none⟩=some (.int .i64 (x:Nat))/\W.cell? ⟨w.heap.size,3,none⟩=some (.slice A m c)/\W.cell? ⟨b,2,none⟩=some (.map (some mu))):=EP λW hc=>by
  have k1:=ar.iF (w:=w1.drew) gA hc (by unfold only;omega);have k2:=ar.iF (w:=w1.drew) jQ hc bI;exact⟨k1.cell 0,k1.cell 1,k1.cell 2,k1.cell 3,k2.cell 2⟩
 clear hb hl ai cR kB av jQ gA yO bI;go_enter_defers func33,ntmps33;go_upto_region 5 with fail;clear bX;go_region_held3 (λW:World=>W.cell? ⟨w.heap.size,0,none⟩=some (.int .i64 2)/\W.cell? ⟨w.heap.size,1,none⟩=some (.string ⟨#[]⟩)/\W.cell? ⟨w.heap.size,2,none⟩=some (.int .i64 (x:Nat))/\W.cell? ⟨w.heap.size,3,none⟩=some (.slice A m c)/\W.cell? ⟨b,2,none⟩=some (.map (some mu))) (first|(exact⟨t0,t1,t2,t3,b1⟩)|(exact bh.o _ C5.o))
  (((with_reducible refine vF.o.mono ?_);rintro e w5 ⟨dE,bE⟩;obtain⟨p,hp⟩:∃p,e=.returned (.pointer (some ⟨p,0,none⟩)):=(by obtain⟨p,ns,G',D',V',U',he,_⟩:=dE;exact⟨p,he⟩);subst hp;have HP:=EP dE;have C5:=EP bE;clear dE bE))
 all_goals
  go_wp2_with fail;exact⟨_,results_tmp (show Tryz.f33.results=#[.tmp 4] from rfl) _ _ _,HP.o⟩
end
section
open Go.RowKit Lx Tx Go.Maps Go.WideMaps
def Ho(mv mu:Nat)(G:Nat->Option Nd)(D:Nat->Dy)(V:Name->Option Nat)(U:Nat->Option Nat)(t:Ty)(w:World)(p:Nat)(w':World):Prop :=
 ∃ns G' D' V' U',Lays w' mv mu G' D' V' U'/\G6 w.heap.size w'.heap.size G G' D D' V V' U U'/\FF G' U' V' p t ns/\ns.Nodup/\(∀q∈ns,w.heap.size<=q/\q<w'.heap.size)/\b_ (λg=>g=mv\/g=mu) w w'
theorem EV.split {mv mu:Nat} {G:Nat->Option Nd} {D:Nat->Dy} {V:Name->Option Nat} {U:Nat->Option Nat} {t:Ty} {w w':World} {e:Ending}(h:EV mv mu G D V U t w e w'):∃p,e=.returned (.pointer (some ⟨p,0,none⟩))/\Ho mv mu G D V U t w p w':=by
 obtain⟨p,ns,G',D',V',U',he,h⟩:=h;exact⟨p,he,ns,G',D',V',U',h⟩
theorem Ho.iF {mv mu:Nat} {G:Nat->Option Nd} {D:Nat->Dy} {V:Name->Option Nat} {U:Nat->Option Nat} {t:Ty} {w w':World} {p:Nat}(h:Ho mv mu G D V U t w p w'):b_ (λg=>g=mv\/g=mu) w w':=by
 obtain⟨ns,G',D',V',U',_,_,_,_,_,h⟩:=h;exact h
structure GO (mv mu pb:Nat) (kl:List Ty) (K:Int) (X:ByteArray) (Z:Int) (TA:Value) (h_:Value) (w3:World) (G1:Nat->Option Nd) (D1:Nat->Dy) (V1:Name->Option Nat) (U1:Nat->Option Nat) (i:Nat) (v:Value) (ids:List Nat) (aP:List (List Nat))
  (G':Nat->Option Nd)(D':Nat->Dy)(V':Name->Option Nat)(U':Nat->Option Nat)(wr:World):Prop where
 Jm:ar wr pb 132 #[.int .i64 K,.string X,.int .i64 Z,TA,v,h_,.bool false,.bool false,.int .i64 0]
 own:wr.ownsRow w3.heap.size 75 1 v i (ids.map PK)
 li:ids.length=i
 ln:aP.length=i
 ES:Lays wr mv mu G' D' V' U'
 ext:G6 w3.heap.size wr.heap.size G1 G' D1 D' V1 V' U1 U'
 rows:∀q x,G' q=some x->x.kids≠[]->some (D' q).row≠v.ownBlock
 Hm:∀(j q:Nat) (u:Ty) (ns:List Nat),ids[j]?=some q->kl[j]?=some u->aP[j]?=some ns->FF G' U' V' q u ns
 nd:aP.flatten.Nodup
 rg:∀q∈aP.flatten,w3.heap.size<=q/\q<wr.heap.size
 iF:b_ (λg=>g=mv\/g=mu\/g=pb) w3 wr
theorem GF {w w':World} {B:Nat} {e:TypeId} {size n:Nat} {v:Value} {xs:List Value}(h:w.ownsRow B e size v n xs)(hk:∀g,v.ownBlock=some g->w'.heap[g]?=w.heap[g]?):w'.ownsRow B e size v n xs:=by
 obtain⟨h0,h⟩:=h;refine⟨h0,?_⟩;rcases h with h|⟨g,cap,cur,hv,hg,hb,h⟩
 ·exact .inl h
 ·exact .inr ⟨g,cap,cur,hv,hg,(hk g (by rw[hv];rfl)).trans hb,h⟩
theorem s_ {w:World} {B:Nat} {e:TypeId} {size n:Nat} {v:Value} {xs:List Value}(h:w.ownsRow B e size v n xs)(g:Nat)(hg:v.ownBlock=some g):B<=g/\g<w.heap.size/\∃cur,w.heap[g]?=some (.cells cur e (0,0)):=by
 rcases h.2 with⟨rfl,_⟩|⟨g',cap,cur,rfl,h1,h2,_⟩
 ·cases hg
 ·have:g'=g:=by simpa[Value.ownBlock] using hg
  subst this;exact⟨h1,(BV.1 h2).1,cur,h2⟩
theorem l_.but {w w':World} {G:Nat->Option Nd} {D:Nat->Dy}(h:l_ w G D)(hp:∀q x,G q=some x->w'.heap[q]?=w.heap[q]?)(hr:∀q x,G q=some x->x.kids≠[]->w'.heap[(D q).row]?=w.heap[(D q).row]?):l_ w' G D :=
 λp x hx=>(h p x hx).al (hp p x hx) (hr p x hx)
theorem GO.next {mv mu pb:Nat} {kl:List Ty} {K:Int} {X:ByteArray} {Z:Int} {TA h_:Value} {w3:World} {G1:Nat->Option Nd} {D1:Nat->Dy} {V1:Name->Option Nat} {U1:Nat->Option Nat} {i:Nat} {v:Value} {ids:List Nat} {aP:List (List Nat)}
  {G':Nat->Option Nd} {D':Nat->Dy} {V':Name->Option Nat} {U':Nat->Option Nat} {wr:World} (h:GO mv mu pb kl K X Z TA h_ w3 G1 D1 V1 U1 i v ids aP G' D' V' U' wr) (h1:pb<w3.heap.size) (h2:pb≠mv) (h3:pb≠mu) (hm:mv<w3.heap.size) (bL:mu<w3.heap.size) (hpG:G1 pb=none)
  {u:Ty} (hu:kl[i]?=some u) {wa w5 w6:World} (hb:Below wr.heap.size wr wa) {p:Nat} (hp:Ho mv mu G' D' V' U' u wa p w5) {g cap:Nat}
  (ho:w6.ownsRow w3.heap.size 75 1 (.slice (some ⟨g,0,none⟩) (i+1) cap) (i+1) (ids.map PK++[PK p]))(hg:(w5.alloc (.cells #[PK p] 75)).grownBy w6 v.ownBlock)(bz:v.ownBlock=some g\/g=w5.heap.size+1):∃nY eM G2 D2 V2 U2,GO mv mu pb kl K X Z TA h_ w3 G1 D1 V1 U1 (i+1) (.slice (some ⟨g,0,none⟩) (i+1) cap) nY eM G2 D2 V2 U2 (w6.setCell ⟨pb,4,none⟩ (.slice (some ⟨g,0,none⟩) (i+1) cap)):=by
 obtain⟨ns,G2,D2,V2,U2,mO,ix,ht5,fW,cW,bE⟩:=hp;have sn:=hb.size;have eI:=bE.size;have dy:=h.iF.size;have dS:=hg.size;simp only[World.size_alloc]at dS;have mH:∀k,v.ownBlock=some k->w3.heap.size<=k/\k<wr.heap.size:=λk hk=>⟨(s_ h.own k hk).1,(s_ h.own k hk).2.1⟩;have Ap:G' pb=none:=by rw[(h.ext.GD pb h1).1];exact hpG
 have Ao:G2 pb=none:=by rw[(ix.GD pb (by omega)).1];exact Ap
 have eV:ar w5 pb 132 #[.int .i64 K,.string X,.int .i64 Z,TA,v,h_,.bool false,.bool false,.int .i64 0]:=ar.iF (h.Jm.below hb h.Jm.lt) bE (λe=>by rcases e with e|e;exact h2 e;exact h3 e);have kG:∀k,k<w5.heap.size->v.ownBlock≠some k->w6.heap[k]?=w5.heap[k]?:=λk hk ai=>(hg.block k (by simp;omega) (λe=>ai e.symm)).trans (BX _ _ _ hk);have ew:ar w6 pb 132 #[.int .i64 K,.string X,.int .i64 Z,TA,v,h_,.bool false,.bool false,.int .i64 0]:=(kG pb eV.lt (λe=>by have:=mH pb e;omega)).trans eV;have qi:∀k,k≠pb->(w6.setCell ⟨pb,4,none⟩ (.slice (some ⟨g,0,none⟩) (i+1) cap)).heap[k]?=w6.heap[k]?:=λk hk=>B8 _ _ _ _ hk;have jL:(w6.setCell ⟨pb,4,none⟩ (.slice (some ⟨g,0,none⟩) (i+1) cap)).heap.size=w6.heap.size:=by simp
 have Zk:g≠pb:=by
  rcases bz with e|e
  ·have:=mH g e;omega
  ·omega
 have ai:∀q x,G2 q=some x->q≠pb/\q<w5.heap.size/\v.ownBlock≠some q:=λq x hx=>by
  refine⟨(λe=>by rw[e,Ao]at hx;cases hx),mO.lt hx,λe=>?_⟩;obtain⟨_,hk,cur,aa⟩:=s_ h.own q e;have zK:w5.heap[q]?=some (.cells cur 75 (0,0)):=by
   refine(bE.block q (by omega) (λe'=>?_)).trans ((hb.block q hk).trans aa);have:=mH q e;rcases e' with e'|e' <;> omega
  obtain⟨A,c,ja,_⟩:=mO.pd q x hx;have ja:w5.heap[q]?=_:=ja;rw[zK]at ja;injection ja with ja;injection ja with _ ja _;exact absurd ja (by decide)
 have fh:∀q x,G2 q=some x->x.kids≠[]->(D2 q).row≠pb/\(D2 q).row<w5.heap.size/\v.ownBlock≠some (D2 q).row:=λq x hx hk=>by
  have af:=(mO.pd q x hx).Jw hk;refine⟨λe=>?_,af,λe=>?_⟩
  ·obtain⟨A,c,_,aE⟩:=mO.pd q x hx
   obtain⟨_,cur,aa,_⟩:=aE hk;rw[e]at aa;have lJ:w5.heap[pb]?=_:=eV;rw[aa]at lJ;injection lJ with lJ;injection lJ with _ hq _;exact absurd hq (by decide)
  ·by_cases hq:q<wa.heap.size
   ·rw[(ix.GD q hq).1]at hx
    rw[(ix.GD q hq).2]at e;exact h.rows q x hx hk e.symm
   ·have:=(ix.new q x hx (by omega)).2 hk
    have:=mH _ e;omega
 have hp7:l_ (w6.setCell ⟨pb,4,none⟩ (.slice (some ⟨g,0,none⟩) (i+1) cap)) G2 D2:=mO.pd.but
  (λq x hx=>by obtain⟨a,b,c⟩:=ai q x hx;exact(qi q a).trans (kG q b c))
  (λq x hx hk=>by obtain⟨a,b,c⟩:=fh q x hx hk;exact(qi _ a).trans (kG _ b c))
 have Y_:Jc (w6.setCell ⟨pb,4,none⟩ (.slice (some ⟨g,0,none⟩) (i+1) cap)) mv V2:=d_.al mO.ms ((qi mv h2.symm).trans (kG mv (by omega) (λe=>by have:=mH mv e;omega))) (λ_ h=>h);have ui:Ku (w6.setCell ⟨pb,4,none⟩ (.slice (some ⟨g,0,none⟩) (i+1) cap)) mu U2:=d_.al mO.mi ((qi mu h3.symm).trans (kG mu (by omega) (λe=>by have:=mH mu e;omega))) (λ_ h=>h);refine⟨ids++[p],aP++[ns],G2,D2,V2,U2,⟨?_,?_,by rw[Cb,h.li];rfl,by rw[Cb,h.ln];rfl,⟨Y_,ui,hp7,mO.vn,mO.un,mO.dn⟩,?_,λq x hx hk e=>?_,λj q u' dB hj oj oG=>?_,?_,λq hq=>?_,?_⟩⟩
 ·exact Cl _ pb 4 _ _ _ ew
 ·rw[Dn]
  exact ownsRow_setCell_other ho (λe=>Zk (by simpa[Value.ownBlock] using e)) _
 ·rw[jL]
  have ep:G6 wr.heap.size w6.heap.size G' G2 D' D2 V' V2 U' U2:=⟨λq hq=>ix.GD q (by omega),λq x hx hq=>by
   by_cases Tp:q<wa.heap.size
   ·rw[(ix.GD q Tp).1]at hx
    have:=h.ES.lt hx;omega
   ·obtain⟨a,b⟩:=ix.new q x hx (by omega)
    exact⟨by omega,λhk=>by have:=b hk;omega⟩,ix.vx,ix.ux,ix.vn⟩
  exact h.ext.trans ep dy (by omega) (λx p hp=>by obtain⟨nw,h4⟩:=h.ES.vn x p hp;exact h.ES.lt h4)
 ·obtain⟨a,b,c⟩:=fh q x hx hk
  have e:(D2 q).row=g:=by simpa[Value.ownBlock] using e
  rcases bz with e2|e2
  ·rw[e]at c;exact c e2
  ·omega
 ·rcases Eb j i with Rh|Rh
  ·rw[DK (by rw[h.li];exact Rh)]at hj
   rw[DK (by rw[h.ln];exact Rh)]at oG;exact(h.Hm j q u' dB hj oj oG).more (ix.gx λq x hx=>by have:=h.ES.lt hx;omega) ix.ux ix.vx
  ·have Zh:j=i:=by
    have:=(Cj.1 hj).1;rw[Cb,h.li]at this;simp at this;omega
   subst Zh;rw[Db (by rw[h.li];exact BU _),h.li]at hj;rw[Db (by rw[h.ln];exact BU _),h.ln]at oG;simp at hj oG;subst hj oG;rw[hu]at oj;injection oj with oj;subst oj;exact ht5
 ·rw[EF,DP]
  refine⟨h.nd,by simpa using fW,λa ha b lV e=>?_⟩;simp at lV;have h4:=h.rg a ha;have h5:=cW b lV;omega
 ·rw[jL]
  rw[EF,Cr]at hq;rcases hq with hq|hq
  ·have:=h.rg q hq;omega
  ·simp at hq
   have:=cW q hq;omega
 ·have c1:b_ (λg=>g=mv\/g=mu\/g=pb) w3 w5:=(h.iF.below hb).trans' bE (λk _ e=>by rcases e with e|e;exact .inl e;exact .inr (.inl e))
  exact((c1.alloc _).grown hg (λk hk=>.inl (mH k hk).1)).setCell (p:=⟨pb,4,none⟩) (.inr (.inr (.inr rfl))) _
theorem GO.zero {mv mu pb:Nat} {kl:List Ty} {K:Int} {X:ByteArray} {Z:Int} {TA h_:Value} {w3:World} {G1:Nat->Option Nd} {D1:Nat->Dy} {V1:Name->Option Nat} {U1:Nat->Option Nat}
  (hb:ar w3 pb 132 #[.int .i64 K,.string X,.int .i64 Z,TA,.slice none 0 0,h_,.bool false,.bool false,.int .i64 0])(hl:Lays w3 mv mu G1 D1 V1 U1):GO mv mu pb kl K X Z TA h_ w3 G1 D1 V1 U1 0 (.slice none 0 0) [] [] G1 D1 V1 U1 w3 where
 Jm:=hb
 own:=CM _ _ _ _
 li:=rfl
 ln:=rfl
 ES:=hl
 ext:=G6.refl λq x hx=>hl.lt hx
 rows _ _ _ _ e:=by cases e
 Hm j q u ns hj:=by simp at hj
 nd:=Dr
 rg q hq:=by simp at hq
 iF:=b_.refl _ _
end
end Go.Proofs.YtfafilmklhnngaaGreatDoor
