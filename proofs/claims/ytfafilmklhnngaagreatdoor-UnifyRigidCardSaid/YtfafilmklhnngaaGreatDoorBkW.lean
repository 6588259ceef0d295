import Derived.Test.YtfafilmklhnngaaGreatDoorBkU
import Derived.Deep.CutRange
set_option maxHeartbeats 12800000
namespace Go.Proofs.YtfafilmklhnngaaGreatDoor
open Go.RowKit Lx Tx Go.Maps Go.WideMaps
set_option maxRecDepth 100000
theorem PartsD.chg1 {w w':World} {G:Nat->Option Nd} {D:Nat->Dy} {mb:Nat} {κ:Type} [DecidableEq κ] {kv:κ->Value} {f:κ->Option Nat}(h:PartsD w G D)(hm:MapK kv okT w mb f)(hc:Chg (only mb) w w'):PartsD w' G D :=
 h.same λk hk ⟨_,_,hx⟩=>hc.block k hk (λe=>by
  have e:k=mb:=e;rw[e]at hx
  exact hm.no hx)
theorem zmq {w w':World} {mv mu:Nat} {G:Nat->Option Nd} {D:Nat->Dy} {V:Name->Option Nat} {U:Nat->Option Nat}(h:Lays w mv mu G D V U)(af:mv≠mu)(x:Name) {A:Option Addr} {m c:Nat} {e:Ending}
  (hp:OneP SK mv V x (partNew 1 ⟨x.toArray⟩ 0 A m c) w e w'):PartPost mv mu G D V U (.var x) w e w':=by
 obtain⟨p,rfl,qW,hold,eZ,hc⟩:=hp;have aD:=hc.size;have uV:MapI w' mu U:=MapK.keep h.mi (hc.block _ (MapK.lt h.mi) (λe=>af (show mu=mv from e).symm)) (λ_ h=>h);have bB:=h.pd.chg1 h.ms hc;have hC:Chg (λg=>g=mv\/g=mu) w w':=hc.mono λ_ _ h=>.inl h;cases hv:V x with
 |some q =>
  have hq:=hold q hv;subst hq;have hV:(λy=>if y=x then some p else V y)=V:=funext λy=>by
   by_cases hy:y=x
   ·rw[Aq hy,hy,hv]
   ·rw[Am hy]
  rw[hV]at qW
  exact⟨p,[],G,D,V,U,rfl,⟨qW,uV,bB,h.vn,h.un,h.dn⟩,LExt.refl λq x hx=>h.lt hx,.var _ _ _ hv,Bw,(λq hq=>by cases hq),hC⟩
 |none =>
  obtain⟨mH,hb⟩:=eZ hv;have ah:=hb.lt;have hG:∀q y,G q=some y->q≠p:=λq y hy e=>by have:=h.lt hy;omega
  refine⟨p,[],upn G p (some ⟨1,⟨x.toArray⟩,0,[],none,false⟩),upn D p ⟨.slice A m c,false,0,0⟩,upn V x (some p),U,rfl,⟨qW,uV,λq y hy=>?_,λy q hy=>?_,λn q hn=>?_,λq y hy=>?_⟩,⟨λq hq=>?_,λq y hy hl=>?_,λy q hy=>?_,λ_ _ h=>h,λy q hy=>?_⟩,.var _ _ _ (zal _ _ _),Bw,(λq hq=>by cases hq),hC⟩
  ·by_cases hqp:q=p
   ·subst hqp
    rw[zal]at hy ⊢
    injection hy with hy;subst hy;exact⟨none,0,hb,λhk=>absurd rfl hk⟩
   ·rw[zac _ _ _ _ hqp]at hy ⊢
    exact bB q y hy
  ·by_cases bR:y=x
   ·rw[bR,zal]at hy
    injection hy with hy;subst hy;exact⟨false,by rw[zal,bR]⟩
   ·rw[zac _ _ _ _ bR]at hy
    obtain⟨nw,h1⟩:=h.vn y q hy;exact⟨nw,by rw[zac _ _ _ _ (hG q _ h1)];exact h1⟩
  ·have h1:=h.un n q hn
   rw[zac _ _ _ _ (hG q _ h1)];exact h1
  ·by_cases hqp:q=p
   ·rw[hqp,zal];exact⟨rfl,rfl,_,_,_,rfl⟩
   ·rw[zac _ _ _ _ hqp]at hy ⊢;exact h.dn q y hy
  ·have:q≠p:=by omega
   rw[zac _ _ _ _ this,zac _ _ _ _ this];exact⟨rfl,rfl⟩
  ·by_cases hqp:q=p
   ·subst hqp
    rw[zal]at hy
    injection hy with hy;subst hy;exact⟨ah,λhk=>absurd rfl hk⟩
   ·rw[zac _ _ _ _ hqp]at hy
    have:=h.lt hy;omega
  ·have:y≠x:=λe=>by rw[e,hv]at hy;cases hy
   rw[zac _ _ _ _ this];exact hy
  ·by_cases bR:y=x
   ·rw[bR,zal]at hy
    injection hy with hy;subst hy;exact .inr ⟨by rw[bR];exact hv,by rw[zal,bR]⟩
   ·rw[zac _ _ _ _ bR]at hy;exact .inl hy
theorem zn5 {w w':World} {mv mu:Nat} {G:Nat->Option Nd} {D:Nat->Dy} {V:Name->Option Nat} {U:Nat->Option Nat}(h:Lays w mv mu G D V U)(af:mv≠mu)(x:Nat) {A:Option Addr} {m c:Nat} {e:Ending}
  (hp:OneP IK mu U x (partNew 2 ⟨#[]⟩ (x:Nat) A m c) w e w'):PartPost mv mu G D V U (.mt x) w e w':=by
 obtain⟨p,rfl,uV,hold,eZ,hc⟩:=hp;have aD:=hc.size;have qW:MapS w' mv V:=MapK.keep h.ms (hc.block _ (MapK.lt h.ms) (λe=>af (show mv=mu from e))) (λ_ h=>h);have bB:=h.pd.chg1 h.mi hc;have hC:Chg (λg=>g=mv\/g=mu) w w':=hc.mono λ_ _ h=>.inr h;cases hv:U x with
 |some q =>
  have hq:=hold q hv;subst hq;have hU:(λy=>if y=x then some p else U y)=U:=funext λy=>by
   by_cases hy:y=x
   ·rw[Aq hy,hy,hv]
   ·rw[Am hy]
  rw[hU]at uV
  exact⟨p,[],G,D,V,U,rfl,⟨qW,uV,bB,h.vn,h.un,h.dn⟩,LExt.refl λq x hx=>h.lt hx,.mt _ _ _ hv,Bw,(λq hq=>by cases hq),hC⟩
 |none =>
  obtain⟨mH,hb⟩:=eZ hv;have ah:=hb.lt;have hG:∀q y,G q=some y->q≠p:=λq y hy e=>by have:=h.lt hy;omega
  refine⟨p,[],upn G p (some ⟨2,⟨#[]⟩,x,[],none,false⟩),upn D p ⟨.slice A m c,false,0,0⟩,V,upn U x (some p),rfl,⟨qW,uV,λq y hy=>?_,λy q hy=>?_,λn q hn=>?_,λq y hy=>?_⟩,⟨λq hq=>?_,λq y hy hl=>?_,λ_ _ h=>h,λy q hy=>?_,λ_ _ h=>.inl h⟩,.mt _ _ _ (zal _ _ _),Bw,(λq hq=>by cases hq),hC⟩
  ·by_cases hqp:q=p
   ·subst hqp
    rw[zal]at hy ⊢
    injection hy with hy;subst hy;exact⟨none,0,hb,λhk=>absurd rfl hk⟩
   ·rw[zac _ _ _ _ hqp]at hy ⊢
    exact bB q y hy
  ·obtain⟨nw,h1⟩:=h.vn y q hy
   exact⟨nw,by rw[zac _ _ _ _ (hG q _ h1)];exact h1⟩
  ·by_cases bR:n=x
   ·rw[bR,zal]at hn
    injection hn with hn;subst hn;rw[zal,bR]
   ·rw[zac _ _ _ _ bR]at hn
    have h1:=h.un n q hn;rw[zac _ _ _ _ (hG q _ h1)];exact h1
  ·by_cases hqp:q=p
   ·rw[hqp,zal];exact⟨rfl,rfl,_,_,_,rfl⟩
   ·rw[zac _ _ _ _ hqp]at hy ⊢;exact h.dn q y hy
  ·have:q≠p:=by omega
   rw[zac _ _ _ _ this,zac _ _ _ _ this];exact⟨rfl,rfl⟩
  ·by_cases hqp:q=p
   ·subst hqp
    rw[zal]at hy
    injection hy with hy;subst hy;exact⟨ah,λhk=>absurd rfl hk⟩
   ·rw[zac _ _ _ _ hqp]at hy
    have:=h.lt hy;omega
  ·have:y≠x:=λe=>by rw[e,hv]at hy;cases hy
   rw[zac _ _ _ _ this];exact hy
theorem PartPost.from {mv mu:Nat} {G:Nat->Option Nd} {D:Nat->Dy} {V:Name->Option Nat} {U:Nat->Option Nat} {t:Ty} {w w1 w':World} {e:Ending}(h:PartPost mv mu G D V U t w1 e w')(hb:Below w.heap.size w w1)(hG:∀q x,G q=some x->q<w.heap.size):PartPost mv mu G D V U t w e w':=by
 obtain⟨p,ns,G',D',V',U',he,hl,hx,ht,hn,kN,hc⟩:=h;have hs:=hb.size;refine⟨p,ns,G',D',V',U',he,hl,⟨λq hq=>hx.old q (by omega),λq y hy jf=>?_,hx.vx,hx.ux,hx.vn⟩,ht,hn,λq hq=>?_,(Chg.of_below hb).trans' hc (λg _ h=>h)⟩
 ·by_cases hq:q<w1.heap.size
  ·rw[(hx.old q hq).1]at hy
   have:=hG q y hy;omega
  ·obtain⟨h1,h2⟩:=hx.new q y hy (by omega)
   exact⟨h1,λhk=>by have:=h2 hk;omega⟩
 ·have:=kN q hq
  omega
theorem zkX(b mv mu:Nat)(x:Name)(A:Option Addr)(m c:Nat)(w:World)(sl mk sr:Value)(G:Nat->Option Nd)(D:Nat->Dy)(V:Name->Option Nat)(U:Nat->Option Nat)(hb:Blk w b 85 #[sl,.map (some mv),.map (some mu),mk,sr])(hl:Lays w mv mu G D V U)(af:mv≠mu):Calls Tryz.prog 33 #[.pointer (some ⟨b,0,none⟩),.agg #[.int .i64 1,.string ⟨x.toArray⟩,.int .i64 0,.slice A m c]] w (PartPost mv mu G D V U (.var x) w):=by
 obtain⟨w1,bU⟩:∃w1,w.alloc (.cells #[.int .i64 1,.string ⟨x.toArray⟩,.int .i64 0,.slice A m c] 37)=w1:=⟨_,rfl⟩;have aw:Below w.heap.size w w1:=by rw[<-bU];exact(Below.refl _ w).alloc (Ai _) _
 have aF:w1.heap.size=w.heap.size+1:=by rw[<-bU];simp
 have lF:=hb.below aw hb.lt;have nM:Blk w1 w.heap.size 37 #[.int .i64 1,.string ⟨x.toArray⟩,.int .i64 0,.slice A m c]:=by rw[<-bU];exact heap_alloc_new w _
 have cg:Lays w1 mv mu G D V U:=hl.keep λk hk=>aw.block k hk;have jh:Lays w1.drew mv mu G D V U:=cg.keep λ_ _=>rfl;have xh:mv<w.heap.size:=MapK.lt hl.ms;have dp:b≠mv:=λe=>MapK.no hl.ms (e▸hb);have tY:Hid (Calls Tryz.prog 67 #[.map (some mv),.string ⟨x.toArray⟩,.agg #[.int .i64 1,.string ⟨x.toArray⟩,.int .i64 0,.slice A m c]] w1.drew (λe w'=>PartPost mv mu G D V U (.var x) w e w'/\Chg (only mv) w1.drew w')):=CS (by
  refine(zpt mv V x 1 ⟨x.toArray⟩ 0 A m c w1.drew jh.ms).mono ?_;intro e w' h;exact⟨(zmq jh af x h).from (Below.drew aw) (λq x hx=>hl.lt hx),by obtain⟨_,_,_,_,_,hc⟩:=h;exact hc⟩)
 obtain⟨t0,t1,t2,t3,-,-,-,-,-⟩:=zaa nM;have b1:=lF.cell 1;simp at b1;have bJ:=lF.lt;have ck:Hid (∀W:World,Chg (only mv) w1.drew W->W.cell? ⟨w.heap.size,0,none⟩=some (.int .i64 1)/\W.cell? ⟨w.heap.size,1,none⟩=some (.string ⟨x.toArray⟩)/\W.cell? ⟨w.heap.size,2,none⟩=some (.int .i64 0)/\W.cell? ⟨w.heap.size,3,none⟩=some (.slice A m c)/\W.cell? ⟨b,1,none⟩=some (.map (some mv))):=CS λW hc=>by
  have k1:=Blk.chg (w:=w1.drew) nM hc (by unfold only;omega);have k2:=Blk.chg (w:=w1.drew) lF hc dp;exact⟨k1.cell 0,k1.cell 1,k1.cell 2,k1.cell 3,k2.cell 1⟩
 clear hb hl af cg jh aw lF nM xh dp;go_enter_defers Tryz.func33,Tryz.ntmps33
 go_upto_region 3 with fail
 clear bU;go_region_held3 (λW:World=>W.cell? ⟨w.heap.size,0,none⟩=some (.int .i64 1)/\W.cell? ⟨w.heap.size,1,none⟩=some (.string ⟨x.toArray⟩)/\W.cell? ⟨w.heap.size,2,none⟩=some (.int .i64 0)/\W.cell? ⟨w.heap.size,3,none⟩=some (.slice A m c)/\W.cell? ⟨b,1,none⟩=some (.map (some mv))) (first|(exact⟨t0,t1,t2,t3,b1⟩)|(exact ck.out _ C5.out))
  (((with_reducible refine tY.out.mono ?_);rintro e w5 ⟨cZ,br⟩;obtain⟨p,hp⟩:∃p,e=.returned (.pointer (some ⟨p,0,none⟩)):=(by obtain⟨p,ns,G',D',V',U',he,_⟩:=cZ;exact⟨p,he⟩);subst hp;have HP:=CS cZ;have C5:=CS br;clear cZ br))
 all_goals
  go_wp2_with fail
  exact⟨_,results_tmp (show Tryz.f33.results=#[.tmp 4] from rfl) _ _ _,HP.out⟩
theorem zmr(b mv mu:Nat)(x:Nat)(A:Option Addr)(m c:Nat)(w:World)(sl mk sr:Value)(G:Nat->Option Nd)(D:Nat->Dy)(V:Name->Option Nat)(U:Nat->Option Nat)(hb:Blk w b 85 #[sl,.map (some mv),.map (some mu),mk,sr])(hl:Lays w mv mu G D V U)(af:mv≠mu):Calls Tryz.prog 33 #[.pointer (some ⟨b,0,none⟩),.agg #[.int .i64 2,.string ⟨#[]⟩,.int .i64 (x:Nat),.slice A m c]] w (PartPost mv mu G D V U (.mt x) w):=by
 obtain⟨w1,bU⟩:∃w1,w.alloc (.cells #[.int .i64 2,.string ⟨#[]⟩,.int .i64 (x:Nat),.slice A m c] 37)=w1:=⟨_,rfl⟩;have aw:Below w.heap.size w w1:=by rw[<-bU];exact(Below.refl _ w).alloc (Ai _) _
 have aF:w1.heap.size=w.heap.size+1:=by rw[<-bU];simp
 have lF:=hb.below aw hb.lt;have nM:Blk w1 w.heap.size 37 #[.int .i64 2,.string ⟨#[]⟩,.int .i64 (x:Nat),.slice A m c]:=by rw[<-bU];exact heap_alloc_new w _
 have cg:Lays w1 mv mu G D V U:=hl.keep λk hk=>aw.block k hk;have jh:Lays w1.drew mv mu G D V U:=cg.keep λ_ _=>rfl;have xh:mu<w.heap.size:=MapK.lt hl.mi;have dp:b≠mu:=λe=>MapK.no hl.mi (e▸hb);have tY:Hid (Calls Tryz.prog 68 #[.map (some mu),.int .i64 (x:Nat),.agg #[.int .i64 2,.string ⟨#[]⟩,.int .i64 (x:Nat),.slice A m c]] w1.drew (λe w'=>PartPost mv mu G D V U (.mt x) w e w'/\Chg (only mu) w1.drew w')):=CS (by
  refine(zpu mu U x 2 ⟨#[]⟩ (x:Nat) A m c w1.drew jh.mi).mono ?_;intro e w' h;exact⟨(zn5 jh af x h).from (Below.drew aw) (λq x hx=>hl.lt hx),by obtain⟨_,_,_,_,_,hc⟩:=h;exact hc⟩)
 obtain⟨t0,t1,t2,t3,-,-,-,-,-⟩:=zaa nM;have b1:=lF.cell 2;simp at b1;have bJ:=lF.lt;have ck:Hid (∀W:World,Chg (only mu) w1.drew W->W.cell? ⟨w.heap.size,0,none⟩=some (.int .i64 2)/\W.cell? ⟨w.heap.size,1,none⟩=some (.string ⟨#[]⟩)/\W.cell? ⟨w.heap.size,2,none⟩=some (.int .i64 (x:Nat))/\W.cell? ⟨w.heap.size,3,none⟩=some (.slice A m c)/\W.cell? ⟨b,2,none⟩=some (.map (some mu))):=CS λW hc=>by
  have k1:=Blk.chg (w:=w1.drew) nM hc (by unfold only;omega);have k2:=Blk.chg (w:=w1.drew) lF hc dp;exact⟨k1.cell 0,k1.cell 1,k1.cell 2,k1.cell 3,k2.cell 2⟩
 clear hb hl af cg jh aw lF nM xh dp;go_enter_defers Tryz.func33,Tryz.ntmps33
 go_upto_region 5 with fail
 clear bU;go_region_held3 (λW:World=>W.cell? ⟨w.heap.size,0,none⟩=some (.int .i64 2)/\W.cell? ⟨w.heap.size,1,none⟩=some (.string ⟨#[]⟩)/\W.cell? ⟨w.heap.size,2,none⟩=some (.int .i64 (x:Nat))/\W.cell? ⟨w.heap.size,3,none⟩=some (.slice A m c)/\W.cell? ⟨b,2,none⟩=some (.map (some mu))) (first|(exact⟨t0,t1,t2,t3,b1⟩)|(exact ck.out _ C5.out))
  (((with_reducible refine tY.out.mono ?_);rintro e w5 ⟨cZ,br⟩;obtain⟨p,hp⟩:∃p,e=.returned (.pointer (some ⟨p,0,none⟩)):=(by obtain⟨p,ns,G',D',V',U',he,_⟩:=cZ;exact⟨p,he⟩);subst hp;have HP:=CS cZ;have C5:=CS br;clear cZ br))
 all_goals
  go_wp2_with fail
  exact⟨_,results_tmp (show Tryz.f33.results=#[.tmp 4] from rfl) _ _ _,HP.out⟩
end Go.Proofs.YtfafilmklhnngaaGreatDoor
namespace Go.Proofs.YtfafilmklhnngaaGreatDoor
open Go.RowKit Lx Tx Go.Maps Go.WideMaps
set_option maxRecDepth 100000
def PartPostP(mv mu:Nat)(G:Nat->Option Nd)(D:Nat->Dy)(V:Name->Option Nat)(U:Nat->Option Nat)(t:Ty)(w:World)(p:Nat)(w':World):Prop :=
 ∃ns G' D' V' U',Lays w' mv mu G' D' V' U'/\LExt w.heap.size w'.heap.size G G' D D' V V' U U'/\LayT G' U' V' p t ns/\ns.Nodup/\(∀q∈ns,w.heap.size<=q/\q<w'.heap.size)/\Chg (λg=>g=mv\/g=mu) w w'
theorem PartPost.split {mv mu:Nat} {G:Nat->Option Nd} {D:Nat->Dy} {V:Name->Option Nat} {U:Nat->Option Nat} {t:Ty} {w w':World} {e:Ending}(h:PartPost mv mu G D V U t w e w'):∃p,e=.returned (.pointer (some ⟨p,0,none⟩))/\PartPostP mv mu G D V U t w p w':=by
 obtain⟨p,ns,G',D',V',U',he,h⟩:=h;exact⟨p,he,ns,G',D',V',U',h⟩
theorem PartPostP.chg {mv mu:Nat} {G:Nat->Option Nd} {D:Nat->Dy} {V:Name->Option Nat} {U:Nat->Option Nat} {t:Ty} {w w':World} {p:Nat}(h:PartPostP mv mu G D V U t w p w'):Chg (λg=>g=mv\/g=mu) w w':=by
 obtain⟨ns,G',D',V',U',_,_,_,_,_,h⟩:=h;exact h
structure HeadI (mv mu pb:Nat) (kl:List Ty) (K:Int) (X:ByteArray) (Z:Int) (TA:Value) (con:Value) (w3:World) (G1:Nat->Option Nd) (D1:Nat->Dy) (V1:Name->Option Nat) (U1:Nat->Option Nat) (i:Nat) (v:Value) (ids:List Nat) (aN:List (List Nat))
  (G':Nat->Option Nd)(D':Nat->Dy)(V':Name->Option Nat)(U':Nat->Option Nat)(wr:World):Prop where
 blk:Blk wr pb 132 #[.int .i64 K,.string X,.int .i64 Z,TA,v,con,.bool false,.bool false,.int .i64 0]
 own:wr.ownsRow w3.heap.size 75 1 v i (ids.map PK)
 li:ids.length=i
 ln:aN.length=i
 lays:Lays wr mv mu G' D' V' U'
 ext:LExt w3.heap.size wr.heap.size G1 G' D1 D' V1 V' U1 U'
 rows:∀q x,G' q=some x->x.kids≠[]->some (D' q).row≠v.ownBlock
 kid:∀(j q:Nat) (u:Ty) (ns:List Nat),ids[j]?=some q->kl[j]?=some u->aN[j]?=some ns->LayT G' U' V' q u ns
 nd:aN.flatten.Nodup
 rg:∀q∈aN.flatten,w3.heap.size<=q/\q<wr.heap.size
 chg:Chg (λg=>g=mv\/g=mu\/g=pb) w3 wr
theorem zan {w w':World} {B:Nat} {e:TypeId} {size n:Nat} {v:Value} {xs:List Value}(h:w.ownsRow B e size v n xs)(hk:∀g,v.ownBlock=some g->w'.heap[g]?=w.heap[g]?):w'.ownsRow B e size v n xs:=by
 obtain⟨h0,h⟩:=h;refine⟨h0,?_⟩;rcases h with h|⟨g,cap,cur,hv,hg,hb,h⟩
 ·exact .inl h
 ·exact .inr ⟨g,cap,cur,hv,hg,(hk g (by rw[hv];rfl)).trans hb,h⟩
theorem zab {w:World} {B:Nat} {e:TypeId} {size n:Nat} {v:Value} {xs:List Value}(h:w.ownsRow B e size v n xs)(g:Nat)(hg:v.ownBlock=some g):B<=g/\g<w.heap.size/\∃cur,w.heap[g]?=some (.cells cur e (0,0)):=by
 rcases h.2 with⟨rfl,_⟩|⟨g',cap,cur,rfl,h1,h2,_⟩
 ·cases hg
 ·have:g'=g:=by simpa[Value.ownBlock] using hg
  subst this;exact⟨h1,(Aj.1 h2).1,cur,h2⟩
theorem PartsD.but {w w':World} {G:Nat->Option Nd} {D:Nat->Dy}(h:PartsD w G D)(hp:∀q x,G q=some x->w'.heap[q]?=w.heap[q]?)(hr:∀q x,G q=some x->x.kids≠[]->w'.heap[(D q).row]?=w.heap[(D q).row]?):PartsD w' G D :=
 λp x hx=>(h p x hx).keep (hp p x hx) (hr p x hx)
theorem HeadI.next {mv mu pb:Nat} {kl:List Ty} {K:Int} {X:ByteArray} {Z:Int} {TA con:Value} {w3:World} {G1:Nat->Option Nd} {D1:Nat->Dy} {V1:Name->Option Nat} {U1:Nat->Option Nat} {i:Nat} {v:Value} {ids:List Nat} {aN:List (List Nat)}
  {G':Nat->Option Nd} {D':Nat->Dy} {V':Name->Option Nat} {U':Nat->Option Nat} {wr:World} (h:HeadI mv mu pb kl K X Z TA con w3 G1 D1 V1 U1 i v ids aN G' D' V' U' wr) (h1:pb<w3.heap.size) (h2:pb≠mv) (h3:pb≠mu) (hm:mv<w3.heap.size) (cB:mu<w3.heap.size) (hpG:G1 pb=none)
  {u:Ty} (hu:kl[i]?=some u) {wa w5 w6:World} (hb:Below wr.heap.size wr wa) {p:Nat} (hp:PartPostP mv mu G' D' V' U' u wa p w5) {g cap:Nat}
  (ho:w6.ownsRow w3.heap.size 75 1 (.slice (some ⟨g,0,none⟩) (i+1) cap) (i+1) (ids.map PK++[PK p]))(hg:(w5.alloc (.cells #[PK p] 75)).grownBy w6 v.ownBlock)(bF:v.ownBlock=some g\/g=w5.heap.size+1):∃mj dN G2 D2 V2 U2,HeadI mv mu pb kl K X Z TA con w3 G1 D1 V1 U1 (i+1) (.slice (some ⟨g,0,none⟩) (i+1) cap) mj dN G2 D2 V2 U2 (w6.setCell ⟨pb,4,none⟩ (.slice (some ⟨g,0,none⟩) (i+1) cap)):=by
 obtain⟨ns,G2,D2,V2,U2,kV,gh,ht5,jR,fE,br⟩:=hp;have qM:=hb.size;have ej:=br.size;have cY:=h.chg.size;have dO:=hg.size;simp only[World.size_alloc]at dO;have kM:∀k,v.ownBlock=some k->w3.heap.size<=k/\k<wr.heap.size:=λk hk=>⟨(zab h.own k hk).1,(zab h.own k hk).2.1⟩;have yD:G' pb=none:=by rw[(h.ext.old pb h1).1];exact hpG
 have yC:G2 pb=none:=by rw[(gh.old pb (by omega)).1];exact yD
 have eo:Blk w5 pb 132 #[.int .i64 K,.string X,.int .i64 Z,TA,v,con,.bool false,.bool false,.int .i64 0]:=Blk.chg (h.blk.below hb h.blk.lt) br (λe=>by rcases e with e|e;exact h2 e;exact h3 e);have eL:∀k,k<w5.heap.size->v.ownBlock≠some k->w6.heap[k]?=w5.heap[k]?:=λk hk af=>(hg.block k (by simp;omega) (λe=>af e.symm)).trans (Below.heap_alloc _ _ _ hk);have eY:Blk w6 pb 132 #[.int .i64 K,.string X,.int .i64 Z,TA,v,con,.bool false,.bool false,.int .i64 0]:=(eL pb eo.lt (λe=>by have:=kM pb e;omega)).trans eo;have oF:∀k,k≠pb->(w6.setCell ⟨pb,4,none⟩ (.slice (some ⟨g,0,none⟩) (i+1) cap)).heap[k]?=w6.heap[k]?:=λk hk=>Below.heap_setCell _ _ _ _ hk;have kG:(w6.setCell ⟨pb,4,none⟩ (.slice (some ⟨g,0,none⟩) (i+1) cap)).heap.size=w6.heap.size:=by simp
 have hgpb:g≠pb:=by
  rcases bF with e|e
  ·have:=kM g e;omega
  ·omega
 have af:∀q x,G2 q=some x->q≠pb/\q<w5.heap.size/\v.ownBlock≠some q:=λq x hx=>by
  refine⟨(λe=>by rw[e,yC]at hx;cases hx),kV.lt hx,λe=>?_⟩;obtain⟨_,hk,cur,aa⟩:=zab h.own q e;have xS:w5.heap[q]?=some (.cells cur 75 (0,0)):=by
   refine(br.block q (by omega) (λe'=>?_)).trans ((hb.block q hk).trans aa);have:=kM q e;rcases e' with e'|e' <;> omega
  obtain⟨A,c,gL,_⟩:=kV.pd q x hx;have gL:w5.heap[q]?=_:=gL;rw[xS]at gL
  injection gL with gL;injection gL with _ gL _;exact absurd gL (by decide)
 have gX:∀q x,G2 q=some x->x.kids≠[]->(D2 q).row≠pb/\(D2 q).row<w5.heap.size/\v.ownBlock≠some (D2 q).row:=λq x hx hk=>by
  have ah:=(kV.pd q x hx).row_lt hk;refine⟨λe=>?_,ah,λe=>?_⟩
  ·obtain⟨A,c,_,aJ⟩:=kV.pd q x hx
   obtain⟨_,cur,aa,_⟩:=aJ hk;rw[e]at aa
   have jP:w5.heap[pb]?=_:=eo;rw[aa]at jP
   injection jP with jP;injection jP with _ hq _;exact absurd hq (by decide)
  ·by_cases hq:q<wa.heap.size
   ·rw[(gh.old q hq).1]at hx
    rw[(gh.old q hq).2]at e
    exact h.rows q x hx hk e.symm
   ·have:=(gh.new q x hx (by omega)).2 hk
    have:=kM _ e;omega
 have hp7:PartsD (w6.setCell ⟨pb,4,none⟩ (.slice (some ⟨g,0,none⟩) (i+1) cap)) G2 D2:=kV.pd.but
  (λq x hx=>by obtain⟨a,b,c⟩:=af q x hx;exact(oF q a).trans (eL q b c))
  (λq x hx hk=>by obtain⟨a,b,c⟩:=gX q x hx hk;exact(oF _ a).trans (eL _ b c))
 have hms7:MapS (w6.setCell ⟨pb,4,none⟩ (.slice (some ⟨g,0,none⟩) (i+1) cap)) mv V2:=MapK.keep kV.ms ((oF mv h2.symm).trans (eL mv (by omega) (λe=>by have:=kM mv e;omega))) (λ_ h=>h);have sK:MapI (w6.setCell ⟨pb,4,none⟩ (.slice (some ⟨g,0,none⟩) (i+1) cap)) mu U2:=MapK.keep kV.mi ((oF mu h3.symm).trans (eL mu (by omega) (λe=>by have:=kM mu e;omega))) (λ_ h=>h);refine⟨ids++[p],aN++[ns],G2,D2,V2,U2,⟨?_,?_,by rw[Ap,h.li];rfl,by rw[Ap,h.ln];rfl,⟨hms7,sK,hp7,kV.vn,kV.un,kV.dn⟩,?_,λq x hx hk e=>?_,λj q u' cW hj my mO=>?_,?_,λq hq=>?_,?_⟩⟩
 ·exact heap_setCell_same _ pb 4 _ _ _ eY
 ·rw[Bl]
  exact ownsRow_setCell_other ho (λe=>hgpb (by simpa[Value.ownBlock] using e)) _
 ·rw[kG]
  have eH:LExt wr.heap.size w6.heap.size G' G2 D' D2 V' V2 U' U2:=⟨λq hq=>gh.old q (by omega),λq x hx hq=>by
   by_cases qS:q<wa.heap.size
   ·rw[(gh.old q qS).1]at hx
    have:=h.lays.lt hx;omega
   ·obtain⟨a,b⟩:=gh.new q x hx (by omega)
    exact⟨by omega,λhk=>by have:=b hk;omega⟩,gh.vx,gh.ux,gh.vn⟩
  exact h.ext.trans eH cY (by omega) (λx p hp=>by obtain⟨nw,h4⟩:=h.lays.vn x p hp;exact h.lays.lt h4)
 ·obtain⟨a,b,c⟩:=gX q x hx hk
  have e:(D2 q).row=g:=by simpa[Value.ownBlock] using e
  rcases bF with e2|e2
  ·rw[e]at c;exact c e2
  ·omega
 ·rcases Ch j i with hji|hji
  ·rw[Bm (by rw[h.li];exact hji)]at hj
   rw[Bm (by rw[h.ln];exact hji)]at mO
   exact(h.kid j q u' cW hj my mO).more (gh.gx λq x hx=>by have:=h.lays.lt hx;omega) gh.ux gh.vx
  ·have hji':j=i:=by
    have:=(Aw.1 hj).1;rw[Ap,h.li]at this
    simp at this;omega
   subst hji';rw[AW (by rw[h.li];exact Ai _),h.li]at hj
   rw[AW (by rw[h.ln];exact Ai _),h.ln]at mO
   simp at hj mO;subst hj mO;rw[hu]at my
   injection my with my;subst my;exact ht5
 ·rw[CM,BL]
  refine⟨h.nd,by simpa using jR,λa ha b eC e=>?_⟩;simp at eC;have h4:=h.rg a ha;have h5:=fE b eC;omega
 ·rw[kG]
  rw[CM,AA]at hq
  rcases hq with hq|hq
  ·have:=h.rg q hq;omega
  ·simp at hq
   have:=fE q hq;omega
 ·have c1:Chg (λg=>g=mv\/g=mu\/g=pb) w3 w5:=(h.chg.below hb).trans' br (λk _ e=>by rcases e with e|e;exact .inl e;exact .inr (.inl e))
  exact((c1.alloc _).grown hg (λk hk=>.inl (kM k hk).1)).setCell (p:=⟨pb,4,none⟩) (.inr (.inr (.inr rfl))) _
theorem HeadI.zero {mv mu pb:Nat} {kl:List Ty} {K:Int} {X:ByteArray} {Z:Int} {TA con:Value} {w3:World} {G1:Nat->Option Nd} {D1:Nat->Dy} {V1:Name->Option Nat} {U1:Nat->Option Nat}
  (hb:Blk w3 pb 132 #[.int .i64 K,.string X,.int .i64 Z,TA,.slice none 0 0,con,.bool false,.bool false,.int .i64 0])(hl:Lays w3 mv mu G1 D1 V1 U1):HeadI mv mu pb kl K X Z TA con w3 G1 D1 V1 U1 0 (.slice none 0 0) [] [] G1 D1 V1 U1 w3 where
 blk:=hb
 own:=World.ownsRow_nil _ _ _ _
 li:=rfl
 ln:=rfl
 lays:=hl
 ext:=LExt.refl λq x hx=>hl.lt hx
 rows _ _ _ _ e:=by cases e
 kid j q u ns hj:=by simp at hj
 nd:=Bw
 rg q hq:=by simp at hq
 chg:=Chg.refl _ _
end Go.Proofs.YtfafilmklhnngaaGreatDoor
