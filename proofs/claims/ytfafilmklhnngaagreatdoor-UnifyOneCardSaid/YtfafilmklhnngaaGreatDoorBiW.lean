import Derived.Test.YtfafilmklhnngaaGreatDoorBiU
import Derived.Deep.CutRange
set_option maxHeartbeats 12800000
namespace Go.Proofs.YtfafilmklhnngaaGreatDoor
open Go.RowKit Lx Tx Go.Maps Go.WideMaps
set_option maxRecDepth 100000
theorem PartsD.chg1 {w w':World} {G:Nat->Option Nd} {D:Nat->Dy} {mb:Nat} {κ:Type} [DecidableEq κ] {kv:κ->Value} {f:κ->Option Nat}(h:PartsD w G D)(hm:MapK kv okT w mb f)(hc:Chg (only mb) w w'):PartsD w' G D :=
 h.same λk hk ⟨_,_,hx⟩=>hc.block k hk (λe=>by
  have e:k=mb:=e;rw[e]at hx
  exact hm.no hx)
theorem zlf {w w':World} {mv mu:Nat} {G:Nat->Option Nd} {D:Nat->Dy} {V:Name->Option Nat} {U:Nat->Option Nat}(h:Lays w mv mu G D V U)(hne:mv≠mu)(x:Name) {A:Option Addr} {m c:Nat} {e:Ending}
  (hp:OneP SK mv V x (partNew 1 ⟨x.toArray⟩ 0 A m c) w e w'):PartPost mv mu G D V U (.var x) w e w':=by
 obtain⟨p,rfl,hms,hold,hnew,hc⟩:=hp;have hsz:=hc.size;have hmi:MapI w' mu U:=MapK.keep h.mi (hc.block _ (MapK.lt h.mi) (λe=>hne (show mu=mv from e).symm)) (λ_ h=>h);have hpd:=h.pd.chg1 h.ms hc;have hC:Chg (λg=>g=mv\/g=mu) w w':=hc.mono λ_ _ h=>.inl h;cases hv:V x with
 |some q =>
  have hq:=hold q hv;subst hq;have hV:(λy=>if y=x then some p else V y)=V:=funext λy=>by
   by_cases hy:y=x
   ·rw[if_pos hy,hy,hv]
   ·rw[if_neg hy]
  rw[hV]at hms
  exact⟨p,[],G,D,V,U,rfl,⟨hms,hmi,hpd,h.vn,h.un,h.dn⟩,LExt.refl λq x hx=>h.lt hx,.var _ _ _ hv,List.nodup_nil,(λq hq=>by cases hq),hC⟩
 |none =>
  obtain⟨hp1,hb⟩:=hnew hv;have hlt:=hb.lt;have hG:∀q y,G q=some y->q≠p:=λq y hy e=>by have:=h.lt hy;omega
  refine⟨p,[],upn G p (some ⟨1,⟨x.toArray⟩,0,[],none,false⟩),upn D p ⟨.slice A m c,false,0,0⟩,upn V x (some p),U,rfl,⟨hms,hmi,λq y hy=>?_,λy q hy=>?_,λn q hn=>?_,λq y hy=>?_⟩,⟨λq hq=>?_,λq y hy hl=>?_,λy q hy=>?_,λ_ _ h=>h,λy q hy=>?_⟩,.var _ _ _ (zak _ _ _),List.nodup_nil,(λq hq=>by cases hq),hC⟩
  ·by_cases hqp:q=p
   ·subst hqp
    rw[zak]at hy ⊢
    injection hy with hy;subst hy;exact⟨none,0,hb,λhk=>absurd rfl hk⟩
   ·rw[zac _ _ _ _ hqp]at hy ⊢
    exact hpd q y hy
  ·by_cases hyx:y=x
   ·rw[hyx,zak]at hy
    injection hy with hy;subst hy;exact⟨false,by rw[zak,hyx]⟩
   ·rw[zac _ _ _ _ hyx]at hy
    obtain⟨nw,h1⟩:=h.vn y q hy;exact⟨nw,by rw[zac _ _ _ _ (hG q _ h1)];exact h1⟩
  ·have h1:=h.un n q hn
   rw[zac _ _ _ _ (hG q _ h1)];exact h1
  ·by_cases hqp:q=p
   ·rw[hqp,zak];exact⟨rfl,rfl,_,_,_,rfl⟩
   ·rw[zac _ _ _ _ hqp]at hy ⊢;exact h.dn q y hy
  ·have:q≠p:=by omega
   rw[zac _ _ _ _ this,zac _ _ _ _ this];exact⟨rfl,rfl⟩
  ·by_cases hqp:q=p
   ·subst hqp
    rw[zak]at hy
    injection hy with hy;subst hy;exact⟨hlt,λhk=>absurd rfl hk⟩
   ·rw[zac _ _ _ _ hqp]at hy
    have:=h.lt hy;omega
  ·have:y≠x:=λe=>by rw[e,hv]at hy;cases hy
   rw[zac _ _ _ _ this];exact hy
  ·by_cases hyx:y=x
   ·rw[hyx,zak]at hy
    injection hy with hy;subst hy;exact .inr ⟨by rw[hyx];exact hv,by rw[zak,hyx]⟩
   ·rw[zac _ _ _ _ hyx]at hy;exact .inl hy
theorem zmX {w w':World} {mv mu:Nat} {G:Nat->Option Nd} {D:Nat->Dy} {V:Name->Option Nat} {U:Nat->Option Nat}(h:Lays w mv mu G D V U)(hne:mv≠mu)(x:Nat) {A:Option Addr} {m c:Nat} {e:Ending}
  (hp:OneP IK mu U x (partNew 2 ⟨#[]⟩ (x:Nat) A m c) w e w'):PartPost mv mu G D V U (.mt x) w e w':=by
 obtain⟨p,rfl,hmi,hold,hnew,hc⟩:=hp;have hsz:=hc.size;have hms:MapS w' mv V:=MapK.keep h.ms (hc.block _ (MapK.lt h.ms) (λe=>hne (show mv=mu from e))) (λ_ h=>h);have hpd:=h.pd.chg1 h.mi hc;have hC:Chg (λg=>g=mv\/g=mu) w w':=hc.mono λ_ _ h=>.inr h;cases hv:U x with
 |some q =>
  have hq:=hold q hv;subst hq;have hU:(λy=>if y=x then some p else U y)=U:=funext λy=>by
   by_cases hy:y=x
   ·rw[if_pos hy,hy,hv]
   ·rw[if_neg hy]
  rw[hU]at hmi
  exact⟨p,[],G,D,V,U,rfl,⟨hms,hmi,hpd,h.vn,h.un,h.dn⟩,LExt.refl λq x hx=>h.lt hx,.mt _ _ _ hv,List.nodup_nil,(λq hq=>by cases hq),hC⟩
 |none =>
  obtain⟨hp1,hb⟩:=hnew hv;have hlt:=hb.lt;have hG:∀q y,G q=some y->q≠p:=λq y hy e=>by have:=h.lt hy;omega
  refine⟨p,[],upn G p (some ⟨2,⟨#[]⟩,x,[],none,false⟩),upn D p ⟨.slice A m c,false,0,0⟩,V,upn U x (some p),rfl,⟨hms,hmi,λq y hy=>?_,λy q hy=>?_,λn q hn=>?_,λq y hy=>?_⟩,⟨λq hq=>?_,λq y hy hl=>?_,λ_ _ h=>h,λy q hy=>?_,λ_ _ h=>.inl h⟩,.mt _ _ _ (zak _ _ _),List.nodup_nil,(λq hq=>by cases hq),hC⟩
  ·by_cases hqp:q=p
   ·subst hqp
    rw[zak]at hy ⊢
    injection hy with hy;subst hy;exact⟨none,0,hb,λhk=>absurd rfl hk⟩
   ·rw[zac _ _ _ _ hqp]at hy ⊢
    exact hpd q y hy
  ·obtain⟨nw,h1⟩:=h.vn y q hy
   exact⟨nw,by rw[zac _ _ _ _ (hG q _ h1)];exact h1⟩
  ·by_cases hyx:n=x
   ·rw[hyx,zak]at hn
    injection hn with hn;subst hn;rw[zak,hyx]
   ·rw[zac _ _ _ _ hyx]at hn
    have h1:=h.un n q hn;rw[zac _ _ _ _ (hG q _ h1)];exact h1
  ·by_cases hqp:q=p
   ·rw[hqp,zak];exact⟨rfl,rfl,_,_,_,rfl⟩
   ·rw[zac _ _ _ _ hqp]at hy ⊢;exact h.dn q y hy
  ·have:q≠p:=by omega
   rw[zac _ _ _ _ this,zac _ _ _ _ this];exact⟨rfl,rfl⟩
  ·by_cases hqp:q=p
   ·subst hqp
    rw[zak]at hy
    injection hy with hy;subst hy;exact⟨hlt,λhk=>absurd rfl hk⟩
   ·rw[zac _ _ _ _ hqp]at hy
    have:=h.lt hy;omega
  ·have:y≠x:=λe=>by rw[e,hv]at hy;cases hy
   rw[zac _ _ _ _ this];exact hy
theorem PartPost.from {mv mu:Nat} {G:Nat->Option Nd} {D:Nat->Dy} {V:Name->Option Nat} {U:Nat->Option Nat} {t:Ty} {w w1 w':World} {e:Ending}(h:PartPost mv mu G D V U t w1 e w')(hb:Below w.heap.size w w1)(hG:∀q x,G q=some x->q<w.heap.size):PartPost mv mu G D V U t w e w':=by
 obtain⟨p,ns,G',D',V',U',he,hl,hx,ht,hn,hns,hc⟩:=h;have hs:=hb.size;refine⟨p,ns,G',D',V',U',he,hl,⟨λq hq=>hx.old q (by omega),λq y hy hlq=>?_,hx.vx,hx.ux,hx.vn⟩,ht,hn,λq hq=>?_,(Chg.of_below hb).trans' hc (λg _ h=>h)⟩
 ·by_cases hq:q<w1.heap.size
  ·rw[(hx.old q hq).1]at hy
   have:=hG q y hy;omega
  ·obtain⟨h1,h2⟩:=hx.new q y hy (by omega)
   exact⟨h1,λhk=>by have:=h2 hk;omega⟩
 ·have:=hns q hq
  omega
theorem zjU(b mv mu:Nat)(x:Name)(A:Option Addr)(m c:Nat)(w:World)(sl mk sr:Value)(G:Nat->Option Nd)(D:Nat->Dy)(V:Name->Option Nat)(U:Nat->Option Nat)(hb:Blk w b 85 #[sl,.map (some mv),.map (some mu),mk,sr])(hl:Lays w mv mu G D V U)(hne:mv≠mu):Calls Tryz.prog 33 #[.pointer (some ⟨b,0,none⟩),.agg #[.int .i64 1,.string ⟨x.toArray⟩,.int .i64 0,.slice A m c]] w (PartPost mv mu G D V U (.var x) w):=by
 obtain⟨w1,hw1⟩:∃w1,w.alloc (.cells #[.int .i64 1,.string ⟨x.toArray⟩,.int .i64 0,.slice A m c] 37)=w1:=⟨_,rfl⟩;have hb1:Below w.heap.size w w1:=by rw[<-hw1];exact(Below.refl _ w).alloc (Nat.le_refl _) _
 have hs1:w1.heap.size=w.heap.size+1:=by rw[<-hw1];simp
 have hB1:=hb.below hb1 hb.lt;have hT1:Blk w1 w.heap.size 37 #[.int .i64 1,.string ⟨x.toArray⟩,.int .i64 0,.slice A m c]:=by rw[<-hw1];exact heap_alloc_new w _
 have hl1:Lays w1 mv mu G D V U:=hl.keep λk hk=>hb1.block k hk;have hl1d:Lays w1.drew mv mu G D V U:=hl1.keep λ_ _=>rfl;have hmv:mv<w.heap.size:=MapK.lt hl.ms;have hmb:b≠mv:=λe=>MapK.no hl.ms (e▸hb);have HONE:Hid (Calls Tryz.prog 67 #[.map (some mv),.string ⟨x.toArray⟩,.agg #[.int .i64 1,.string ⟨x.toArray⟩,.int .i64 0,.slice A m c]] w1.drew (λe w'=>PartPost mv mu G D V U (.var x) w e w'/\Chg (only mv) w1.drew w')):=hidE (by
  refine(zoc mv V x 1 ⟨x.toArray⟩ 0 A m c w1.drew hl1d.ms).mono ?_;intro e w' h;exact⟨(zlf hl1d hne x h).from (Below.drew hb1) (λq x hx=>hl.lt hx),by obtain⟨_,_,_,_,_,hc⟩:=h;exact hc⟩)
 obtain⟨t0,t1,t2,t3,-,-,-,-,-⟩:=zaa hT1;have b1:=hB1.cell 1;simp at b1;have hbl:=hB1.lt;have SOF:Hid (∀W:World,Chg (only mv) w1.drew W->W.cell? ⟨w.heap.size,0,none⟩=some (.int .i64 1)/\W.cell? ⟨w.heap.size,1,none⟩=some (.string ⟨x.toArray⟩)/\W.cell? ⟨w.heap.size,2,none⟩=some (.int .i64 0)/\W.cell? ⟨w.heap.size,3,none⟩=some (.slice A m c)/\W.cell? ⟨b,1,none⟩=some (.map (some mv))):=hidE λW hc=>by
  have k1:=Blk.chg (w:=w1.drew) hT1 hc (by unfold only;omega);have k2:=Blk.chg (w:=w1.drew) hB1 hc hmb;exact⟨k1.cell 0,k1.cell 1,k1.cell 2,k1.cell 3,k2.cell 1⟩
 clear hb hl hne hl1 hl1d hb1 hB1 hT1 hmv hmb;go_enter_defers Tryz.func33,Tryz.ntmps33
 go_upto_region 3 with fail
 clear hw1;go_region_held3 (λW:World=>W.cell? ⟨w.heap.size,0,none⟩=some (.int .i64 1)/\W.cell? ⟨w.heap.size,1,none⟩=some (.string ⟨x.toArray⟩)/\W.cell? ⟨w.heap.size,2,none⟩=some (.int .i64 0)/\W.cell? ⟨w.heap.size,3,none⟩=some (.slice A m c)/\W.cell? ⟨b,1,none⟩=some (.map (some mv))) (first|(exact⟨t0,t1,t2,t3,b1⟩)|(exact SOF.out _ C5.out))
  (((with_reducible refine HONE.out.mono ?_);rintro e w5 ⟨hpost,hc5⟩;obtain⟨p,hp⟩:∃p,e=.returned (.pointer (some ⟨p,0,none⟩)):=(by obtain⟨p,ns,G',D',V',U',he,_⟩:=hpost;exact⟨p,he⟩);subst hp;have HP:=hidE hpost;have C5:=hidE hc5;clear hpost hc5))
 all_goals
  go_wp2_with fail
  exact⟨_,results_tmp (show Tryz.f33.results=#[.tmp 4] from rfl) _ _ _,HP.out⟩
theorem zlg(b mv mu:Nat)(x:Nat)(A:Option Addr)(m c:Nat)(w:World)(sl mk sr:Value)(G:Nat->Option Nd)(D:Nat->Dy)(V:Name->Option Nat)(U:Nat->Option Nat)(hb:Blk w b 85 #[sl,.map (some mv),.map (some mu),mk,sr])(hl:Lays w mv mu G D V U)(hne:mv≠mu):Calls Tryz.prog 33 #[.pointer (some ⟨b,0,none⟩),.agg #[.int .i64 2,.string ⟨#[]⟩,.int .i64 (x:Nat),.slice A m c]] w (PartPost mv mu G D V U (.mt x) w):=by
 obtain⟨w1,hw1⟩:∃w1,w.alloc (.cells #[.int .i64 2,.string ⟨#[]⟩,.int .i64 (x:Nat),.slice A m c] 37)=w1:=⟨_,rfl⟩;have hb1:Below w.heap.size w w1:=by rw[<-hw1];exact(Below.refl _ w).alloc (Nat.le_refl _) _
 have hs1:w1.heap.size=w.heap.size+1:=by rw[<-hw1];simp
 have hB1:=hb.below hb1 hb.lt;have hT1:Blk w1 w.heap.size 37 #[.int .i64 2,.string ⟨#[]⟩,.int .i64 (x:Nat),.slice A m c]:=by rw[<-hw1];exact heap_alloc_new w _
 have hl1:Lays w1 mv mu G D V U:=hl.keep λk hk=>hb1.block k hk;have hl1d:Lays w1.drew mv mu G D V U:=hl1.keep λ_ _=>rfl;have hmv:mu<w.heap.size:=MapK.lt hl.mi;have hmb:b≠mu:=λe=>MapK.no hl.mi (e▸hb);have HONE:Hid (Calls Tryz.prog 68 #[.map (some mu),.int .i64 (x:Nat),.agg #[.int .i64 2,.string ⟨#[]⟩,.int .i64 (x:Nat),.slice A m c]] w1.drew (λe w'=>PartPost mv mu G D V U (.mt x) w e w'/\Chg (only mu) w1.drew w')):=hidE (by
  refine(zod mu U x 2 ⟨#[]⟩ (x:Nat) A m c w1.drew hl1d.mi).mono ?_;intro e w' h;exact⟨(zmX hl1d hne x h).from (Below.drew hb1) (λq x hx=>hl.lt hx),by obtain⟨_,_,_,_,_,hc⟩:=h;exact hc⟩)
 obtain⟨t0,t1,t2,t3,-,-,-,-,-⟩:=zaa hT1;have b1:=hB1.cell 2;simp at b1;have hbl:=hB1.lt;have SOF:Hid (∀W:World,Chg (only mu) w1.drew W->W.cell? ⟨w.heap.size,0,none⟩=some (.int .i64 2)/\W.cell? ⟨w.heap.size,1,none⟩=some (.string ⟨#[]⟩)/\W.cell? ⟨w.heap.size,2,none⟩=some (.int .i64 (x:Nat))/\W.cell? ⟨w.heap.size,3,none⟩=some (.slice A m c)/\W.cell? ⟨b,2,none⟩=some (.map (some mu))):=hidE λW hc=>by
  have k1:=Blk.chg (w:=w1.drew) hT1 hc (by unfold only;omega);have k2:=Blk.chg (w:=w1.drew) hB1 hc hmb;exact⟨k1.cell 0,k1.cell 1,k1.cell 2,k1.cell 3,k2.cell 2⟩
 clear hb hl hne hl1 hl1d hb1 hB1 hT1 hmv hmb;go_enter_defers Tryz.func33,Tryz.ntmps33
 go_upto_region 5 with fail
 clear hw1;go_region_held3 (λW:World=>W.cell? ⟨w.heap.size,0,none⟩=some (.int .i64 2)/\W.cell? ⟨w.heap.size,1,none⟩=some (.string ⟨#[]⟩)/\W.cell? ⟨w.heap.size,2,none⟩=some (.int .i64 (x:Nat))/\W.cell? ⟨w.heap.size,3,none⟩=some (.slice A m c)/\W.cell? ⟨b,2,none⟩=some (.map (some mu))) (first|(exact⟨t0,t1,t2,t3,b1⟩)|(exact SOF.out _ C5.out))
  (((with_reducible refine HONE.out.mono ?_);rintro e w5 ⟨hpost,hc5⟩;obtain⟨p,hp⟩:∃p,e=.returned (.pointer (some ⟨p,0,none⟩)):=(by obtain⟨p,ns,G',D',V',U',he,_⟩:=hpost;exact⟨p,he⟩);subst hp;have HP:=hidE hpost;have C5:=hidE hc5;clear hpost hc5))
 all_goals
  go_wp2_with fail
  exact⟨_,results_tmp (show Tryz.f33.results=#[.tmp 4] from rfl) _ _ _,HP.out⟩
end Go.Proofs.YtfafilmklhnngaaGreatDoor
namespace Go.Proofs.YtfafilmklhnngaaGreatDoor
open Go.RowKit Lx Tx Go.Maps Go.WideMaps
set_option maxRecDepth 100000
def PartPostP(mv mu:Nat)(G:Nat->Option Nd)(D:Nat->Dy)(V:Name->Option Nat)(U:Nat->Option Nat)(t:Ty)(w:World)(p:Nat)(w':World):Prop :=
 ∃ns G' D' V' U',Lays w' mv mu G' D' V' U'/\LExt w.heap.size w'.heap.size G G' D D' V V' U U'/\LayT G' U' V' p t ns/\ns.Nodup/\(∀q∈ns,w.heap.size<=q/\q<w'.heap.size)/\Chg (λg=>g=mv\/g=mu) w w'
theorem PartPost.split {mv mu:Nat} {G:Nat->Option Nd} {D:Nat->Dy} {V:Name->Option Nat} {U:Nat->Option Nat} {t:Ty} {w w':World} {e:Ending}(h:PartPost mv mu G D V U t w e w'):∃p,e=.returned (.pointer (some ⟨p,0,none⟩))/\PartPostP mv mu G D V U t w p w':=by
 obtain⟨p,ns,G',D',V',U',he,h⟩:=h;exact⟨p,he,ns,G',D',V',U',h⟩
theorem PartPostP.chg {mv mu:Nat} {G:Nat->Option Nd} {D:Nat->Dy} {V:Name->Option Nat} {U:Nat->Option Nat} {t:Ty} {w w':World} {p:Nat}(h:PartPostP mv mu G D V U t w p w'):Chg (λg=>g=mv\/g=mu) w w':=by
 obtain⟨ns,G',D',V',U',_,_,_,_,_,h⟩:=h;exact h
structure HeadI (mv mu pb:Nat) (kl:List Ty) (K:Int) (X:ByteArray) (Z:Int) (TA:Value) (con:Value) (w3:World) (G1:Nat->Option Nd) (D1:Nat->Dy) (V1:Name->Option Nat) (U1:Nat->Option Nat) (i:Nat) (v:Value) (ids:List Nat) (nss:List (List Nat))
  (G':Nat->Option Nd)(D':Nat->Dy)(V':Name->Option Nat)(U':Nat->Option Nat)(wr:World):Prop where
 blk:Blk wr pb 132 #[.int .i64 K,.string X,.int .i64 Z,TA,v,con,.bool false,.bool false,.int .i64 0]
 own:wr.ownsRow w3.heap.size 75 1 v i (ids.map PK)
 li:ids.length=i
 ln:nss.length=i
 lays:Lays wr mv mu G' D' V' U'
 ext:LExt w3.heap.size wr.heap.size G1 G' D1 D' V1 V' U1 U'
 rows:∀q x,G' q=some x->x.kids≠[]->some (D' q).row≠v.ownBlock
 kid:∀(j q:Nat) (u:Ty) (ns:List Nat),ids[j]?=some q->kl[j]?=some u->nss[j]?=some ns->LayT G' U' V' q u ns
 nd:nss.flatten.Nodup
 rg:∀q∈nss.flatten,w3.heap.size<=q/\q<wr.heap.size
 chg:Chg (λg=>g=mv\/g=mu\/g=pb) w3 wr
theorem zal {w w':World} {B:Nat} {e:TypeId} {size n:Nat} {v:Value} {xs:List Value}(h:w.ownsRow B e size v n xs)(hk:∀g,v.ownBlock=some g->w'.heap[g]?=w.heap[g]?):w'.ownsRow B e size v n xs:=by
 obtain⟨h0,h⟩:=h;refine⟨h0,?_⟩;rcases h with h|⟨g,cap,cur,hv,hg,hb,h⟩
 ·exact .inl h
 ·exact .inr ⟨g,cap,cur,hv,hg,(hk g (by rw[hv];rfl)).trans hb,h⟩
theorem zab {w:World} {B:Nat} {e:TypeId} {size n:Nat} {v:Value} {xs:List Value}(h:w.ownsRow B e size v n xs)(g:Nat)(hg:v.ownBlock=some g):B<=g/\g<w.heap.size/\∃cur,w.heap[g]?=some (.cells cur e (0,0)):=by
 rcases h.2 with⟨rfl,_⟩|⟨g',cap,cur,rfl,h1,h2,_⟩
 ·cases hg
 ·have:g'=g:=by simpa[Value.ownBlock] using hg
  subst this;exact⟨h1,(Array.getElem?_eq_some_iff.1 h2).1,cur,h2⟩
theorem PartsD.but {w w':World} {G:Nat->Option Nd} {D:Nat->Dy}(h:PartsD w G D)(hp:∀q x,G q=some x->w'.heap[q]?=w.heap[q]?)(hr:∀q x,G q=some x->x.kids≠[]->w'.heap[(D q).row]?=w.heap[(D q).row]?):PartsD w' G D :=
 λp x hx=>(h p x hx).keep (hp p x hx) (hr p x hx)
theorem HeadI.next {mv mu pb:Nat} {kl:List Ty} {K:Int} {X:ByteArray} {Z:Int} {TA con:Value} {w3:World} {G1:Nat->Option Nd} {D1:Nat->Dy} {V1:Name->Option Nat} {U1:Nat->Option Nat} {i:Nat} {v:Value} {ids:List Nat} {nss:List (List Nat)}
  {G':Nat->Option Nd} {D':Nat->Dy} {V':Name->Option Nat} {U':Nat->Option Nat} {wr:World} (h:HeadI mv mu pb kl K X Z TA con w3 G1 D1 V1 U1 i v ids nss G' D' V' U' wr) (h1:pb<w3.heap.size) (h2:pb≠mv) (h3:pb≠mu) (hm:mv<w3.heap.size) (hm2:mu<w3.heap.size) (hpG:G1 pb=none)
  {u:Ty} (hu:kl[i]?=some u) {wa w5 w6:World} (hb:Below wr.heap.size wr wa) {p:Nat} (hp:PartPostP mv mu G' D' V' U' u wa p w5) {g cap:Nat}
  (ho:w6.ownsRow w3.heap.size 75 1 (.slice (some ⟨g,0,none⟩) (i+1) cap) (i+1) (ids.map PK++[PK p]))(hg:(w5.alloc (.cells #[PK p] 75)).grownBy w6 v.ownBlock)(hat:v.ownBlock=some g\/g=w5.heap.size+1):∃ids' nss' G2 D2 V2 U2,HeadI mv mu pb kl K X Z TA con w3 G1 D1 V1 U1 (i+1) (.slice (some ⟨g,0,none⟩) (i+1) cap) ids' nss' G2 D2 V2 U2 (w6.setCell ⟨pb,4,none⟩ (.slice (some ⟨g,0,none⟩) (i+1) cap)):=by
 obtain⟨ns,G2,D2,V2,U2,hl5,hx5,ht5,hn5,hr5,hc5⟩:=hp;have hsa:=hb.size;have hs5:=hc5.size;have hs3:=h.chg.size;have hs6:=hg.size;simp only[World.size_alloc]at hs6;have hob:∀k,v.ownBlock=some k->w3.heap.size<=k/\k<wr.heap.size:=λk hk=>⟨(zab h.own k hk).1,(zab h.own k hk).2.1⟩;have hG'pb:G' pb=none:=by rw[(h.ext.old pb h1).1];exact hpG
 have hG2pb:G2 pb=none:=by rw[(hx5.old pb (by omega)).1];exact hG'pb
 have hpb5:Blk w5 pb 132 #[.int .i64 K,.string X,.int .i64 Z,TA,v,con,.bool false,.bool false,.int .i64 0]:=Blk.chg (h.blk.below hb h.blk.lt) hc5 (λe=>by rcases e with e|e;exact h2 e;exact h3 e);have hk6:∀k,k<w5.heap.size->v.ownBlock≠some k->w6.heap[k]?=w5.heap[k]?:=λk hk hne=>(hg.block k (by simp;omega) (λe=>hne e.symm)).trans (Below.heap_alloc _ _ _ hk);have hpb6:Blk w6 pb 132 #[.int .i64 K,.string X,.int .i64 Z,TA,v,con,.bool false,.bool false,.int .i64 0]:=(hk6 pb hpb5.lt (λe=>by have:=hob pb e;omega)).trans hpb5;have hk7:∀k,k≠pb->(w6.setCell ⟨pb,4,none⟩ (.slice (some ⟨g,0,none⟩) (i+1) cap)).heap[k]?=w6.heap[k]?:=λk hk=>Below.heap_setCell _ _ _ _ hk;have hs7:(w6.setCell ⟨pb,4,none⟩ (.slice (some ⟨g,0,none⟩) (i+1) cap)).heap.size=w6.heap.size:=by simp
 have hgpb:g≠pb:=by
  rcases hat with e|e
  ·have:=hob g e;omega
  ·omega
 have hne:∀q x,G2 q=some x->q≠pb/\q<w5.heap.size/\v.ownBlock≠some q:=λq x hx=>by
  refine⟨(λe=>by rw[e,hG2pb]at hx;cases hx),hl5.lt hx,λe=>?_⟩;obtain⟨_,hk,cur,hcur⟩:=zab h.own q e;have hcur5:w5.heap[q]?=some (.cells cur 75 (0,0)):=by
   refine(hc5.block q (by omega) (λe'=>?_)).trans ((hb.block q hk).trans hcur);have:=hob q e;rcases e' with e'|e' <;> omega
  obtain⟨A,c,hbq,_⟩:=hl5.pd q x hx;have hbq:w5.heap[q]?=_:=hbq;rw[hcur5]at hbq
  injection hbq with hbq;injection hbq with _ hbq _;exact absurd hbq (by decide)
 have hnr:∀q x,G2 q=some x->x.kids≠[]->(D2 q).row≠pb/\(D2 q).row<w5.heap.size/\v.ownBlock≠some (D2 q).row:=λq x hx hk=>by
  have hlt:=(hl5.pd q x hx).row_lt hk;refine⟨λe=>?_,hlt,λe=>?_⟩
  ·obtain⟨A,c,_,hrow⟩:=hl5.pd q x hx
   obtain⟨_,cur,hcur,_⟩:=hrow hk;rw[e]at hcur
   have hpb5':w5.heap[pb]?=_:=hpb5;rw[hcur]at hpb5'
   injection hpb5' with hpb5';injection hpb5' with _ hq _;exact absurd hq (by decide)
  ·by_cases hq:q<wa.heap.size
   ·rw[(hx5.old q hq).1]at hx
    rw[(hx5.old q hq).2]at e
    exact h.rows q x hx hk e.symm
   ·have:=(hx5.new q x hx (by omega)).2 hk
    have:=hob _ e;omega
 have hp7:PartsD (w6.setCell ⟨pb,4,none⟩ (.slice (some ⟨g,0,none⟩) (i+1) cap)) G2 D2:=hl5.pd.but
  (λq x hx=>by obtain⟨a,b,c⟩:=hne q x hx;exact(hk7 q a).trans (hk6 q b c))
  (λq x hx hk=>by obtain⟨a,b,c⟩:=hnr q x hx hk;exact(hk7 _ a).trans (hk6 _ b c))
 have hms7:MapS (w6.setCell ⟨pb,4,none⟩ (.slice (some ⟨g,0,none⟩) (i+1) cap)) mv V2:=MapK.keep hl5.ms ((hk7 mv h2.symm).trans (hk6 mv (by omega) (λe=>by have:=hob mv e;omega))) (λ_ h=>h);have hmi7:MapI (w6.setCell ⟨pb,4,none⟩ (.slice (some ⟨g,0,none⟩) (i+1) cap)) mu U2:=MapK.keep hl5.mi ((hk7 mu h3.symm).trans (hk6 mu (by omega) (λe=>by have:=hob mu e;omega))) (λ_ h=>h);refine⟨ids++[p],nss++[ns],G2,D2,V2,U2,⟨?_,?_,by rw[List.length_append,h.li];rfl,by rw[List.length_append,h.ln];rfl,⟨hms7,hmi7,hp7,hl5.vn,hl5.un,hl5.dn⟩,?_,λq x hx hk e=>?_,λj q u' ns' hj hu' hns'=>?_,?_,λq hq=>?_,?_⟩⟩
 ·exact heap_setCell_same _ pb 4 _ _ _ hpb6
 ·rw[List.map_append]
  exact ownsRow_setCell_other ho (λe=>hgpb (by simpa[Value.ownBlock] using e)) _
 ·rw[hs7]
  have hx':LExt wr.heap.size w6.heap.size G' G2 D' D2 V' V2 U' U2:=⟨λq hq=>hx5.old q (by omega),λq x hx hq=>by
   by_cases hqa:q<wa.heap.size
   ·rw[(hx5.old q hqa).1]at hx
    have:=h.lays.lt hx;omega
   ·obtain⟨a,b⟩:=hx5.new q x hx (by omega)
    exact⟨by omega,λhk=>by have:=b hk;omega⟩,hx5.vx,hx5.ux,hx5.vn⟩
  exact h.ext.trans hx' hs3 (by omega) (λx p hp=>by obtain⟨nw,h4⟩:=h.lays.vn x p hp;exact h.lays.lt h4)
 ·obtain⟨a,b,c⟩:=hnr q x hx hk
  have e:(D2 q).row=g:=by simpa[Value.ownBlock] using e
  rcases hat with e2|e2
  ·rw[e]at c;exact c e2
  ·omega
 ·rcases Nat.lt_or_ge j i with hji|hji
  ·rw[List.getElem?_append_left (by rw[h.li];exact hji)]at hj
   rw[List.getElem?_append_left (by rw[h.ln];exact hji)]at hns'
   exact(h.kid j q u' ns' hj hu' hns').more (hx5.gx λq x hx=>by have:=h.lays.lt hx;omega) hx5.ux hx5.vx
  ·have hji':j=i:=by
    have:=(List.getElem?_eq_some_iff.1 hj).1;rw[List.length_append,h.li]at this
    simp at this;omega
   subst hji';rw[List.getElem?_append_right (by rw[h.li];exact Nat.le_refl _),h.li]at hj
   rw[List.getElem?_append_right (by rw[h.ln];exact Nat.le_refl _),h.ln]at hns'
   simp at hj hns';subst hj hns';rw[hu]at hu'
   injection hu' with hu';subst hu';exact ht5
 ·rw[List.flatten_append,List.nodup_append]
  refine⟨h.nd,by simpa using hn5,λa ha b hb' e=>?_⟩;simp at hb';have h4:=h.rg a ha;have h5:=hr5 b hb';omega
 ·rw[hs7]
  rw[List.flatten_append,List.mem_append]at hq
  rcases hq with hq|hq
  ·have:=h.rg q hq;omega
  ·simp at hq
   have:=hr5 q hq;omega
 ·have c1:Chg (λg=>g=mv\/g=mu\/g=pb) w3 w5:=(h.chg.below hb).trans' hc5 (λk _ e=>by rcases e with e|e;exact .inl e;exact .inr (.inl e))
  exact((c1.alloc _).grown hg (λk hk=>.inl (hob k hk).1)).setCell (p:=⟨pb,4,none⟩) (.inr (.inr (.inr rfl))) _
theorem HeadI.zero {mv mu pb:Nat} {kl:List Ty} {K:Int} {X:ByteArray} {Z:Int} {TA con:Value} {w3:World} {G1:Nat->Option Nd} {D1:Nat->Dy} {V1:Name->Option Nat} {U1:Nat->Option Nat}
  (hb:Blk w3 pb 132 #[.int .i64 K,.string X,.int .i64 Z,TA,.slice none 0 0,con,.bool false,.bool false,.int .i64 0])(hl:Lays w3 mv mu G1 D1 V1 U1):HeadI mv mu pb kl K X Z TA con w3 G1 D1 V1 U1 0 (.slice none 0 0) [] [] G1 D1 V1 U1 w3 where
 blk:=hb
 own:=World.ownsRow_nil _ _ _ _
 li:=rfl
 ln:=rfl
 lays:=hl
 ext:=LExt.refl λq x hx=>hl.lt hx
 rows _ _ _ _ e:=by cases e
 kid j q u ns hj:=by simp at hj
 nd:=List.nodup_nil
 rg q hq:=by simp at hq
 chg:=Chg.refl _ _
end Go.Proofs.YtfafilmklhnngaaGreatDoor
