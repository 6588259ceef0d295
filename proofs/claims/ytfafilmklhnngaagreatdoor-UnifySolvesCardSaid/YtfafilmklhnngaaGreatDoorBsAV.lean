import Derived.Test.YtfafilmklhnngaaGreatDoorBsAU
import Derived.Test.YtfafilmklhnngaaGreatDoorBsAT
set_option maxHeartbeats 12800000
set_option maxRecDepth 100000
namespace Go.Proofs.YtfafilmklhnngaaGreatDoor
open Tryz
section
open Go.RowKit Lx Tx Go.Maps Go.WideMaps Go.Shelf
set_option maxRecDepth 100000
theorem VA(n:Nat):(l:List (Nat × Ty))->kf l n=match Iv n l with|some u=>db [] u|none=>.mt n
 |[]=>rfl
 |p::r=>by
  have ih:=VA n r;unfold kf at ih ⊢;rw[List.find?_cons,Iv];by_cases h:p.1=n
  ·simp[h]
  ·rw[Cg h,show(p.1==n)=false from by simpa using h]
   exact ih
def FM(l:List (Nat × Ty))(t:Ty):Ty:=J8 (JG l) t
theorem zre(l:List (Nat × Ty))(t:Ty)(hb:0+(t.E7+1)*((p_ (JG l) t++Gq t).length+1)<10 ^ 15):db [] (FM l t)=ap (kf l) (db [] t):=by
 unfold FM ap;rw[zot _ _ hb];have h1:Fp (JG l)=Dt.fv:=by
  funext x
  unfold Fp IW;show db [] (.var x)=.fv x;rw[db];rfl
 have h2:Gp (JG l)=kf l:=by
  funext n
  rw[VA];unfold Gp IW;show db [] ((Iv n l).getD (.mt n))=_;cases Iv n l with
  |none=>show db [] (.mt n)=.mt n;rw[db]
  |some u=>rfl
 rw[h1,h2]
theorem VL {V:Type} {n:Nat} {u:V} :(l:List (Nat × V))->Iv n l=some u->(n,u)∈l
 |[],h=>by cases h
 |p::r,h=>by
  rw[Iv]at h;split at h
  ·rename_i hp
   injection h with h;rw[<-hp,<-h]
   simp
  ·exact Cf _ (VL r h)
theorem Wc {l:List (Nat × Ty)} {t u:Ty}(h:JG l t=some u):∃n,t=.mt n/\(n,u)∈l:=by
 cases t with
 |mt n=>exact⟨n,rfl,VL l h⟩
 |_=>cases h
theorem zrf(l:List (Nat × Ty))(t:Ty)(hb:0+(t.E7+1)*((p_ (JG l) t++Gq t).length+1)<10 ^ 15)(hn:Nm t)(hl:∀e∈l,Nm e.2):Nm (FM l t) :=
 zov _ t hb hn λt' u h=>by obtain⟨n,-,h⟩:=Wc h;exact hl _ h
theorem zp1(l:List (Nat × Ty))(t:Ty)(B:Nat)(hB:1<=B)(hl:∀e∈l,e.2.size<=B):(FM l t).size<=t.size*B :=
 zmw _ t B hB λt' u h=>by obtain⟨n,-,h⟩:=Wc h;exact hl _ h
def L_(t:Ty)(w:World)(e:Ending)(w':World):Prop :=
 ∃k x z a m q,e=.returned (.agg #[.int .i64 k,.string x,.int .i64 z,.slice a m q])/\I9 w' t (.agg #[.int .i64 k,.string x,.int .i64 z,.slice a m q])/\Below w.heap.size w w'
theorem znZ {S:Nat->Prop} {l:List (Nat × Ty)} {A:Option Addr} {c:Nat} {t:Ty} {v:Value} {w:World}(hk:Hz S w l A)(hS:∀g,S g->g<w.heap.size)(hv:I9 w t v)(hr:∀e∈l,e.1<=999999/\Nm e.2/\e.2.size<=1000000000000)(hl:l.length<=1000000000000)(aw:Nm t)(aA:t.size<=1000000000000)(br:t.r_=true->t.size<=1000000/\(p_ (JG l) t).length<=90000000)(ht:FO w):Calls prog 20 #[.slice A l.length c,v] w (L_ (FM l t) w):=by
 refine(znY S _ l A c t v w hk hS hv (λ_ h=>h) hr hl aw aA br ht).mono ?_;rintro e w' ⟨k,x,z,a,m,q,rfl,h1,hb⟩;exact⟨k,x,z,a,m,q,rfl,h1.al (λg hg=>by rcases hg with h|h;exact Ci (hS g h) hb.size;exact h.2) (λ_ _=>rfl),hb⟩
theorem Hz.below {S:Nat->Prop} {w w':World} {l:List (Nat × Ty)} {A:Option Addr}(h:Hz S w l A)(hS:∀g,S g->g<w.heap.size)(hb:Below w.heap.size w w'):Hz S w' l A:=λi n t hi=>by
 obtain⟨g,At,ct,e,hg,ha,c0,c1,c2,c3,c4⟩:=h i n t hi;have hc:∀j u,w.cell? ⟨g,j,none⟩=some u->w'.cell? ⟨g,j,none⟩=some u:=λj u h=>(hb.cell (p:=⟨g,j,none⟩) hg).trans h;exact⟨g,At,ct,e,Ci hg hb.size,ha.al (λ_ h=>h) (λg hg=>hb.block g (hS g hg)),hc _ _ c0,hc _ _ c1,hc _ _ c2,hc _ _ c3,hc _ _ c4⟩
set_option maxRecDepth 100000
theorem zfe(l:List (Nat × Ty))(t:Ty)(B:Nat)(h:∀e∈l,(Fu e.2).length<=B):(p_ (JG l) t).length<=(Ig t).length*B:=by
 have h1:∀n:Nat,(Fo (JG l) (.mt n)).length<=B:=λn=>by
  unfold Fo;cases e:JG l (.mt n) with
  |none=>exact Cw _
  |some u=>obtain⟨m,-,hm⟩:=Wc e;exact h _ hm
 have h2:((Fu t).flatMap λx=>Fo (JG l) (.var x)).length=0:=by
  generalize Fu t=L;induction L with
  |nil=>rfl
  |cons a r ih=>rw[Ei,show Fo (JG l) (.var a)=[] from rfl,Cu];exact ih
 have h3:((Ig t).flatMap λn=>Fo (JG l) (.mt n)).length<=(Ig t).length*B:=by
  generalize Ig t=L;induction L with
  |nil=>simp
  |cons a r ih=>rw[Ei,Cb,Ca,Cy,Da];have:=h1 a;omega
 unfold p_;rw[Cb,h2];omega
theorem zhk(t:Ty):(Ig t).length<=t.size:=by
 rw[zh5];have h:=QX t [];rw[CR,Dm]at h;exact h
def Fj(t:Ty):Prop:=Nm t/\(t.size<=120\/(t.r_=false/\t.size<=20000000000))
theorem Fj.room {l:List (Nat × Ty)} {t:Ty}(h:∀e∈l,(Fu e.2).length<=1920)(hs:Fj t):0+(t.E7+1)*((p_ (JG l) t++Gq t).length+1)<10 ^ 15:=by
 have h1:=zfe l t 1920 h;have h2:=zhk t;rcases hs.2 with hs|⟨hp,hs⟩
 ·exact zou _ t (by omega) (by omega)
 ·exact zmu _ t hp (by omega) (by omega)
theorem Fj.Ry {l:List (Nat × Ty)} {t:Ty}(h:∀e∈l,(Fu e.2).length<=1920)(hs:Fj t):t.r_=true->t.size<=1000000/\(p_ (JG l) t).length<=90000000:=by
 intro hp;have h1:=zfe l t 1920 h;have h2:=zhk t;rcases hs.2 with hs|⟨hq,_⟩
 ·exact⟨by omega,by omega⟩
 ·rw[hp]at hq;cases hq
theorem Fj.le {t:Ty}(hs:Fj t):t.size<=20000000000:=by
 rcases hs.2 with hs|⟨_,hs⟩
 ·omega
 ·exact hs
theorem Qm {l:List (Nat × Ty)} {t:Ty}(h:Hr l)(hs:Fj t):db [] (FM l t)=ap (kf l) (db [] t):=zre l t (hs.room h.free)
theorem MV {l:List (Nat × Ty)} {t:Ty}(h:Hr l)(hs:Fj t):Nm (FM l t):=zrf l t (hs.room h.free) hs.1 h.nm
theorem Sw {l:List (Nat × Ty)} {t:Ty}(h:Hr l)(hs:t.size<=120):(FM l t).size<=2400000000000:=by
 have h1:=zp1 l t 20000000000 (by omega) h.size;have h2:t.size*20000000000<=120*20000000000:=Ek hs (BU _);omega
theorem zn5 {S:Nat->Prop} {l:List (Nat × Ty)} {A:Option Addr} {c:Nat} {t:Ty} {v:Value} {w:World}(h:Hr l)(hs:Fj t)(hk:Hz S w l A)(hS:∀g,S g->g<w.heap.size)(hv:I9 w t v)(ht:FO w):Calls prog 20 #[.slice A l.length c,v] w (L_ (FM l t) w):=by
 have h1:=h.len;have h2:=hs.le;exact znZ hk hS hv (λe he=>⟨h.num e he,h.nm e he,by have:=h.size e he;omega⟩) (by omega) hs.1 (by omega) (hs.Ry h.free) ht
theorem Vz {l:List (Nat × Ty)} {t u:Ty}(h:Hr l)(ht:Fj t)(hu:Fj u):db [] (FM l t)=db [] (FM l u)↔ap (kf l) (db [] t)=ap (kf l) (db [] u):=by
 rw[Qm h ht,Qm h hu]
theorem zqa {f:Nat} {ts:List (Ty × Ty)} {k:Sb} {l:List (Nat × Ty)}(h:Hr l)(hf:Fc f (Fy ts) .mt=some (.inr k))(hT:Told k l)(n:Nat)(t:Ty)(he:(n,t)∈l):Fj t/\db [] (FM l t)=db [] t/\(FM l t).size=t.size:=by
 obtain⟨hi,hp,-,-⟩:=NX f _ _ _ hf J0 Jk;have hs:Fj t:=⟨h.nm _ he,.inr ⟨h.r_ _ he,h.size _ he⟩⟩;obtain⟨-,e⟩:=(hT.mem n t).1 he;have e1:db [] t=k n:=by rw[e,RW _ (hp n)]
 have e2:db [] (FM l t)=db [] t:=by
  rw[Qm h hs,hT.kf hp,e1];exact hi n
 refine⟨hs,e2,?_⟩;rw[NP (FM l t) [],e2,<-NP t []]
theorem zn6 {f:Nat} {ts:List (Ty × Ty)} {k:Sb} {l:List (Nat × Ty)}(h:Hr l)(hf:Fc f (Fy ts) .mt=some (.inr k))(hT:Told k l)(iD:IM ts)(t u:Ty)(he:(t,u)∈ts):db [] (FM l t)=db [] (FM l u):=by
 obtain⟨hi,hp,-,hs⟩:=NX f _ _ _ hf J0 Jk;obtain⟨n1,n2,s1,s2⟩:=iD t u he;rw[Vz h ⟨n1,.inl s1⟩ ⟨n2,.inl s2⟩,hT.kf hp];exact hs (db [] t,db [] u) (Ct.2 ⟨(t,u),he,rfl⟩)
set_option maxRecDepth 100000
theorem Hg.Lv {S:Nat->Prop} {w:World} {ts:List (Ty × Ty)} {A:Option Addr}(h:Hg S w ts A)(hS:∀g,S g->g<w.heap.size) {i:Nat} {t u:Ty}(hi:ts[i]?=some (t,u)):∃g K X Z At m c K' X' Z' Au m' c',A=some ⟨g,0,none⟩/\g<w.heap.size/\I9 w t (.agg #[.int .i64 K,.string X,.int .i64 Z,.slice At m c])/\I9 w u (.agg #[.int .i64 K',.string X',.int .i64 Z',.slice Au m' c']) /\
   ∀W:World,Below w.heap.size w W->W.cell? ⟨g,i*8,none⟩=some (.int .i64 K)/\W.cell? ⟨g,i*8+1,none⟩=some (.string X)/\W.cell? ⟨g,i*8+2,none⟩=some (.int .i64 Z)/\W.cell? ⟨g,i*8+3,none⟩=some (.slice At m c) /\
    W.cell? ⟨g,i*8+4,none⟩=some (.int .i64 K')/\W.cell? ⟨g,i*8+4+1,none⟩=some (.string X')/\W.cell? ⟨g,i*8+4+2,none⟩=some (.int .i64 Z')/\W.cell? ⟨g,i*8+4+3,none⟩=some (.slice Au m' c'):=by
 obtain⟨g,At,ct,Au,cu,e,hg,⟨c0,c1,c2,c3⟩,ha,⟨d0,d1,d2,d3⟩,hu⟩:=h i t u hi;refine⟨g,(kd t:Nat),ER t,(nn t:Nat),At,(kids t).length,ct,(kd u:Nat),ER u,(nn u:Nat),Au,(kids u).length,cu,e,hg,⟨At,ct,rfl,ha.al hS (λ_ _=>rfl)⟩,⟨Au,cu,rfl,hu.al hS (λ_ _=>rfl)⟩,λW hW=>?_⟩;have hc:∀j v,w.cell? ⟨g,j,none⟩=some v->W.cell? ⟨g,j,none⟩=some v:=λj v h=>(hW.cell (p:=⟨g,j,none⟩) hg).trans h;exact⟨hc _ _ c0,hc _ _ c1,hc _ _ c2,hc _ _ c3,hc _ _ d0,hc _ _ d1,hc _ _ d2,hc _ _ d3⟩
theorem Hz.XK {S:Nat->Prop} {w:World} {l:List (Nat × Ty)} {A:Option Addr}(h:Hz S w l A)(hS:∀g,S g->g<w.heap.size) {i n:Nat} {t:Ty}(hi:l[i]?=some (n,t)):∃g K X Z At m c,A=some ⟨g,0,none⟩/\g<w.heap.size/\I9 w t (.agg #[.int .i64 K,.string X,.int .i64 Z,.slice At m c]) /\
   ∀W:World,Below w.heap.size w W->W.cell? ⟨g,i*5,none⟩=some (.int .i64 (n:Nat))/\W.cell? ⟨g,i*5+1,none⟩=some (.int .i64 K)/\W.cell? ⟨g,i*5+1+1,none⟩=some (.string X)/\W.cell? ⟨g,i*5+1+2,none⟩=some (.int .i64 Z)/\W.cell? ⟨g,i*5+1+3,none⟩=some (.slice At m c):=by
 obtain⟨g,At,ct,e,hg,ha,c0,c1,c2,c3,c4⟩:=h i n t hi;refine⟨g,(kd t:Nat),ER t,(nn t:Nat),At,(kids t).length,ct,e,hg,⟨At,ct,rfl,ha.al hS (λ_ _=>rfl)⟩,λW hW=>?_⟩;have hc:∀j v,w.cell? ⟨g,j,none⟩=some v->W.cell? ⟨g,j,none⟩=some v:=λj v h=>(hW.cell (p:=⟨g,j,none⟩) hg).trans h;exact⟨hc _ _ c0,hc _ _ c1,hc _ _ c2,hc _ _ c3,hc _ _ c4⟩
theorem Hz.apply {S:Nat->Prop} {w W:World} {l:List (Nat × Ty)} {A:Option Addr} {c:Nat} {t:Ty} {v:Value}(h:Hr l)(hs:Fj t)(hk:Hz S w l A)(hS:∀g,S g->g<w.heap.size)(hv:I9 w t v)(ht:FO w)(hW:Below w.heap.size w W):Calls prog 20 #[.slice A l.length c,v] W (L_ (FM l t) W) :=
 zn5 h hs (Hz.below hk hS hW) (λg hg=>Ci (hS g hg) hW.size) (hv.below hW) (ht.below hW)
theorem Ib.cases {ts:List (Ty × Ty)} {w:World} {e:Ending} {w':World}(h:Ib ts w e w')(hb:OP ts):Below w.heap.size w w'/\((∃m:Nat,(m=40\/m=41\/m=42\/m=43)/\(∃f,Fc f (Fy ts) .mt=some (.inl m))/\e=.returned (.tuple #[.slice none 0 0,.int .i64 (m:Nat)])) \/
   ∃f k l T A c,Fc f (Fy ts) .mt=some (.inr k)/\Told k l/\Hr l/\e=.returned (.tuple #[.slice A l.length c,.int .i64 0])/\Hz T w' l A/\∀g,T g->g<w'.heap.size):=by
 obtain⟨f,o,hf,a8,⟨m,rfl,hm,rfl⟩|⟨k,v,l,T,rfl,rfl,hK,hT,wS⟩⟩:=h
 ·exact⟨a8,.inl ⟨m,zkR f _ _ m hf,⟨f,hf⟩,rfl⟩⟩
 ·obtain⟨A,c,rfl⟩:=hK.shape
  exact⟨a8,.inr ⟨f,k,l,T,A,c,hf,hT,zp9 hb hf hT,rfl,hK.Wy,λg hg=>(wS g hg).2⟩⟩
end
end Go.Proofs.YtfafilmklhnngaaGreatDoor
