import Derived.Test.YtfafilmklhnngaaGreatDoorBiAI
set_option maxHeartbeats 12800000
namespace Go.Proofs.YtfafilmklhnngaaGreatDoor
open Lx Tx
set_option maxRecDepth 100000
theorem zeO(env:List Name):(l:List Ty)->dbL env l=l.map (db env)
 |[]=>by rw[dbL];rfl
 |t::r=>by rw[dbL,zeO env r];rfl
theorem zoW(env:List Name) {t:Ty}(h:kd t=3\/kd t=4):App (db env t)/\kdD (db env t)=kd t/\nmD (db env t)=nmB t/\zaf (db env t)=(kids t).map (db env):=by
 cases t <;> simp[kd]at h
 ·rw[db,zeO];exact⟨.inl rfl,rfl,rfl,rfl⟩
 ·rw[db];exact⟨.inr rfl,rfl,rfl,rfl⟩
theorem zh8 {G:Nat->Option Nd} {cs:List Nat} {xs:List Name} :(ps:List Nat)->(us:List Ty)->(nss:List (List Nat))->ps.length=us.length->nss.length=us.length ->
  (∀(i q:Nat)(u:Ty)(ns:List Nat),ps[i]?=some q->us[i]?=some u->nss[i]?=some ns->∃ns',Tr G cs q (db xs u) ns'/\ns'.Sublist ns) ->
  ∃nss':List (List Nat),nss'.length=us.length/\(∀(i q:Nat) (u:Dt) (ns:List Nat),ps[i]?=some q->(us.map (db xs))[i]?=some u->nss'[i]?=some ns->Tr G cs q u ns)/\nss'.flatten.Sublist nss.flatten
 |[],[],nss,_,h,_=>⟨[],rfl,λi q u ns h=>by simp at h,by simp⟩
 |[],_::_,_,h,_,_=>by simp at h
 |_::_,[],_,h,_,_=>by simp at h
 |_::_,_::_,[],_,h,_=>by simp at h
 |p::ps,u::us,ns::nss,h1,h2,hh=>by
  obtain⟨ns',a1,a2⟩:=hh 0 p u ns rfl rfl rfl;obtain⟨nss',b1,b2,b3⟩:=zh8 ps us nss (by simpa using h1) (by simpa using h2) (λi q u ns a b c=>hh (i+1) q u ns (by simpa using a) (by simpa using b) (by simpa using c));refine⟨ns'::nss',by simp[b1],λi q u ns a b c=>?_,?_⟩
  ·cases i with
   |zero=>simp at a b c;rw[<-a,<-b,<-c];exact a1
   |succ i=>exact b2 i q u ns (by simpa using a) (by simpa using b) (by simpa using c)
  ·rw[List.flatten_cons,List.flatten_cons]
   exact List.Sublist.append a2 b3
theorem LayT.tr {G:Nat->Option Nd} {U:Nat->Option Nat} {V:Name->Option Nat} {p:Nat} {t:Ty} {ns:List Nat}(h:LayT G U V p t ns):∀(xs:List Name)(cs:List Nat)(V0:Name->Option Nat),xs.length=cs.length->cs.Nodup ->
  (∀x,V x=match idx x xs with|some i=>cs[i]? | none=>V0 x)->(∀x p,V0 x=some p->G p=some ⟨1,⟨x.toArray⟩,0,[],none,false⟩)->(∀c∈cs,∃nm,G c=some ⟨1,nm,0,[],none,true⟩)->(∀n p,U n=some p->G p=some ⟨2,⟨#[]⟩,n,[],none,false⟩) ->
  ns.Nodup->(∀c∈cs,c∉ns)->∃ns',Tr G cs p (db xs t) ns'/\ns'.Sublist ns:=by
 induction h with
 |var V p x h =>
  intro xs cs V0 hl hn hV hv hc hu _ _;rw[hV x]at h
  rw[db]
  cases hi:idx x xs with
  |some i =>
   rw[hi]at h
   obtain⟨nm,hG⟩:=hc p (List.mem_of_getElem? h);exact⟨[],.bv _ _ nm i hG (zeN p cs hn i h),List.Sublist.refl _⟩
  |none =>
   rw[hi]at h
   exact⟨[],.fv _ _ x (hv x p h),List.Sublist.refl _⟩
 |mt V p n h =>
  intro xs cs V0 hl hn hV hv hc hu _ _;rw[db]
  exact⟨[],.mt _ _ n (hu n p h),List.Sublist.refl _⟩
 |app V p t ps nss h1 h2 h3 h4 h5 ih =>
  intro xs cs V0 hl hn hV hv hc hu hnd hcn;obtain⟨a1,a2,a3,a4⟩:=zoW xs h1;rw[List.nodup_cons]at hnd
  obtain⟨nss',b1,b2,b3⟩:=zh8 ps (kids t) nss h3 h4 (λi q u ns a b c=>by
   have hs:=List.sublist_flatten_of_mem (List.mem_of_getElem? c);exact ih i q u ns a b c xs cs V0 hl hn hV hv hc hu (List.Nodup.sublist hs hnd.2) (λz hz hm=>hcn z hz (List.mem_cons_of_mem _ (hs.subset hm))))
  refine⟨_,Tr.app cs p (db xs t) ps nss' a1 (by rw[a2,a3];exact h2) (by rw[a4,List.length_map];exact h3) (by rw[a4,List.length_map];exact b1) (λi q u ns a b c=>b2 i q u ns a (by rw[<-a4];exact b) c),?_⟩;by_cases hp:Plain (db xs t)
  ·rw[zd4 hp];exact List.Sublist.cons _ b3
  ·rw[zcz hp];exact List.Sublist.cons_cons _ b3
 |all V p x t q c ns h1 h2 h3 ih =>
  intro xs cs V0 hl hn hV hv hc hu hnd hcn;rw[List.nodup_cons,List.nodup_cons]at hnd
  obtain⟨ns',a1,a2⟩:=ih (x::xs) (c::cs) V0 (by simp[hl]) (List.nodup_cons.2 ⟨λh=>hcn c h (by simp),hn⟩) (λy=>by
   by_cases e:y=x
   ·rw[e,zak,idx,if_pos rfl];rfl
   ·rw[zac _ _ _ _ e,idx,if_neg e,hV y]
    cases idx y xs with
    |none=>rfl
    |some i=>simp) hv (λz hz=>by
    rcases List.mem_cons.1 hz with e|hz
    ·rw[e];exact⟨_,h2⟩
    ·exact hc z hz) hu hnd.2.2 (λz hz hm=>by
    rcases List.mem_cons.1 hz with e|hz
    ·rw[e]at hm;exact hnd.2.1 hm
    ·exact hcn z hz (by simp[hm]))
  rw[db]
  exact⟨p::c::ns',.all _ _ _ _ q c ns' h1 ⟨_,h2⟩ a1,List.Sublist.cons_cons _ (List.Sublist.cons_cons _ a2)⟩
def rst(G:Nat->Option Nd)(L:List Nat)(p:Nat):Option Nd:=if p∈L then G p else none
theorem zh9 {G:Nat->Option Nd} {L:List Nat} {p:Nat}(h:p∈L):rst G L p=G p:=if_pos h
theorem zbu {G:Nat->Option Nd} {L:List Nat} {p:Nat} {x:Nd}(h:rst G L p=some x):p∈L/\G p=some x:=by
 unfold rst at h;by_cases e:p∈L
 ·rw[if_pos e]at h;exact⟨e,h⟩
 ·rw[if_neg e]at h;cases h
theorem zfV(G:Nat->Option Nd):(a b:List Nat)->wg G [] (a++b)=wg G [] a+wg G [] b
 |[],b=>by rw[List.nil_append,wg,Nat.zero_add]
 |q::a,b=>by rw[List.cons_append,wg,wg,zfV G a b];omega
theorem zlH(G:Nat->Option Nd)(L:List Nat):(a:List Nat)->wg (rst G L) [] a<=wg G [] a
 |[]=>Nat.le_refl _
 |q::a=>by
  have:=zlH G L a;rw[wg,wg]
  unfold rst;by_cases e:q∈L
  ·rw[if_pos e]
   simp only[List.not_mem_nil,if_false];unfold rst at this;omega
  ·rw[if_neg e]
   simp only[List.not_mem_nil,if_false];unfold rst at this;omega
def Srt(G:Nat->Option Nd)(U:Nat->Option Nat)(V:Name->Option Nat)(q:Nat):Prop:=(∃n,U n=some q)\/(∃x,V x=some q)\/∃x,G q=some x/\x.kd≠2/\(x.kd=1->x.new=true)
structure Cls (G:Nat->Option Nd) (U:Nat->Option Nat) (V:Name->Option Nat) (L:List Nat):Prop where
 kin:∀q∈L,∃x,G q=some x/\∀c∈x.kids,c∈L
 srt:∀q∈L,Srt G U V q
theorem Cls.nil(G:Nat->Option Nd)(U:Nat->Option Nat)(V:Name->Option Nat):Cls G U V []:=⟨(λq h=>by cases h),(λq h=>by cases h)⟩
theorem Cls.app {G:Nat->Option Nd} {U:Nat->Option Nat} {V:Name->Option Nat} {a b:List Nat}(h:Cls G U V a)(k:Cls G U V b):Cls G U V (a++b) where
 kin q hq:=by
  rcases List.mem_append.1 hq with hq|hq
  ·obtain⟨x,h1,h2⟩:=h.kin q hq;exact⟨x,h1,λc hc=>List.mem_append_left _ (h2 c hc)⟩
  ·obtain⟨x,h1,h2⟩:=k.kin q hq;exact⟨x,h1,λc hc=>List.mem_append_right _ (h2 c hc)⟩
 srt q hq:=by
  rcases List.mem_append.1 hq with hq|hq
  ·exact h.srt q hq
  ·exact k.srt q hq
structure Agr (G G':Nat->Option Nd) (U U':Nat->Option Nat) (V V':Name->Option Nat) (L:List Nat):Prop where
 g:∀z∈L,G' z=G z
 u:∀n,∀z∈L,U n=some z->U' n=some z
 v:∀x,∀z∈L,V x=some z->V' x=some z
theorem Agr.sub {G G':Nat->Option Nd} {U U':Nat->Option Nat} {V V':Name->Option Nat} {L M:List Nat}(h:Agr G G' U U' V V' L)(hs:∀z∈M,z∈L):Agr G G' U U' V V' M :=
 ⟨λz hz=>h.g z (hs z hz),λn z hz=>h.u n z (hs z hz),λn z hz=>h.v n z (hs z hz)⟩
theorem Agr.upn {G G':Nat->Option Nd} {U U':Nat->Option Nat} {V V':Name->Option Nat} {L:List Nat}(h:Agr G G' U U' V V' L)(x:Name)(o:Option Nat):Agr G G' U U' (Go.Proofs.YtfafilmklhnngaaGreatDoor.upn V x o) (Go.Proofs.YtfafilmklhnngaaGreatDoor.upn V' x o) L :=
 ⟨h.g,h.u,λy z hz hy=>by
  by_cases e:y=x
  ·rw[e,zak]at hy ⊢;exact hy
  ·rw[zac _ _ _ _ e]at hy ⊢;exact h.v y z hz hy⟩
theorem zgY {G:Nat->Option Nd} {U:Nat->Option Nat} {V V0:Name->Option Nat} :(ps:List Nat)->(us:List Ty)->(nss:List (List Nat))->ps.length=us.length->nss.length=us.length ->
  (∀(i q:Nat)(u:Ty)(ns:List Nat),ps[i]?=some q->us[i]?=some u->nss[i]?=some ns->∃L,q∈L/\Cls G U V0 L/\wg G [] L+1<=3*u.size/\∀G' U' V',Agr G G' U U' V V' L->LayT G' U' V' q u ns) ->
  ∃L,(∀q∈ps,q∈L)/\Cls G U V0 L/\wg G [] L+us.length<=3*zah us/\∀G' U' V',Agr G G' U U' V V' L->∀(i q:Nat) (u:Ty) (ns:List Nat),ps[i]?=some q->us[i]?=some u->nss[i]?=some ns->LayT G' U' V' q u ns
 |[],[],nss,_,h,_=>⟨[],(λq h=>by cases h),Cls.nil _ _ _,by simp[wg],(λG' _ _ _ i q u ns h=>by simp at h)⟩
 |[],_::_,_,h,_,_=>by simp at h
 |_::_,[],_,h,_,_=>by simp at h
 |_::_,_::_,[],_,h,_=>by simp at h
 |p::ps,u::us,ns::nss,h1,h2,hh=>by
  obtain⟨L1,a1,a2,a3,a4⟩:=hh 0 p u ns rfl rfl rfl;obtain⟨L2,b1,b2,b3,b4⟩:=zgY (V:=V) (V0:=V0) ps us nss (by simpa using h1) (by simpa using h2) (λi q u ns a b c=>hh (i+1) q u ns (by simpa using a) (by simpa using b) (by simpa using c));refine⟨L1++L2,λq hq=>?_,a2.app b2,by rw[zfV,zah];simp;omega,λG' U' V' hG i q u ns a b c=>?_⟩
  ·rcases List.mem_cons.1 hq with e|hq
   ·rw[e];exact List.mem_append_left _ a1
   ·exact List.mem_append_right _ (b1 q hq)
  ·cases i with
   |zero =>
    simp at a b c;subst a b c;exact a4 G' U' V' (hG.sub λz hz=>List.mem_append_left _ hz)
   |succ i=>exact b4 G' U' V' (hG.sub λz hz=>List.mem_append_right _ hz) i q u ns (by simpa using a) (by simpa using b) (by simpa using c)
theorem zj6(t:Ty):t.size=zah (kids t)+1:=by
 cases t <;> simp[Ty.size,kids,zah] <;> omega
theorem LayT.list {G:Nat->Option Nd} {U:Nat->Option Nat} {V:Name->Option Nat} {p:Nat} {t:Ty} {ns:List Nat}(h:LayT G U V p t ns)(V0:Name->Option Nat)(hu:∀n p,U n=some p->G p=some ⟨2,⟨#[]⟩,n,[],none,false⟩)(h0:∀x p,V0 x=some p->G p=some ⟨1,⟨x.toArray⟩,0,[],none,false⟩):(∀x p,V x=some p->V0 x=some p\/∃nm,G p=some ⟨1,nm,0,[],none,true⟩)->∃L,p∈L/\Cls G U V0 L/\wg G [] L+1<=3*t.size/\∀G' U' V',Agr G G' U U' V V' L->LayT G' U' V' p t ns:=by
 induction h with
 |var V p x h =>
  intro hv;have hG:∃y,G p=some y/\y.kids=[]:=by
   rcases hv x p h with h1|⟨nm,h1⟩
   ·exact⟨_,h0 x p h1,rfl⟩
   ·exact⟨_,h1,rfl⟩
  obtain⟨y,hy,hyk⟩:=hG;refine⟨[p],by simp,⟨λq hq=>?_,λq hq=>?_⟩,?_,λG' U' V' hG=>.var V' p x (hG.v x p (by simp) h)⟩
  ·rw[List.mem_singleton.1 hq];exact⟨y,hy,λc hc=>by rw[hyk]at hc;cases hc⟩
  ·rw[List.mem_singleton.1 hq]
   rcases hv x p h with h1|⟨nm,h1⟩
   ·exact .inr (.inl ⟨x,h1⟩)
   ·exact .inr (.inr ⟨_,h1,by simp,λ_=>rfl⟩)
  ·rw[wg,wg,hy];simp[hyk,Ty.size]
 |mt V p n h =>
  intro hv;refine⟨[p],by simp,⟨λq hq=>?_,λq hq=>?_⟩,?_,λG' U' V' hG=>.mt V' p n (hG.u n p (by simp) h)⟩
  ·rw[List.mem_singleton.1 hq];exact⟨_,hu n p h,λc hc=>by cases hc⟩
  ·rw[List.mem_singleton.1 hq];exact .inl ⟨n,h⟩
  ·rw[wg,wg,hu n p h];simp[Ty.size]
 |app V p t ps nss h1 h2 h3 h4 h5 ih =>
  intro hv;obtain⟨L,b1,b2,b3,b4⟩:=zgY (V:=V) (V0:=V0) ps (kids t) nss h3 h4 (λi q u ns a b c=>ih i q u ns a b c hv);refine⟨p::L,by simp,⟨λq hq=>?_,λq hq=>?_⟩,?_,λG' U' V' hG=>.app V' p t ps nss h1 (by rw[hG.g p (by simp)];exact h2) h3 h4 (b4 G' U' V' (hG.sub λz hz=>by simp[hz]))⟩
  ·rcases List.mem_cons.1 hq with e|hq
   ·rw[e];exact⟨_,h2,λc hc=>List.mem_cons_of_mem _ (b1 c hc)⟩
   ·obtain⟨x,c1,c2⟩:=b2.kin q hq;exact⟨x,c1,λc hc=>List.mem_cons_of_mem _ (c2 c hc)⟩
  ·rcases List.mem_cons.1 hq with e|hq
   ·rw[e];exact .inr (.inr ⟨_,h2,by rcases h1 with h|h <;> simp[h],λh'=>by rcases h1 with h|h <;> simp[h]at h'⟩)
   ·exact b2.srt q hq
  ·rw[wg,h2,zj6 t]
   simp only[List.not_mem_nil,if_false];omega
 |all V p x t q c ns h1 h2 h3 ih =>
  intro hv;obtain⟨L,b1,b2,b3,b4⟩:=ih (λy r hy=>by
   by_cases e:y=x
   ·rw[e,zak]at hy;injection hy with hy;rw[<-hy];exact .inr ⟨_,h2⟩
   ·rw[zac _ _ _ _ e]at hy;exact hv y r hy)
  refine⟨p::c::L,by simp,⟨λz hz=>?_,λz hz=>?_⟩,?_,λG' U' V' hG=>.all V' p x t q c ns (by rw[hG.g p (by simp)];exact h1) (by rw[hG.g c (by simp)];exact h2) (b4 G' U' _ ((hG.sub λz hz=>by simp[hz]).upn x (some c)))⟩
  ·rcases List.mem_cons.1 hz with e|hz
   ·rw[e];exact⟨_,h1,λw hw=>by rw[List.mem_singleton.1 hw];simp[b1]⟩
   ·rcases List.mem_cons.1 hz with e|hz
    ·rw[e];exact⟨_,h2,λw hw=>by cases hw⟩
    ·obtain⟨y,c1,c2⟩:=b2.kin z hz;exact⟨y,c1,λw hw=>by simp[c2 w hw]⟩
  ·rcases List.mem_cons.1 hz with e|hz
   ·rw[e];exact .inr (.inr ⟨_,h1,by simp,λh'=>by simp at h'⟩)
   ·rcases List.mem_cons.1 hz with e|hz
    ·rw[e];exact .inr (.inr ⟨_,h2,by simp,λ_=>rfl⟩)
    ·exact b2.srt z hz
  ·rw[wg,wg,h1,h2,Ty.size]
   simp only[List.not_mem_nil,if_false,List.length_cons,List.length_nil];omega
def LayQ(G:Nat->Option Nd)(U:Nat->Option Nat)(V:Name->Option Nat):List (Ty × Ty)->List Eqn->List Nat->Prop
 |[],es,ns=>es=[]/\ns=[]
 |(t,u)::ts,es,ns=>∃l r nl nr es' ns',es=⟨l,r,false⟩::es'/\ns=nl++nr++ns'/\LayT G U V l t nl/\LayT G U V r u nr/\LayQ G U V ts es' ns'
theorem LayQ.snoc {G:Nat->Option Nd} {U:Nat->Option Nat} {V:Name->Option Nat} {t u:Ty} {l r:Nat} {nl nr:List Nat}(h1:LayT G U V l t nl)(h2:LayT G U V r u nr):(ts:List (Ty × Ty))->∀ {es:List Eqn} {ns:List Nat},LayQ G U V ts es ns->LayQ G U V (ts++[(t,u)]) (es++[⟨l,r,false⟩]) (ns++(nl++nr))
 |[],es,ns,h=>by
  rw[LayQ]at h
  obtain⟨rfl,rfl⟩:=h;show LayQ G U V [(t,u)] _ _;rw[LayQ]
  exact⟨l,r,nl,nr,[],[],rfl,by simp,h1,h2,by rw[LayQ];exact⟨rfl,rfl⟩⟩
 |(t',u')::ts,es,ns,h=>by
  rw[LayQ]at h
  obtain⟨l',r',nl',nr',es',ns',rfl,rfl,a,b,c⟩:=h;rw[List.cons_append,LayQ]
  exact⟨l',r',nl',nr',es'++[⟨l,r,false⟩],ns'++(nl++nr),rfl,by simp,a,b,LayQ.snoc h1 h2 ts c⟩
theorem LayQ.more {G G':Nat->Option Nd} {U U':Nat->Option Nat} {V V':Name->Option Nat}(hG:∀q x,G q=some x->G' q=some x)(hU:∀n q,U n=some q->U' n=some q)(hV:∀x q,V x=some q->V' x=some q):(ts:List (Ty × Ty))->∀ {es:List Eqn} {ns:List Nat},LayQ G U V ts es ns->LayQ G' U' V' ts es ns
 |[],_,_,h=>by rw[LayQ]at h ⊢;exact h
 |(t,u)::ts,es,ns,h=>by
  rw[LayQ]at h ⊢
  obtain⟨l,r,nl,nr,es',ns',e1,e2,a,b,c⟩:=h;exact⟨l,r,nl,nr,es',ns',e1,e2,a.more hG hU hV,b.more hG hU hV,LayQ.more hG hU hV ts c⟩
def szQ:List (Ty × Ty)->Nat
 |[]=>0
 |(t,u)::r=>t.size+u.size+szQ r
def dbQ(l:List (Ty × Ty)):List (Dt × Dt):=l.map λp=>(db [] p.1,db [] p.2)
theorem LayQ.list {G:Nat->Option Nd} {U:Nat->Option Nat} {V:Name->Option Nat}(hu:∀n p,U n=some p->G p=some ⟨2,⟨#[]⟩,n,[],none,false⟩)(h0:∀x p,V x=some p->G p=some ⟨1,⟨x.toArray⟩,0,[],none,false⟩):(ts:List (Ty × Ty))->∀ {es:List Eqn} {ns:List Nat},LayQ G U V ts es ns ->
  ∃L,Cls G U V L/\wg G [] L<=3*szQ ts/\(∀q∈es,q.l∈L/\q.r∈L)/\∀G' U' V',Agr G G' U U' V V' L->LayQ G' U' V' ts es ns
 |[],es,ns,h=>by
  rw[LayQ]at h
  exact⟨[],Cls.nil _ _ _,by simp[wg],(λq hq=>by rw[h.1]at hq;cases hq),λG' _ _ _=>by rw[LayQ];exact h⟩
 |(t,u)::ts,es,ns,h=>by
  rw[LayQ]at h
  obtain⟨l,r,nl,nr,es',ns',rfl,rfl,a,b,c⟩:=h;obtain⟨L1,a1,a2,a3,a4⟩:=a.list V hu h0 (λx p h=>.inl h);obtain⟨L2,b1,b2,b3,b4⟩:=b.list V hu h0 (λx p h=>.inl h);obtain⟨L3,c1,c2,c3,c4⟩:=LayQ.list hu h0 ts c;refine⟨L1++L2++L3,(a2.app b2).app c1,by rw[zfV,zfV,szQ];omega,λq hq=>?_,λG' U' V' hG=>?_⟩
  ·rcases List.mem_cons.1 hq with e|hq
   ·rw[e];exact⟨by simp[a1],by simp[b1]⟩
   ·have:=c3 q hq;exact⟨by simp[this.1],by simp[this.2]⟩
  ·rw[LayQ]
   exact⟨l,r,nl,nr,es',ns',rfl,rfl,a4 G' U' V' (hG.sub λz hz=>by simp[hz]),b4 G' U' V' (hG.sub λz hz=>by simp[hz]),c4 G' U' V' (hG.sub λz hz=>by simp[hz])⟩
theorem EnvOK.nil(hd:Nat->Nat)(O:List Nat):EnvOK hd O [] []:=⟨rfl,List.nodup_nil,(λc h=>by cases h),(λc h=>by cases h),λi a b h=>by simp at h⟩
theorem LayQ.ent {G:Nat->Option Nd} {U:Nat->Option Nat} {V:Name->Option Nat}(hu:∀n p,U n=some p->G p=some ⟨2,⟨#[]⟩,n,[],none,false⟩)(h0:∀x p,V x=some p->G p=some ⟨1,⟨x.toArray⟩,0,[],none,false⟩) {hd:Nat->Nat} {O:List Nat} :(ts:List (Ty × Ty))->∀ {A:Sb->Prop} {es:List Eqn} {ns:List Nat},LayQ G U V ts es ns->ns.Nodup ->
  ∃ns',EntOK G hd O A es (dbQ ts) ns'/\ns'.Sublist ns/\∀x∈ns',NonP G x
 |[],A,es,ns,h,_=>by
  rw[LayQ]at h
  exact⟨[],by rw[h.1,EntOK];exact⟨rfl,rfl⟩,by rw[h.2];exact List.Sublist.refl _,λx hx=>by cases hx⟩
 |(t,u)::ts,A,es,ns,h,hn=>by
  rw[LayQ]at h
  obtain⟨l,r,nl,nr,es',ns',rfl,rfl,a,b,c⟩:=h;have n1:=List.nodup_append.1 hn;have n2:=List.nodup_append.1 n1.1;obtain⟨ml,t1,s1⟩:=a.tr [] [] V rfl List.nodup_nil (λx=>rfl) h0 (λc h=>by cases h) hu n2.1 (λc h=>by cases h);obtain⟨mr,t2,s2⟩:=b.tr [] [] V rfl List.nodup_nil (λx=>rfl) h0 (λc h=>by cases h) hu n2.2.1 (λc h=>by cases h);obtain⟨ms,t3,s3,p3⟩:=LayQ.ent hu h0 (hd:=hd) (O:=O) ts (A:=λs=>A s/\ap s (db [] t)=ap s (db [] u)) c n1.2.1;refine⟨ml++mr++ms,?_,(s1.append s2).append s3,λx hx=>?_⟩
  ·rw[EntOK]
   exact⟨[],[],db [] t,db [] u,ml,mr,EnvOK.nil _ _,t1,t2,.inl ⟨rfl,dbQ ts,ms,rfl,rfl,t3⟩⟩
  ·simp only[List.mem_append]at hx
   rcases hx with(hx|hx)|hx
   ·exact t1.mem_nonP x hx
   ·exact t2.mem_nonP x hx
   ·exact p3 x hx
theorem LayT.occ {G:Nat->Option Nd} {U:Nat->Option Nat} {V:Name->Option Nat} {p:Nat} {t:Ty} {ns:List Nat}(h:LayT G U V p t ns)(n:Nat):∀xs,MtOcc n (db xs t)->∃z,U n=some z:=by
 induction h with
 |var V p x h =>
  intro xs ho;rw[db]at ho
  cases hi:idx x xs with
  |some i=>rw[hi]at ho;simp only at ho;rw[MtOcc]at ho;exact ho.elim
  |none=>rw[hi]at ho;simp only at ho;rw[MtOcc]at ho;exact ho.elim
 |mt V p m h =>
  intro xs ho;rw[db,MtOcc]at ho
  rw[ho]
  exact⟨p,h⟩
 |app V p t ps nss h1 h2 h3 h4 h5 ih =>
  intro xs ho;have key:∃u∈kids t,MtOcc n (db xs u):=by
   cases t <;> simp[kd]at h1
   ·rw[db,MtOcc,zeO,zaC]at ho
    obtain⟨d,hd,ho⟩:=ho;obtain⟨u,hu,rfl⟩:=List.mem_map.1 hd;exact⟨u,hu,ho⟩
   ·rw[db,MtOcc]at ho
    rcases ho with ho|ho
    ·exact⟨_,by simp[kids],ho⟩
    ·exact⟨_,by simp[kids],ho⟩
  obtain⟨u,hu,ho⟩:=key;obtain⟨i,hi,rfl⟩:=List.mem_iff_getElem.1 hu;exact ih i _ _ _ (List.getElem?_eq_getElem (show i<ps.length by omega)) (List.getElem?_eq_getElem hi) (List.getElem?_eq_getElem (show i<nss.length by omega)) xs ho
 |all V p x t q c ns h1 h2 h3 ih =>
  intro xs ho;rw[db,MtOcc]at ho
  exact ih _ ho
theorem LayQ.occ {G:Nat->Option Nd} {U:Nat->Option Nat} {V:Name->Option Nat}(n:Nat):(ts:List (Ty × Ty))->∀ {es:List Eqn} {ns:List Nat},LayQ G U V ts es ns->(∃p∈dbQ ts,MtOcc n p.1\/MtOcc n p.2)->∃z,U n=some z
 |[],_,_,_,h=>by obtain⟨p,hp,_⟩:=h;cases hp
 |(t,u)::ts,es,ns,h,ho=>by
  rw[LayQ]at h
  obtain⟨l,r,nl,nr,es',ns',e1,e2,a,b,c⟩:=h;obtain⟨p,hp,ho⟩:=ho;rcases List.mem_cons.1 hp with e|hp
  ·subst e
   rcases ho with ho|ho
   ·exact a.occ n [] ho
   ·exact b.occ n [] ho
  ·exact LayQ.occ n ts c ⟨p,hp,ho⟩
theorem LayQ.sim {G:Nat->Option Nd} {U:Nat->Option Nat} {V:Name->Option Nat}(hu:∀n p,U n=some p->G p=some ⟨2,⟨#[]⟩,n,[],none,false⟩)(h0:∀x p,V x=some p->G p=some ⟨1,⟨x.toArray⟩,0,[],none,false⟩) {ts:List (Ty × Ty)} {es:List Eqn} {ns:List Nat}(h:LayQ G U V ts es ns)(hn:ns.Nodup):∃L f o,wg (rst G L) [] L<=3*szQ ts/\GrS (rst G L)/\(∀q∈es,q.d=false/\q.l∈L/\q.r∈L)/\(∀q∈L,∃x,G q=some x)/\(∀n,(∃p∈dbQ ts,MtOcc n p.1\/MtOcc n p.2)->∃z∈L,U n=some z)/\unF f (dbQ ts) .mt=some o/\Sim (rst G L) L (λp=>p) .mt es f o:=by
 obtain⟨L,c1,c2,c3,c4⟩:=h.list hu h0;have hin:∀z∈L,rst G L z=G z:=λz hz=>zh9 hz;have hsub:∀(ts:List (Ty × Ty)) {es:List Eqn} {ns:List Nat},LayQ G U V ts es ns->∀q∈es,q.d=false:=by
  intro ts;induction ts with
  |nil=>intro es ns h q hq;rw[LayQ]at h;rw[h.1]at hq;cases hq
  |cons p ts ih =>
   intro es ns h q hq;obtain⟨t,u⟩:=p;rw[LayQ]at h
   obtain⟨l,r,nl,nr,es',ns',rfl,rfl,a,b,c⟩:=h;rcases List.mem_cons.1 hq with e|hq
   ·rw[e]
   ·exact ih c q hq
 have gs:GrS (rst G L):=by
  refine⟨λp q n hp hq=>?_,λp q x hp hq=>?_⟩
  ·have key:∀p,rst G L p=some ⟨2,⟨#[]⟩,n,[],none,false⟩->U n=some p:=λp hp=>by
    obtain⟨h1,h2⟩:=zbu hp;rcases c1.srt p h1 with⟨m,h⟩|⟨y,h⟩|⟨y,h,h',_⟩
    ·rw[hu m p h]at h2;simp at h2;rw[<-h2];exact h
    ·rw[h0 y p h]at h2;simp at h2
    ·rw[h]at h2;injection h2 with h2;rw[h2]at h';simp at h'
   have h1:=key p hp;have h2:=key q hq;rw[h1]at h2
   injection h2
  ·have key:∀p,rst G L p=some ⟨1,x,0,[],none,false⟩->V x.data.toList=some p:=λp hp=>by
    obtain⟨h1,h2⟩:=zbu hp;rcases c1.srt p h1 with⟨m,h⟩|⟨y,h⟩|⟨y,h,_,h'⟩
    ·rw[hu m p h]at h2;simp at h2
    ·rw[h0 y p h]at h2;simp at h2;rw[<-h2];simpa using h
    ·rw[h]at h2;injection h2 with h2;rw[h2]at h';simp at h'
   have h1:=key p hp;have h2:=key q hq;rw[h1]at h2
   injection h2
 have hagr:Agr G (rst G L) U (λn=>(U n).filter (λp=>decide (p∈L))) V (λn=>(V n).filter (λp=>decide (p∈L))) L :=
  ⟨hin,λn z hz h=>by simp[h,hz],λn z hz h=>by simp[h,hz]⟩
 have hR:=c4 _ _ _ hagr;have hflt:∀ {o:Option Nat} {p:Nat},o.filter (λp=>decide (p∈L))=some p->o=some p/\p∈L:=fun {o p} h=>by
  cases o with
  |none=>simp at h
  |some q =>
   simp at h;exact⟨by rw[h.1],h.2⟩
 obtain⟨ns',e1,e2,e3⟩:=hR.ent (λn p h=>by obtain⟨h1,h2⟩:=hflt h;rw[hin p h2];exact hu n p h1) (λn p h=>by obtain⟨h1,h2⟩:=hflt h;rw[hin p h2];exact h0 n p h1) (hd:=λp=>p) (O:=[]) ts (A:=λs=>Absorbs s .mt) hn;have hocc:∃M:List Nat,∀p∈dbQ ts,∀n,MtOcc n (ap .mt p.1)\/MtOcc n (ap .mt p.2)->n∈M:=by
  generalize dbQ ts=E;induction E with
  |nil=>exact⟨[],λp hp=>by cases hp⟩
  |cons p E ih =>
   obtain⟨M,hM⟩:=ih;refine⟨zaD p.1 []++zaD p.2 []++M,λq hq n hn=>?_⟩;rcases List.mem_cons.1 hq with e|hq
   ·rw[e,zby,zby]at hn
    simp only[List.mem_append,zaU,List.not_mem_nil,false_or];exact .inl hn
   ·exact List.mem_append_right _ (hM q hq n hn)
 obtain⟨M,hM⟩:=hocc;obtain⟨f,o,hf⟩:=zlD M _ _ (dbQ ts) .mt zb1 hM (Nat.le_refl _) (Nat.le_refl _);refine⟨L,f,o,Nat.le_trans (zlH G L L) c2,gs,λq hq=>⟨hsub ts h q hq,c3 q hq⟩,λq hq=>by obtain⟨x,hx,_⟩:=c1.kin q hq;exact⟨x,hx⟩,λn hn'=>by obtain⟨z,hz⟩:=hR.occ n ts hn';obtain⟨h1,h2⟩:=hflt hz;exact⟨z,h2,h1⟩,hf,dbQ ts,dbQ ts,ns',[],?_,e1,hf,rfl⟩;exact⟨⟨λq x hx c hc=>by
   obtain⟨h1,h2⟩:=zbu hx;obtain⟨y,hy,hk⟩:=c1.kin q h1;rw[h2]at hy;injection hy with hy;subst hy
   obtain⟨z,hz,_⟩:=c1.kin c (hk c hc);exact⟨z,by rw[hin c (hk c hc)];exact hz⟩,λq x hx=>⟨x,hx⟩,λ_=>rfl,λq x hx=>(zbu hx).1⟩,
  λp d h hp=>⟨d,h,hp,rfl⟩,λp n _ _=>rfl,List.Nodup.sublist e2 hn,λ_ _=>rfl,e3,(λc hc=>by cases hc),zb1,zaM⟩
end Go.Proofs.YtfafilmklhnngaaGreatDoor
namespace Go.Proofs.YtfafilmklhnngaaGreatDoor
open Lx Tx
set_option maxRecDepth 100000
mutual
def toTy:Dt->Ty
 |.fv x=>.var x
 |.bv _=>.var []
 |.mt n=>.mt n
 |.con c l=>.con c (zfW l)
 |.fn a b=>.fn (toTy a) (toTy b)
 |.all _=>.var []
def zfW:List Dt->List Ty
 |[]=>[]
 |t::r=>toTy t::zfW r
end
theorem zcA:(l:List Dt)->zfW l=l.map toTy
 |[]=>by rw[zfW];rfl
 |t::r=>by rw[zfW,zcA r];rfl
theorem zow(d:Dt):Plain d->db [] (toTy d)=d:=by
 induction d using Dt.ind with
 |hf x=>intro _;rw[toTy,db];rfl
 |hb i=>intro h;exact absurd h (zaH i)
 |hm n=>intro _;rw[toTy,db]
 |hc c l ih =>
  intro h;rw[zb0]at h
  rw[toTy,db,zeO,zcA,List.map_map]
  congr 1
  conv=>rhs;rw[<-List.map_id l]
  exact List.map_congr_left λd hd=>ih d hd (h d hd)
 |hn a b iha ihb =>
  intro h;rw[plain_fn]at h
  rw[toTy,db,iha h.1,ihb h.2]
 |ha t _=>intro h;exact absurd h (zaE t)
theorem zey {d:Dt}(h:Plain d):kids (toTy d)=(zaf d).map toTy/\kd (toTy d)=kdD d/\(App d->nmB (toTy d)=nmD d):=by
 cases d with
 |fv x=>rw[toTy];exact⟨rfl,rfl,λh=>by simp[App,kdD]at h⟩
 |bv i=>exact absurd h (zaH i)
 |mt n=>rw[toTy];exact⟨rfl,rfl,λh=>by simp[App,kdD]at h⟩
 |con c l=>rw[toTy,zcA];exact⟨rfl,rfl,λ_=>rfl⟩
 |fn a b=>rw[toTy];exact⟨rfl,rfl,λ_=>rfl⟩
 |all t=>exact absurd h (zaE t)
def FV(G:Nat->Option Nd)(q:Nat):Prop:=∃d,Tr G [] q d []/\Plain d
noncomputable def tv (G:Nat->Option Nd)(k:Sb)(q:Nat):Dt:=by classical exact if h:FV G q then ap k (Classical.choose h) else .bv 0
theorem zcl {G:Nat->Option Nd}(k:Sb) {q:Nat} {d:Dt} {env ns:List Nat}(h:Tr G env q d ns)(hp:Plain d):tv G k q=ap k d:=by
 have hF:FV G q:=⟨d,(h.plain hp).2 [],hp⟩;unfold tv;rw[dif_pos hF]
 obtain⟨h1,h2⟩:=Classical.choose_spec hF;rw[h.det hp h1]
section
variable {G:Nat->Option Nd} {L:List Nat} {hd:Nat->Nat} {k:Sb} {Ns O:List Nat}
theorem HdS.fv_head(S:HdS G L hd k Ns O) {q:Nat}(h:FV G q):FV G (hd q)/\tv G k (hd q)=tv G k q:=by
 obtain⟨d,h1,h2⟩:=h;obtain⟨d',h3,h4,h5⟩:=S.pl q d h1 h2;exact⟨⟨d',h3,h4⟩,by rw[zcl k h3 h4,zcl k h1 h2,h5]⟩
theorem HdS.tv_plain(S:HdS G L hd k Ns O) {q:Nat}(h:FV G q):Plain (tv G k q):=by
 obtain⟨d,h1,h2⟩:=h;rw[zcl k h1 h2,zcg]
 exact⟨h2,λm _=>S.kp m⟩
theorem HdS.tv_node(S:HdS G L hd k Ns O) {q:Nat}(h:FV G q)(hq:hd q=q) {x:Nd}(hx:G q=some x):x.kd=kd (toTy (tv G k q))/\x.nm=nmB (toTy (tv G k q))/\x.n=nn (toTy (tv G k q))/\kids (toTy (tv G k q))=x.kids.map (λc=>toTy (tv G k (hd c)))/\zaf (tv G k q)=x.kids.map (λc=>tv G k (hd c))/\(∀c∈x.kids,FV G (hd c)):=by
 have hpl:=S.tv_plain h;obtain⟨d,h1,h2⟩:=h;have ht:=zcl k h1 h2;rw[(zey hpl).1]
 generalize hns:([]:List Nat)=ns at h1;cases h1 with
 |fv _ _ y hy =>
  rw[hy]at hx;injection hx with hx;subst hx
  rw[ht,zbm,toTy]
  exact⟨rfl,rfl,rfl,rfl,rfl,(λc hc=>by cases hc)⟩
 |bv _ _ _ i _ _=>exact absurd h2 (zaH i)
 |mt _ _ n hy =>
  rw[hy]at hx;injection hx with hx;subst hx
  rw[ht,zaw,S.un q n hy hq,toTy]
  exact⟨rfl,rfl,rfl,rfl,rfl,(λc hc=>by cases hc)⟩
 |all=>exact absurd h2 (zaE _)
 |app _ _ _ ps nss ha hy l1 l2 h3 =>
  rw[hy]at hx;injection hx with hx;subst hx
  obtain⟨a1,a2,a3,a4⟩:=ha.ap k;have hk:=(zcI ha).1 h2;have key:∀i (i1:i<ps.length) (i2:i<(zaf d).length),FV G (hd ps[i])/\tv G k (hd ps[i])=ap k (zaf d)[i]:=λi i1 i2=>by
   have ht:=h3 i _ _ _ (List.getElem?_eq_getElem i1) (List.getElem?_eq_getElem i2) (List.getElem?_eq_getElem (show i<nss.length by omega));have hp:=hk _ (List.getElem_mem i2);obtain⟨c1,c2⟩:=S.fv_head ⟨_,(ht.plain hp).2 [],hp⟩;exact⟨c1,c2.trans (zcl k ht hp)⟩
  have hkk:zaf (tv G k q)=ps.map (λc=>tv G k (hd c)):=by
   rw[ht,a4]
   refine List.ext_getElem (by simp[l1]) λi i1 i2=>?_;simp only[List.length_map]at i1 i2;rw[List.getElem_map,List.getElem_map,(key i i2 i1).2]
  refine⟨?_,?_,?_,?_,hkk,λc hc=>?_⟩
  ·rw[(zey hpl).2.1,ht,a2]
  ·rw[(zey hpl).2.2 (by rw[ht];exact a1),ht,a3]
  ·rw[ht]
   have:=a1;generalize ap k d=e at this;cases e <;> simp[App,kdD]at this <;> rw[toTy] <;> rfl
  ·rw[hkk,List.map_map];rfl
  ·obtain⟨i,hi,rfl⟩:=List.mem_iff_getElem.1 (show c∈ps from hc)
   exact(key i hi (by omega)).1
theorem zia {d u:Dt}(h:u∈zaf d):sz u<sz d:=by
 cases d with
 |con c l=>have:=zgd l u h;rw[sz];omega
 |fn a b =>
  simp[zaf]at h
  rw[sz]
  rcases h with rfl|rfl
  ·have:=zbL b;omega
  ·have:=zbL a;omega
 |all t=>simp[zaf]at h;subst h;rw[sz];omega
 |_=>cases h
theorem znp(d:Dt):szL (zaf d)+1<=sz d:=by
 cases d <;> simp only[zaf,szL] <;> rw[sz] <;> omega
def FilOK(G:Nat->Option Nd)(hd:Nat->Nat)(k:Sb)(fl:Nat->Bool):List Nat->List (Nat × Bool)->Prop
 |_,[]=>True
 |ab,(q,e)::r=>FV G q/\hd q=q/\(e=true->(∀x,G q=some x->∀c∈x.kids,fl (hd c)=true\/hd c∈ab)/\∀a∈ab,sz (tv G k a)<sz (tv G k q))/\FilOK G hd k fl (q::ab) r
def FilN(G:Nat->Option Nd):Nat->List (Nat × Bool)->Prop
 |c,[]=>c<=1
 |c,(_,false)::r=>FilN G (c+1) r
 |c,(q,true)::r=>(∃x,G q=some x/\c<=x.kids.length)/\FilN G 0 r
noncomputable def filW (G:Nat->Option Nd)(k:Sb):List (Nat × Bool)->Nat
 |[]=>0
 |(q,e)::r=>(if e then 1 else 2*sz (tv G k q))+filW G k r
theorem FilOK.mono {fl fl':Nat->Bool}(hf:∀q,fl q=true->fl' q=true):(l:List (Nat × Bool))->∀ {ab ab':List Nat},FilOK G hd k fl ab l->(∀a∈ab,a∈ab'\/fl' a=true)->(∀a∈ab',∃b∈ab,sz (tv G k a)<=sz (tv G k b))->FilOK G hd k fl' ab' l
 |[],_,_,_,_,_=>by rw[FilOK];trivial
 |(q,e)::r,ab,ab',h,h1,h2=>by
  rw[FilOK]at h ⊢
  obtain⟨a1,a2,a3,a4⟩:=h;refine⟨a1,a2,λhe=>⟨λx hx c hc=>?_,λa ha=>?_⟩,FilOK.mono hf r a4 (λa ha=>?_) (λa ha=>?_)⟩
  ·rcases(a3 he).1 x hx c hc with h|h
   ·exact .inl (hf _ h)
   ·rcases h1 _ h with h|h
    ·exact .inr h
    ·exact .inl h
  ·obtain⟨b,hb,hle⟩:=h2 a ha
   have:=(a3 he).2 b hb;omega
  ·rcases List.mem_cons.1 ha with e|ha
   ·exact .inl (by rw[e];simp)
   ·rcases h1 a ha with h|h
    ·exact .inl (List.mem_cons_of_mem _ h)
    ·exact .inr h
  ·rcases List.mem_cons.1 ha with e|ha
   ·exact⟨q,by simp,by rw[e];exact Nat.le_refl _⟩
   ·obtain⟨b,hb,hle⟩:=h2 a ha
    exact⟨b,List.mem_cons_of_mem _ hb,hle⟩
theorem FilOK.pop {fl fl':Nat->Bool} {q:Nat} {e:Bool} {r:List (Nat × Bool)}(h:FilOK G hd k fl [] ((q,e)::r))(hf:∀q,fl q=true->fl' q=true)(hq:fl' q=true):FilOK G hd k fl' [] r:=by
 rw[FilOK]at h
 exact h.2.2.2.mono hf r (λa ha=>by rw[List.mem_singleton.1 ha];exact .inr hq) (λa ha=>by cases ha)
theorem FilN.le:(l:List (Nat × Bool))->∀ {c d:Nat},FilN G c l->d<=c->FilN G d l
 |[],c,d,h,hd=>by rw[FilN]at h ⊢;omega
 |(q,false)::r,c,d,h,hd=>by rw[FilN]at h ⊢;exact FilN.le r h (by omega)
 |(q,true)::r,c,d,h,hd=>by
  rw[FilN]at h ⊢
  obtain⟨⟨x,h1,h2⟩,h3⟩:=h;exact⟨⟨x,h1,by omega⟩,h3⟩
theorem FilN.tail {p:Nat × Bool} {r:List (Nat × Bool)}(h:FilN G 0 (p::r)):FilN G 0 r:=by
 obtain⟨q,e⟩:=p;cases e with
 |false=>rw[FilN]at h;exact h.le r (by omega)
 |true=>rw[FilN]at h;exact h.2
theorem FilN.put:(l:List Nat)->∀ {c:Nat} {r:List (Nat × Bool)},FilN G (c+l.length) r->FilN G c (l.map (·,false)++r)
 |[],c,r,h=>h
 |a::l,c,r,h=>by
  rw[List.map_cons,List.cons_append,FilN]
  exact FilN.put l (by rw[List.length_cons]at h;rw[show c+1+l.length=c+(l.length+1) by omega];exact h)
def metF(l:List (Nat × Bool)):List Nat:=(l.filter (·.2)).map (·.1)
theorem zez(q:Nat)(e:Bool)(r:List (Nat × Bool)):metF ((q,e)::r)=if e then q::metF r else metF r:=by
 unfold metF;cases e <;> simp
theorem FilOK.met {fl:Nat->Bool} :(l:List (Nat × Bool))->∀ {ab:List Nat},FilOK G hd k fl ab l->(metF l).Nodup/\∀q∈metF l,FV G q/\∀a∈ab,sz (tv G k a)<sz (tv G k q)
 |[],_,_=>⟨List.nodup_nil,λq hq=>by cases hq⟩
 |(q,e)::r,ab,h=>by
  rw[FilOK]at h
  obtain⟨a1,a2,a3,a4⟩:=h;obtain⟨b1,b2⟩:=FilOK.met r a4;rw[zez]
  cases e with
  |false=>exact⟨b1,λz hz=>⟨(b2 z hz).1,λa ha=>(b2 z hz).2 a (List.mem_cons_of_mem _ ha)⟩⟩
  |true =>
   refine⟨List.nodup_cons.2 ⟨λhm=>?_,b1⟩,λz hz=>?_⟩
   ·have:=(b2 q hm).2 q (by simp)
    omega
   ·rcases List.mem_cons.1 hz with e|hz
    ·rw[e];exact⟨a1,(a3 rfl).2⟩
    ·exact⟨(b2 z hz).1,λa ha=>(b2 z hz).2 a (List.mem_cons_of_mem _ ha)⟩
def ndW(G:Nat->Option Nd)(q:Nat):Nat:=match G q with|some x=>x.kids.length+1|none=>0
theorem zfX {G:Nat->Option Nd} {L:List Nat} :(M:List Nat)->∀(Vs:List Nat),M.Nodup->(∀q∈M,q∈L/\∃x,G q=some x)->(∀q∈M,q∉Vs)->(M.map (ndW G)).sum+wg G (M++Vs) L<=wg G Vs L
 |[],Vs,_,_,_=>by simp
 |q::M,Vs,hn,hm,hv=>by
  rw[List.nodup_cons]at hn
  have h1:=zfX M Vs hn.2 (λz hz=>hm z (List.mem_cons_of_mem _ hz)) (λz hz=>hv z (List.mem_cons_of_mem _ hz));obtain⟨hL,x,hx⟩:=hm q (by simp);have h2:=zd0 G q (M++Vs) x hx (λh=>by
   rcases List.mem_append.1 h with h|h
   ·exact hn.1 h
   ·exact hv q (by simp) h) L hL
  rw[List.map_cons,List.sum_cons,List.cons_append]
  have:ndW G q=x.kids.length+1:=by unfold ndW;rw[hx]
  omega
theorem FilN.len:(l:List (Nat × Bool))->∀ {c:Nat},FilN G c l->c+l.length<=1+((metF l).map (ndW G)).sum
 |[],c,h=>by rw[FilN]at h;simp[metF];omega
 |(q,false)::r,c,h=>by
  rw[FilN]at h
  have:=FilN.len r h;rw[zez]
  simp only[Bool.false_eq_true,if_false,List.length_cons];omega
 |(q,true)::r,c,h=>by
  rw[FilN]at h
  obtain⟨⟨x,hx,hc⟩,h2⟩:=h;have:=FilN.len r h2;rw[zez]
  simp only[if_true,List.length_cons,List.map_cons,List.sum_cons];have:ndW G q=x.kids.length+1:=by unfold ndW;rw[hx]
  omega
theorem FilOK.len {fl:Nat->Bool} {l:List (Nat × Bool)}(h:FilOK G hd k fl [] l)(hn:FilN G 0 l)(hL:∀q x,G q=some x->q∈L):l.length<=1+wg G [] L:=by
 have h1:=hn.len;obtain⟨h2,h3⟩:=h.met;have h4:=zfX (L:=L) (metF l) [] h2 (λq hq=>by
  obtain⟨⟨d,hd,_⟩,_⟩:=h3 q hq;obtain⟨x,hx,_⟩:=hd.node;exact⟨hL q x hx,x,hx⟩) (λq _ h=>by cases h)
 omega
theorem zib:(l r:List (Nat × Bool))->filW G k (l++r)=filW G k l+filW G k r
 |[],r=>by rw[List.nil_append,filW,Nat.zero_add]
 |(q,e)::l,r=>by rw[List.cons_append,filW,filW,zib l r];omega
theorem zic:(l:List Nat)->filW G k (l.map (·,false))=2*szL (l.map (tv G k))
 |[]=>by simp[filW,szL]
 |a::l=>by rw[List.map_cons,filW,zic l,List.map_cons,szL];simp;omega
theorem zfY(p:Nat->Bool):(l:List Nat)->szL ((l.filter p).map (tv G k))<=szL (l.map (tv G k))
 |[]=>by simp
 |a::l=>by
  have:=zfY p l;by_cases h:p a=true
  ·rw[List.filter_cons_of_pos h,List.map_cons,List.map_cons,szL,szL];omega
  ·rw[List.filter_cons_of_neg h,List.map_cons,szL];omega
theorem FilOK.open_(S:HdS G L hd k Ns O) {fl:Nat->Bool} {q:Nat} {r:List (Nat × Bool)}(h:FilOK G hd k fl [] ((q,false)::r))(hn:FilN G 0 ((q,false)::r)) {x:Nd}(hx:G q=some x)(ahead:List Nat)(ha:ahead=(x.kids.map hd).filter (λc=>!fl c)):FilOK G hd k fl [] (ahead.map (·,false)++(q,true)::r)/\FilN G 0 (ahead.map (·,false)++(q,true)::r)/\filW G k (ahead.map (·,false)++(q,true)::r)<filW G k ((q,false)::r):=by
 rw[FilOK]at h
 obtain⟨a1,a2,-,a4⟩:=h;obtain⟨-,-,-,-,t1,t2⟩:=S.tv_node a1 a2 hx;have hmem:∀c∈ahead,FV G c/\hd c=c/\sz (tv G k c)<sz (tv G k q):=λc hc=>by
  rw[ha]at hc
  obtain⟨z,hz,rfl⟩:=List.mem_map.1 (List.mem_filter.1 hc).1;exact⟨t2 z hz,S.gr.idm z,zia (by rw[t1];exact List.mem_map.2 ⟨z,hz,rfl⟩)⟩
 have hput:∀(l:List Nat) (ab:List Nat),(∀c∈l,c∈ahead)->(∀c∈ab,c∈ahead)->(∀c∈ahead,c∈ab\/c∈l)->FilOK G hd k fl ab (l.map (·,false)++(q,true)::r):=by
  intro l;induction l with
  |nil =>
   intro ab _ h2 h3;rw[List.map_nil,List.nil_append,FilOK]
   refine⟨a1,a2,λ_=>⟨λy hy c hc=>?_,λa ha'=>(hmem a (h2 a ha')).2.2⟩,?_⟩
   ·rw[hx]at hy;injection hy with hy;subst hy
    by_cases hf:fl (hd c)=true
    ·exact .inl hf
    ·refine .inr ((h3 (hd c) ?_).resolve_right (λh=>by cases h))
     rw[ha]
     exact List.mem_filter.2 ⟨List.mem_map.2 ⟨c,hc,rfl⟩,by simp[hf]⟩
   ·refine a4.mono (λ_ h=>h) r (λa ha'=>by rw[List.mem_singleton.1 ha'];exact .inl (by simp)) (λa ha'=>?_)
    rcases List.mem_cons.1 ha' with e|ha'
    ·exact⟨q,by simp,by rw[e];exact Nat.le_refl _⟩
    ·exact⟨q,by simp,Nat.le_of_lt (hmem a (h2 a ha')).2.2⟩
  |cons c l ih =>
   intro ab h1 h2 h3;rw[List.map_cons,List.cons_append,FilOK]
   obtain⟨m1,m2,_⟩:=hmem c (h1 c (by simp));refine⟨m1,m2,(λh=>by cases h),ih (c::ab) (λz hz=>h1 z (by simp[hz])) (λz hz=>?_) (λz hz=>?_)⟩
   ·rcases List.mem_cons.1 hz with e|hz
    ·rw[e];exact h1 c (by simp)
    ·exact h2 z hz
   ·rcases h3 z hz with h|h
    ·exact .inl (by simp[h])
    ·rcases List.mem_cons.1 h with e|h
     ·exact .inl (by simp[e])
     ·exact .inr h
 refine⟨hput ahead [] (λ_ h=>h) (λc h=>by cases h) (λc h=>.inr h),?_,?_⟩
 ·refine FilN.put ahead ?_
  rw[FilN]at hn
  rw[FilN]
  refine⟨⟨x,hx,?_⟩,hn.le r (by omega)⟩;rw[Nat.zero_add,ha]
  exact Nat.le_trans (List.length_filter_le _ _) (by simp)
 ·rw[zib,zic,filW,filW]
  simp only[if_true,Bool.false_eq_true,if_false];have h1:=znp (tv G k q);have h2:szL (ahead.map (tv G k))<=szL (zaf (tv G k q)):=by
   rw[t1,ha]
   have:=zfY (G:=G) (k:=k) (λc=>!fl c) (x.kids.map hd);rw[List.map_map]at this
   exact this
  omega
end
def Wq(E:List (Dt × Dt))(d:Dt):Prop:=∃p∈E,Wi p.1 d\/Wi p.2 d
theorem Wq.kid {E:List (Dt × Dt)} {d u:Dt}(h:Wq E d)(hu:u∈zaf d):Wq E u:=by
 obtain⟨p,hp,h⟩:=h;exact⟨p,hp,h.imp (λh=>h.tail hu) (λh=>h.tail hu)⟩
def Knm(E:List (Dt × Dt))(k:Sb):Prop:=∀n,(∃j,k n=.mt j)\/∃d,Wq E d/\kdD d≠2/\k n=ap k d
def Ent2(E:List (Dt × Dt))(k:Sb)(l:List (Dt × Dt)):Prop:=∀p∈l,(∃d,Wq E d/\ap k p.1=ap k d)/\∃d,Wq E d/\ap k p.2=ap k d
theorem Knm.root {E:List (Dt × Dt)} {k:Sb}(h:Knm E k) {d:Dt}(hd:Wq E d):(∃j,ap k d=.mt j)\/∃e,Wq E e/\kdD e≠2/\ap k d=ap k e:=by
 by_cases h2:kdD d=2
 ·obtain⟨n,rfl⟩:=zdE h2
  rw[zaw]
  exact h n
 ·exact .inr ⟨d,hd,h2,rfl⟩
theorem Knm.upd {E:List (Dt × Dt)} {k:Sb}(h:Knm E k) {m:Nat} {d:Dt}(hd:Wq E d)(ho:¬MtOcc m (ap k d)):Knm E (Tx.upd m (ap k d) k):=by
 have key:∀e,ap (fil m (ap k d)) (ap k e)=ap (Tx.upd m (ap k d) k) e:=λe=>(za9 m (ap k d) k e).symm;have hself:ap (fil m (ap k d)) (ap k d)=ap k d:=zfe _ _ _ ho;have htop:(∃j,ap k d=.mt j)\/∃e,Wq E e/\kdD e≠2/\ap k d=ap (Tx.upd m (ap k d) k) e:=by
  rcases h.root hd with h|⟨e,h1,h2,h3⟩
  ·exact .inl h
  ·exact .inr ⟨e,h1,h2,by rw[<-key,<-h3,hself]⟩
 intro n;rcases h n with⟨j,hj⟩|⟨e,h1,h2,h3⟩
 ·have:Tx.upd m (ap k d) k n=fil m (ap k d) j:=by unfold Tx.upd;rw[hj,zaw]
  rw[this]
  by_cases e:j=m
  ·rw[e,zaW];exact htop
  ·rw[zaO _ _ _ e];exact .inl ⟨j,rfl⟩
 ·refine .inr ⟨e,h1,h2,?_⟩
  unfold Tx.upd;rw[h3,key]
  rfl
theorem znq(E0:List (Dt × Dt))(f:Nat):∀(E:List (Dt × Dt))(k k':Sb),unF f E k=some (.inr k')->Idem k->Knm E0 k->Ent2 E0 k E->Knm E0 k':=by
 induction f with
 |zero=>intro E k k' h;rw[unF]at h;cases h
 |succ f ih =>
  intro E k k' h hk hK hE;cases E with
  |nil=>rw[unF]at h;injection h with h;injection h with h;rw[<-h];exact hK
  |cons p r =>
   obtain⟨a,b⟩:=p;obtain⟨⟨da,wa,ea⟩,⟨db',wb,eb⟩⟩:=hE (a,b) List.mem_cons_self;simp only at ea eb;have hr:Ent2 E0 k r:=λp hp=>hE p (List.mem_cons_of_mem _ hp);rw[unF]at h
   cases hq:act (ap k a) (ap k b) with
   |skip=>rw[hq]at h;exact ih r k k' h hk hK hr
   |clash=>rw[hq]at h;injection h with h;cases h
   |push l =>
    rw[hq]at h
    refine ih (l++r) k k' h hk hK λp hp=>?_;rcases List.mem_append.1 hp with hp|hp
    ·have hkid:∀(z:Dt) (d:Dt),Wq E0 d->z=ap k d->(∀j,z≠.mt j)->∀u∈zaf z,∃e,Wq E0 e/\ap k u=ap k e:=by
      intro z d wd hz hnm u hu;rcases hK.root wd with⟨j,hj⟩|⟨e,h1,h2,h3⟩
      ·exact absurd (hz.trans hj) (hnm j)
      ·rw[hz,h3,(zaX k h2).1]at hu
       obtain⟨v,hv,rfl⟩:=List.mem_map.1 hu;exact⟨v,h1.kid hv,za0 hk v⟩
     rcases zbQ hq with⟨c,u,v,e1,e2,_,rfl⟩|⟨c,d,c',d',e1,e2,rfl⟩|⟨c,d,e1,e2,rfl⟩
     ·exact⟨hkid _ da wa ea (by rw[e1];simp) p.1 (by rw[e1];exact(List.of_mem_zip hp).1),hkid _ db' wb eb (by rw[e2];simp) p.2 (by rw[e2];exact(List.of_mem_zip hp).2)⟩
     ·simp at hp
      rcases hp with rfl|rfl
      ·exact⟨hkid _ da wa ea (by rw[e1];simp) _ (by rw[e1];simp[zaf]),hkid _ db' wb eb (by rw[e2];simp) _ (by rw[e2];simp[zaf])⟩
      ·exact⟨hkid _ da wa ea (by rw[e1];simp) _ (by rw[e1];simp[zaf]),hkid _ db' wb eb (by rw[e2];simp) _ (by rw[e2];simp[zaf])⟩
     ·simp at hp
      subst hp;exact⟨hkid _ da wa ea (by rw[e1];simp) _ (by rw[e1];simp[zaf]),hkid _ db' wb eb (by rw[e2];simp) _ (by rw[e2];simp[zaf])⟩
    ·exact hr p hp
   |learn m t =>
    rw[hq]at h
    simp only at h;by_cases hb:bad m t=0
    ·rw[if_pos hb]at h
     obtain⟨e1,e2,_,_⟩:=zbz hk hq;obtain⟨ho,hpl⟩:=(zbP m t).1 hb;obtain⟨d,wd,rfl⟩:∃d,Wq E0 d/\t=ap k d:=by
      obtain⟨(⟨_,g⟩|⟨_,g⟩),_⟩:=zcy hq
      ·exact⟨db',wb,by rw[g,eb]⟩
      ·exact⟨da,wa,by rw[g,ea]⟩
     refine ih r _ k' h (zc3 hk e2 ho) (hK.upd wd ho) λp hp=>?_;obtain⟨⟨d1,w1,h1⟩,⟨d2,w2,h2⟩⟩:=hr p hp;exact⟨⟨d1,w1,by show ap (upd m (ap k d) k) _=ap (upd m (ap k d) k) _;rw[za9,za9,h1]⟩,⟨d2,w2,by show ap (upd m (ap k d) k) _=ap (upd m (ap k d) k) _;rw[za9,za9,h2]⟩⟩
    ·rw[if_neg hb]at h;injection h with h;cases h
mutual
def occM:Dt->List Nat
 |.mt n=>[n]
 |.con _ l=>zeP l
 |.fn a b=>occM a++occM b
 |.all t=>occM t
 |_=>[]
def zeP:List Dt->List Nat
 |[]=>[]
 |t::r=>occM t++zeP r
end
theorem zd6:(l:List Dt)->zeP l=l.flatMap occM
 |[]=>rfl
 |t::r=>by rw[zeP,zd6 r];rfl
theorem znr {d u:Dt}(h:u∈zaf d):(occM u).Sublist (occM d):=by
 cases d with
 |con c l =>
  rw[occM,zd6,List.flatMap_def]
  exact List.sublist_flatten_of_mem (List.mem_map.2 ⟨u,h,rfl⟩)
 |fn a b =>
  simp[zaf]at h
  rw[occM]
  rcases h with rfl|rfl
  ·exact List.sublist_append_left _ _
  ·exact List.sublist_append_right _ _
 |all t=>simp[zaf]at h;subst h;rw[occM];exact List.Sublist.refl _
 |_=>cases h
theorem zgi {d u:Dt}(h:Wi d u):(occM u).Sublist (occM d)/\sz u<=sz d:=by
 induction h with
 |refl d=>exact⟨List.Sublist.refl _,Nat.le_refl _⟩
 |kid d u e hu _ ih=>exact⟨ih.1.trans (znr hu),Nat.le_trans ih.2 (Nat.le_of_lt (zia hu))⟩
theorem zns(n:Nat)(d:Dt):n∈occM d->MtOcc n d:=by
 induction d using Dt.ind with
 |hf x=>intro h;rw[occM]at h <;> simp at *
 |hb i=>intro h;rw[occM]at h <;> simp at *
 |hm m=>intro h;rw[occM]at h;rw[MtOcc];exact List.mem_singleton.1 h
 |hc c l ih =>
  intro h;rw[occM,zd6,List.mem_flatMap]at h
  obtain⟨u,hu,h⟩:=h;rw[MtOcc,zaC]
  exact⟨u,hu,ih u hu h⟩
 |hn a b iha ihb =>
  intro h;rw[occM,List.mem_append]at h
  rw[MtOcc]
  exact h.imp iha ihb
 |ha t ih=>intro h;rw[occM]at h;rw[MtOcc];exact ih h
theorem zlI(k:Sb)(d:Dt):sz (ap k d)<=sz d+((occM d).map λn=>sz (k n)).sum:=by
 induction d using Dt.ind with
 |hf x=>rw[zbm];omega
 |hb i=>rw[zbA];omega
 |hm m=>rw[zaw,occM];simp
 |hc c l ih =>
  rw[zaZ,sz,sz,occM,zbd]
  have:szL (l.map (ap k))<=szL l+((zeP l).map λn=>sz (k n)).sum:=by
   induction l with
   |nil=>simp[szL]
   |cons a l ihl =>
    have h1:=ih a (by simp);have h2:=ihl λd hd=>ih d (by simp[hd]);rw[List.map_cons,szL,szL,zeP,List.map_append,List.sum_append]
    omega
  omega
 |hn a b iha ihb =>
  rw[zbf,sz,sz,occM,List.map_append,List.sum_append]
  omega
 |ha t ih=>rw[zaJ,sz,sz,occM];omega
def occE(E:List (Dt × Dt)):List Nat:=E.flatMap λp=>occM p.1++occM p.2
def szM:List (Dt × Dt)->Nat
 |[]=>1
 |p::r=>max (sz p.1) (sz p.2)+szM r
theorem Wq.le {E:List (Dt × Dt)} {d:Dt}(h:Wq E d):(occM d).Sublist (occE E)/\sz d<=szM E:=by
 obtain⟨p,hp,h⟩:=h;have h1:(occM d).Sublist (occM p.1++occM p.2)/\sz d<=max (sz p.1) (sz p.2):=by
  rcases h with h|h
  ·obtain⟨a,b⟩:=zgi h;exact⟨a.trans (List.sublist_append_left _ _),by omega⟩
  ·obtain⟨a,b⟩:=zgi h;exact⟨a.trans (List.sublist_append_right _ _),by omega⟩
 refine⟨h1.1.trans ?_,?_⟩
 ·unfold occE
  rw[List.flatMap_def]
  exact List.sublist_flatten_of_mem (List.mem_map.2 ⟨p,hp,rfl⟩)
 ·refine Nat.le_trans h1.2 ?_
  clear h1 h;induction E with
  |nil=>cases hp
  |cons q E ih =>
   rw[szM]
   rcases List.mem_cons.1 hp with e|hp
   ·rw[e];omega
   ·have:=ih hp;omega
theorem zi5:(E:List (Dt × Dt))->1<=szM E
 |[]=>Nat.le_refl _
 |p::r=>by rw[szM];have:=zi5 r;omega
def below(v:Nat->Nat)(M:List Nat)(x:Nat):List Nat:=M.filter λm=>decide (v m<x)
theorem zgZ(v:Nat->Nat)(x:Nat):(M:List Nat)->((below v M (x+1)).map v).sum<=((below v M x).map v).sum+(M.filter λm=>decide (v m=x)).length*x/\(below v M (x+1)).length=(below v M x).length+(M.filter λm=>decide (v m=x)).length
 |[]=>by simp[below]
 |m::M=>by
  obtain⟨h1,h2⟩:=zgZ v x M;unfold below at h1 h2 ⊢;by_cases a:v m<x
  ·rw[List.filter_cons_of_pos (by simp;omega),List.filter_cons_of_pos (by simpa using a),List.filter_cons_of_neg (by simp;omega)]
   simp only[List.map_cons,List.sum_cons,List.length_cons];omega
  ·by_cases b:v m=x
   ·rw[List.filter_cons_of_pos (by simp;omega),List.filter_cons_of_neg (by simpa using a),List.filter_cons_of_pos (by simpa using b)]
    simp only[List.map_cons,List.sum_cons,List.length_cons,Nat.add_mul,Nat.one_mul];omega
   ·rw[List.filter_cons_of_neg (by simp;omega),List.filter_cons_of_neg (by simpa using a),List.filter_cons_of_neg (by simpa using b)]
    exact⟨h1,h2⟩
theorem zj7(c:Nat):c+1<=2 ^ c:=by
 induction c with
 |zero=>simp
 |succ c ih=>rw[Nat.pow_succ];omega
theorem ziG(v:Nat->Nat)(M:List Nat)(S:Nat)(h:∀m∈M,v m<=S+((below v M (v m)).map v).sum)(x:Nat):S+((below v M x).map v).sum<=S*2 ^(below v M x).length:=by
 induction x with
 |zero =>
  have:below v M 0=[]:=by unfold below;rw[List.filter_eq_nil_iff];intro m _;simp
  rw[this];simp
 |succ x ih =>
  obtain⟨h1,h2⟩:=zgZ v x M;obtain⟨c,hc⟩:∃c,(M.filter λm=>decide (v m=x)).length=c:=⟨_,rfl⟩;rw[hc]at h1 h2
  rw[h2,Nat.pow_add,<-Nat.mul_assoc]
  have hx:c=0\/x<=S+((below v M x).map v).sum:=by
   by_cases h0:c=0
   ·exact .inl h0
   ·right
    obtain⟨m,hm⟩:=List.exists_mem_of_length_pos (l:=M.filter λm=>decide (v m=x)) (by omega);obtain⟨m1,m2⟩:=List.mem_filter.1 hm;have m2:v m=x:=by simpa using m2
    have:=h m m1;rw[m2]at this
    exact this
  have h3:S+((below v M (x+1)).map v).sum<=(S+((below v M x).map v).sum)*(c+1):=by
   rcases hx with h0|h0
   ·subst h0;simp at h1 ⊢;exact h1
   ·have:=Nat.mul_le_mul_left c h0
    rw[Nat.mul_add,Nat.mul_one,Nat.mul_comm]
    omega
  exact Nat.le_trans h3 (Nat.mul_le_mul ih (zj7 c))
theorem Knm.size {E:List (Dt × Dt)} {k:Sb}(h:Knm E k)(n:Nat):sz (k n)<=szM E*2 ^(occE E).length:=by
 have key:∀n,sz (k n)<=szM E+((below (λn=>sz (k n)) (occE E) (sz (k n))).map λn=>sz (k n)).sum:=by
  intro n;rcases h n with⟨j,hj⟩|⟨d,h1,h2,h3⟩
  ·have:=zi5 E
   rw[hj]
   simp only[sz];omega
  ·obtain⟨a,b⟩:=h1.le
   have hs:=zlI k d;rw[<-h3]at hs
   have hsub:(occM d).Sublist (below (λn=>sz (k n)) (occE E) (sz (k n))):=by
    have:=a.filter λm=>decide (sz (k m)<sz (k n));rw[List.filter_eq_self.2]at this
    ·exact this
    ·intro m hm
     have:=(zoU k m d (zns m d hm)).2 (λe=>by rw[e]at h2;exact h2 rfl);rw[<-h3]at this
     simpa using this
   have:((occM d).map λn=>sz (k n)).sum<=((below (λn=>sz (k n)) (occE E) (sz (k n))).map λn=>sz (k n)).sum:=by
    generalize below (λn=>sz (k n)) (occE E) (sz (k n))=M at hsub;generalize occM d=M' at hsub;clear hs a b h3;induction hsub with
    |slnil=>simp
    |cons a _ ih=>simp only[List.map_cons,List.sum_cons];omega
    |cons_cons a _ ih=>simp only[List.map_cons,List.sum_cons];omega
   omega
 have hb:=ziG (λn=>sz (k n)) (occE E) (szM E) (λm _=>key m) (sz (k n));refine Nat.le_trans (key n) (Nat.le_trans hb ?_);exact Nat.mul_le_mul_left _ (Nat.pow_le_pow_right (by omega) (List.length_filter_le _ _))
def PS(u d:Dt):Prop:=∃v∈zaf d,Wi v u
theorem Wi.trans {d u e:Dt}(h:Wi d u)(k:Wi u e):Wi d e:=by
 induction h with
 |refl d=>exact k
 |kid d v _ hv _ ih=>exact .kid d v e hv (ih k)
theorem PS.sz {u d:Dt}(h:PS u d):sz u<sz d:=by
 obtain⟨v,hv,h⟩:=h;exact Nat.lt_of_le_of_lt (zgi h).2 (zia hv)
theorem PS.of_kid {u d:Dt}(h:u∈zaf d):PS u d:=⟨u,h,.refl u⟩
theorem PS.trans {u v d:Dt}(h:PS u v)(k:PS v d):PS u d:=by
 obtain⟨a,ha,h⟩:=h;obtain⟨b,hb,k⟩:=k;exact⟨b,hb,k.trans (.kid _ a _ ha h)⟩
theorem zid(s:Sb) {d u:Dt}(h:u∈zaf d):ap s u∈zaf (ap s d):=by
 rw[(zaX s (λe=>by obtain⟨n,rfl⟩:=zdE e;cases h)).1]
 exact List.mem_map.2 ⟨u,h,rfl⟩
theorem Wi.ap(s:Sb) {d u:Dt}(h:Wi d u):Wi (Tx.ap s d) (Tx.ap s u):=by
 induction h with
 |refl d=>exact .refl _
 |kid d v e hv _ ih=>exact .kid _ _ _ (zid s hv) ih
theorem PS.ap(s:Sb) {u d:Dt}(h:PS u d):PS (Tx.ap s u) (Tx.ap s d):=by
 obtain⟨v,hv,h⟩:=h;exact⟨_,zid s hv,h.ap s⟩
def StkS(G:Nat->Option Nd)(k:Sb):List Nat->List Eqn->Prop
 |_,[]=>True
 |ab,q::r=>(q.d=true->(FV G q.l->∀a∈ab,FV G a/\PS (tv G k a) (tv G k q.l))/\(∀e∈r,e.d=true->e.l≠q.l))/\StkS G k (if q.d then ab else q.l::ab) r
def StkN(G:Nat->Option Nd)(C:Nat):Nat->List Eqn->Prop
 |c,[]=>c<=C
 |c,q::r=>(q.d=true->∃x,G q.l=some x/\c<=x.kids.length)/\StkN G C (if q.d then 0 else c+1) r
section
variable {G:Nat->Option Nd} {L:List Nat} {hd:Nat->Nat} {k:Sb} {Ns O:List Nat} {C:Nat}
theorem StkS.sub:(l:List Eqn)->∀ {ab ab':List Nat},StkS G k ab l->(∀a∈ab',a∈ab)->StkS G k ab' l
 |[],_,_,_,_=>by rw[StkS];trivial
 |q::r,ab,ab',h,hs=>by
  rw[StkS]at h ⊢
  refine⟨λhq=>⟨λhf a ha=>(h.1 hq).1 hf a (hs a ha),(h.1 hq).2⟩,?_⟩;cases hq:q.d with
  |true=>rw[hq]at h;exact StkS.sub r h.2 hs
  |false =>
   rw[hq]at h
   refine StkS.sub r h.2 λa ha=>?_;rcases List.mem_cons.1 ha with e|ha
   ·rw[e];simp
   ·exact List.mem_cons_of_mem _ (hs a ha)
theorem StkS.pop {q:Eqn} {r:List Eqn}(h:StkS G k [] (q::r)):StkS G k [] r:=by
 rw[StkS]at h
 exact h.2.sub r λa ha=>by cases ha
theorem zlJ {m:Nat} {t:Dt} {q:Nat}(h:FV G q):tv G (upd m t k) q=ap (fil m t) (tv G k q):=by
 obtain⟨d,h1,h2⟩:=h;rw[zcl _ h1 h2,zcl _ h1 h2,za9]
theorem StkS.upd(m:Nat)(t:Dt):(l:List Eqn)->∀ {ab:List Nat},StkS G k ab l->StkS G (Tx.upd m t k) ab l
 |[],_,_=>by rw[StkS];trivial
 |q::r,ab,h=>by
  rw[StkS]at h ⊢
  refine⟨λhq=>⟨λhf a ha=>?_,(h.1 hq).2⟩,StkS.upd m t r h.2⟩;obtain⟨h1,h2⟩:=(h.1 hq).1 hf a ha;exact⟨h1,by rw[zlJ h1,zlJ hf];exact h2.ap _⟩
theorem StkS.above:(l:List Eqn)->∀ {ab ab':List Nat},StkS G k ab l->(∀a∈ab',∃b∈ab,FV G b->FV G a/\(tv G k a=tv G k b\/PS (tv G k a) (tv G k b)))->StkS G k ab' l
 |[],_,_,_,_=>by rw[StkS];trivial
 |q::r,ab,ab',h,hs=>by
  rw[StkS]at h ⊢
  refine⟨λhq=>⟨λhf a ha=>?_,(h.1 hq).2⟩,?_⟩
  ·obtain⟨b,hb,hab⟩:=hs a ha
   obtain⟨h1,h2⟩:=(h.1 hq).1 hf b hb;obtain⟨h3,h4|h4⟩:=hab h1
   ·exact⟨h3,by rw[h4];exact h2⟩
   ·exact⟨h3,h4.trans h2⟩
  ·cases hq:q.d with
   |true=>rw[hq]at h;exact StkS.above r h.2 hs
   |false =>
    rw[hq]at h
    refine StkS.above r h.2 λa ha=>?_;rcases List.mem_cons.1 ha with e|ha
    ·rw[e];exact⟨q.l,by simp,λh=>⟨h,.inl rfl⟩⟩
    ·obtain⟨b,hb,h⟩:=hs a ha
     exact⟨b,List.mem_cons_of_mem _ hb,h⟩
theorem EntOK.done_mem:(l:List Eqn)->∀ {A:Sb->Prop} {E:List (Dt × Dt)} {N:List Nat},EntOK G hd O A l E N->∀e∈l,e.d=true->FV G e.l\/e.l∈N
 |[],_,_,_,_,e,he,_=>by cases he
 |q::r,A,E,N,h,e,he,hd=>by
  rw[EntOK]at h
  obtain⟨el,er,dl,dr,nl,nr,h1,h2,h3,⟨a,E',N',b,rfl,c⟩|⟨a,b,N',rfl,c⟩⟩:=h
  ·rcases List.mem_cons.1 he with e1|he
   ·rw[e1,a]at hd;cases hd
   ·rcases EntOK.done_mem r c e he hd with h|h
    ·exact .inl h
    ·exact .inr (by simp[h])
  ·rcases List.mem_cons.1 he with e1|he
   ·by_cases hp:Plain dl
    ·exact .inl ⟨dl,by rw[e1];exact(h2.plain hp).2 [],hp⟩
    ·exact .inr (by rw[e1,zcz hp];simp)
   ·rcases EntOK.done_mem r c e he hd with h|h
    ·exact .inl h
    ·exact .inr (by simp[h])
theorem StkS.put(l:List Eqn):(ps qs:List Nat)->∀ {ab:List Nat},ps.length=qs.length->StkS G k (ps.reverse++ab) l->StkS G k ab (zax ps qs++l)
 |[],[],_,_,h=>h
 |[],_::_,_,h,_=>by simp at h
 |_::_,[],_,h,_=>by simp at h
 |p::ps,q::qs,ab,hl,h=>by
  rw[zax,List.cons_append,StkS]
  refine⟨(λhq=>by cases hq),?_⟩;refine StkS.put l ps qs (by simpa using hl) ?_;simpa using h
theorem StkN.put(l:List Eqn):(ps qs:List Nat)->∀ {c:Nat},ps.length=qs.length->StkN G C (c+ps.length) l->StkN G C c (zax ps qs++l)
 |[],[],_,_,h=>h
 |[],_::_,_,h,_=>by simp at h
 |_::_,[],_,h,_=>by simp at h
 |p::ps,q::qs,c,hl,h=>by
  rw[zax,List.cons_append,StkN]
  refine⟨(λhq=>by cases hq),?_⟩;refine StkN.put l ps qs (by simpa using hl) ?_;show StkN G C (c+1+ps.length) l;rw[List.length_cons]at h
  rw[show c+1+ps.length=c+(ps.length+1) by omega]
  exact h
theorem StkN.le:(l:List Eqn)->∀ {c d:Nat},StkN G C c l->d<=c->StkN G C d l
 |[],c,d,h,hd=>by rw[StkN]at h ⊢;omega
 |q::r,c,d,h,hd=>by
  rw[StkN]at h ⊢
  refine⟨λhq=>by obtain⟨x,h1,h2⟩:=h.1 hq;exact⟨x,h1,by omega⟩,StkN.le r h.2 ?_⟩;cases q.d <;> simp <;> omega
theorem StkN.pop {q:Eqn} {r:List Eqn}(h:StkN G C 0 (q::r)):StkN G C 0 r:=by
 rw[StkN]at h
 exact h.2.le r (Nat.zero_le _)
theorem Sim.stk {q:Eqn} {r:List Eqn} {f:Nat} {o:Nat ⊕ Sb}(h:Sim G L hd k (q::r) f o)(hq:q.d=false) {x y:Nd}(hx:G (hd q.l)=some x)(hl:x.kids.length=y.kids.length)(hs:StkS G k [] (q::r))(hn:StkN G C 0 (q::r)):StkS G k [] (zax x.kids y.kids++⟨hd q.l,hd q.r,true⟩::r)/\StkN G C 0 (zax x.kids y.kids++⟨hd q.l,hd q.r,true⟩::r):=by
 obtain⟨el,er,dl,dr,nl,nr,E',N',O,a,b,Eu',f',S,h1,h2,h3,h4,-,-,-,-,-⟩:=h.uncons hq;obtain⟨d',v1,e1,p1,n1⟩:=S.head h1.left h2 (λx hx=>by simp[hx]);have hFV:FV G (hd q.l)->FV G q.l/\tv G k (hd q.l)=tv G k q.l:=λhf=>by
  by_cases hp:Plain dl
  ·exact⟨⟨dl,(h2.plain hp).2 [],hp⟩,(S.fv_head ⟨dl,(h2.plain hp).2 [],hp⟩).2⟩
  ·exfalso
   obtain⟨e,g1,g2⟩:=hf;obtain⟨hdd,n2⟩:=n1 hp;rcases v1 with⟨t,hb⟩|⟨-,i,nm,_,_,hG⟩
   ·exact(t.nonP (by rw[hdd];exact hp)) _ _ _ g1 g2
   ·exact zd5 hG _ _ _ g1 g2
 rw[StkS]at hs
 rw[StkN]at hn
 have hs2:=hs.2;have hn2:=hn.2;rw[hq]at hs2 hn2
 constructor
 ·refine StkS.put _ _ _ hl ?_
  rw[StkS,List.append_nil]
  have hkid:∀c∈x.kids.reverse,FV G (hd q.l)->FV G c/\PS (tv G k c) (tv G k (hd q.l)):=λc hc hf=>by
   have hc:=List.mem_reverse.1 hc;obtain⟨-,-,-,-,t1,t2⟩:=S.tv_node hf (S.gr.idm _) hx;have hfc:FV G c:=by
    obtain⟨d,g1,g2⟩:=hf;have g0:=g1;generalize hns:([]:List Nat)=ns at g1;cases g1 with
    |fv _ _ y hy=>rw[hy]at hx;injection hx with hx;subst hx;cases hc
    |bv _ _ _ i _ _=>exact absurd g2 (zaH i)
    |mt _ _ n hy=>rw[hy]at hx;injection hx with hx;subst hx;cases hc
    |all=>exact absurd g2 (zaE _)
    |app _ _ _ ps nss ha hy l1 l2 hk =>
     rw[hy]at hx;injection hx with hx;subst hx
     obtain⟨i,hi,rfl⟩:=List.mem_iff_getElem.1 (show c∈ps from hc);have ht:=hk i _ _ _ (List.getElem?_eq_getElem hi) (List.getElem?_eq_getElem (show i<(zaf d).length by omega)) (List.getElem?_eq_getElem (show i<nss.length by omega));have hp:=(zcI ha).1 g2 _ (List.getElem_mem (show i<(zaf d).length by omega));exact⟨_,(ht.plain hp).2 [],hp⟩
   refine⟨hfc,PS.of_kid ?_⟩;rw[t1,<-(S.fv_head hfc).2]
   exact List.mem_map.2 ⟨c,hc,rfl⟩
  refine⟨λ_=>⟨λhf c hc=>hkid c hc hf,λe he hed=>?_⟩,?_⟩
  ·intro hel
   rcases h4.done_mem r e he hed with hf|hm
   ·rw[hel]at hf
    obtain⟨f1,f2⟩:=hFV hf;have key:∀(l:List Eqn) (ab:List Nat),StkS G k ab l->q.l∈ab->e∈l->PS (tv G k q.l) (tv G k e.l):=by
     intro l;induction l with
     |nil=>intro ab _ _ h;cases h
     |cons z l ih =>
      intro ab hz hab hm;rw[StkS]at hz
      rcases List.mem_cons.1 hm with e1|hm
      ·subst e1
       exact((hz.1 hed).1 (by rw[hel];exact hf) q.l hab).2
      ·refine ih _ hz.2 ?_ hm
       cases z.d
       ·simp[hab]
       ·exact hab
    have:=(key r _ hs2 (by simp) he).sz;rw[hel,f2]at this
    omega
   ·rw[hel]at hm
    have hnf:¬FV G (hd q.l):=λ⟨d,g1,g2⟩=>S.np _ (by simp[hm]) _ _ _ g1 g2;have hnp:¬Plain dl:=λhp=>hnf (S.fv_head ⟨dl,(h2.plain hp).2 [],hp⟩).1;obtain⟨rfl,n2⟩:=n1 hnp;rcases v1 with⟨t,hb⟩|⟨-,i,nm,_,g,hG⟩
    ·have:hd q.l∈nl:=t.self_mem hnp hb
     exact(zbM S.nd).2.2 _ (by simp[this]) hm
    ·have hO:hd q.l∈O:=h1.ro _ (List.mem_of_getElem? g)
     exact(S.oc _ hO).2 (by simp[hm])
  ·refine StkS.above r hs2 λc hc=>⟨q.l,by simp,λhf=>?_⟩
   have hc:c∈x.kids.reverse:=by simpa using hc
   obtain⟨f1,f2⟩:=S.fv_head hf;obtain⟨c1,c2⟩:=hkid c hc f1;exact⟨c1,.inr (by rw[<-f2];exact c2)⟩
 ·refine StkN.put _ _ _ hl ?_
  rw[StkN]
  refine⟨λ_=>⟨x,hx,by omega⟩,?_⟩;exact hn2.le r (Nat.zero_le _)
def donL(l:List Eqn):List Nat:=(l.filter (·.d)).map (·.l)
theorem zg0(q:Eqn)(r:List Eqn):donL (q::r)=if q.d then q.l::donL r else donL r:=by
 unfold donL;cases h:q.d <;> simp[h]
theorem StkS.nodup:(l:List Eqn)->∀ {ab:List Nat},StkS G k ab l->(donL l).Nodup
 |[],_,_=>List.nodup_nil
 |q::r,ab,h=>by
  rw[StkS]at h
  have ih:=StkS.nodup r h.2;rw[zg0]
  cases hq:q.d with
  |false=>exact ih
  |true =>
   refine List.nodup_cons.2 ⟨λhm=>?_,ih⟩;obtain⟨e,he,hel⟩:=List.mem_map.1 hm;obtain⟨h1,h2⟩:=List.mem_filter.1 he;exact(h.1 hq).2 e h1 h2 hel
theorem StkN.len:(l:List Eqn)->∀ {c:Nat},StkN G C c l->c+l.length<=C+((donL l).map (ndW G)).sum/\∀q∈donL l,∃x,G q=some x
 |[],c,h=>by rw[StkN]at h;exact⟨by simp[donL];exact h,λq hq=>by cases hq⟩
 |q::r,c,h=>by
  rw[StkN]at h
  rw[zg0]
  cases hq:q.d with
  |false =>
   rw[hq]at h
   obtain⟨h1,h2⟩:=StkN.len r h.2;simp only[Bool.false_eq_true,if_false,List.length_cons]at h1 ⊢;exact⟨by omega,h2⟩
  |true =>
   have hc:=h.1 hq;rw[hq]at h
   obtain⟨x,hx,hc⟩:=hc;obtain⟨h1,h2⟩:=StkN.len r h.2;simp only[if_true,List.length_cons,List.map_cons,List.sum_cons]at h1 ⊢;have:ndW G q.l=x.kids.length+1:=by unfold ndW;rw[hx]
   refine⟨by omega,λz hz=>?_⟩;rcases List.mem_cons.1 hz with e|hz
   ·rw[e];exact⟨x,hx⟩
   ·exact h2 z hz
theorem StkS.len {l:List Eqn}(h:StkS G k [] l)(hn:StkN G C 0 l)(hL:∀q x,G q=some x->q∈L):l.length<=C+wg G [] L:=by
 obtain⟨h1,h2⟩:=hn.len l;have h4:=zfX (L:=L) (donL l) [] (h.nodup l) (λq hq=>by obtain⟨x,hx⟩:=h2 q hq;exact⟨hL q x hx,x,hx⟩) (λq _ h=>by cases h);omega
theorem StkS.start:(l:List Eqn)->∀ {ab:List Nat},(∀q∈l,q.d=false)->StkS G k ab l
 |[],_,_=>by rw[StkS];trivial
 |q::r,ab,h=>by
  rw[StkS]
  exact⟨(λhq=>by rw[h q (by simp)]at hq;cases hq),StkS.start r λe he=>h e (by simp[he])⟩
theorem StkN.start:(l:List Eqn)->∀ {c:Nat},(∀q∈l,q.d=false)->c+l.length<=C->StkN G C c l
 |[],_,_,h=>by rw[StkN];simpa using h
 |q::r,c,h,hc=>by
  rw[StkN]
  refine⟨(λhq=>by rw[h q (by simp)]at hq;cases hq),?_⟩;rw[h q (by simp)]
  exact StkN.start r (λe he=>h e (by simp[he])) (by simp at hc ⊢;omega)
end
end Go.Proofs.YtfafilmklhnngaaGreatDoor
namespace Go.Proofs.YtfafilmklhnngaaGreatDoor
open Lx Tx
set_option maxRecDepth 100000
theorem zff(P:Nat->Prop)(f:Nat):∀(E:List (Dt × Dt))(k k':Sb),unF f E k=some (.inr k')->Idem k->(∀p∈E,∀n,MtOcc n (ap k p.1)\/MtOcc n (ap k p.2)->P n)->∀n,¬P n->k n=.mt n->k' n=.mt n:=by
 induction f with
 |zero=>intro E k k' h;rw[unF]at h;cases h
 |succ f ih =>
  intro E k k' h hk hP n hn hkn;cases E with
  |nil=>rw[unF]at h;injection h with h;injection h with h;rw[<-h];exact hkn
  |cons p r =>
   obtain⟨a,b⟩:=p;have hab:=hP (a,b) List.mem_cons_self;have hr:∀p∈r,∀n,MtOcc n (ap k p.1)\/MtOcc n (ap k p.2)->P n:=λp hp=>hP p (List.mem_cons_of_mem _ hp);rw[unF]at h
   cases hq:act (ap k a) (ap k b) with
   |skip=>rw[hq]at h;exact ih r k k' h hk hr n hn hkn
   |clash=>rw[hq]at h;injection h with h;cases h
   |push q =>
    rw[hq]at h
    obtain⟨h1,h2⟩:=zd3 (za0 hk a) (za0 hk b) hq;refine ih (q++r) k k' h hk (λp hp m hm=>?_) n hn hkn;rcases List.mem_append.1 hp with hp|hp
    ·rw[(h2 p hp).1,(h2 p hp).2]at hm
     refine hab m ?_;rcases zbQ hq with⟨c,u,v,e1,e2,_,rfl⟩|⟨c,d,c',d',e1,e2,rfl⟩|⟨c,d,e1,e2,rfl⟩
     ·simp only[e1,e2,MtOcc,zaC]
      rcases hm with hm|hm
      ·exact .inl ⟨_,(List.of_mem_zip hp).1,hm⟩
      ·exact .inr ⟨_,(List.of_mem_zip hp).2,hm⟩
     ·simp only[e1,e2,MtOcc]
      simp at hp;rcases hp with rfl|rfl
      ·rcases hm with hm|hm
       ·exact .inl (.inl hm)
       ·exact .inr (.inl hm)
      ·rcases hm with hm|hm
       ·exact .inl (.inr hm)
       ·exact .inr (.inr hm)
     ·simp only[e1,e2,MtOcc]
      simp at hp;rw[hp]at hm
      exact hm
    ·exact hr p hp m hm
   |learn m t =>
    rw[hq]at h
    simp only at h;by_cases hb:bad m t=0
    ·rw[if_pos hb]at h
     obtain⟨e1,e2,e3,e4⟩:=zbz hk hq;have ho:=((zbP m t).1 hb).1;have hnm:n≠m:=λe=>hn (e▸hab m e3);refine ih r (upd m t k) k' h (zc3 hk e2 ho) (λp hp j hj=>?_) n hn ?_
     ·rw[za9,za9,zdC,zdC]at hj
      rcases hj with⟨i,hi,hj⟩|⟨i,hi,hj⟩
      ·by_cases him:i=m
       ·rw[him,zaW]at hj;exact hab j (e4 j hj)
       ·rw[zaO m t i him,MtOcc]at hj;rw[hj];exact hr p hp i (.inl hi)
      ·by_cases him:i=m
       ·rw[him,zaW]at hj;exact hab j (e4 j hj)
       ·rw[zaO m t i him,MtOcc]at hj;rw[hj];exact hr p hp i (.inr hi)
     ·show ap (fil m t) (k n)=.mt n
      rw[hkn,zaw,zaO m t n hnm]
    ·rw[if_neg hb]at h;injection h with h;cases h
structure Told (k:Sb) (l:List (Nat × Ty)):Prop where
 up:(l.map (·.1)).Pairwise (· < ·)
 mem:∀n t,(n,t)∈l↔k n≠.mt n/\t=toTy (k n)
set_option maxRecDepth 100000
theorem zgU:(l l':List (Nat × Ty))->(l.map (·.1)).Pairwise (· < ·)->(l'.map (·.1)).Pairwise (· < ·)->(∀e,e∈l↔e∈l')->l=l'
 |[],[],_,_,_=>rfl
 |[],e::r,_,_,h=>by have:=(h e).2 (by simp);cases this
 |e::r,[],_,_,h=>by have:=(h e).1 (by simp);cases this
 |(n,t)::r,(m,u)::s,h1,h2,h=>by
  rw[List.map_cons,List.pairwise_cons]at h1 h2
  obtain⟨a1,a2⟩:=h1;obtain⟨b1,b2⟩:=h2;have hm1:∀e∈r,n<e.1:=λe he=>a1 e.1 (List.mem_map.2 ⟨e,he,rfl⟩);have hm2:∀e∈s,m<e.1:=λe he=>b1 e.1 (List.mem_map.2 ⟨e,he,rfl⟩);have e1:(n,t)=(m,u):=by
   rcases List.mem_cons.1 ((h (n,t)).1 (by simp)) with e|e
   ·exact e
   ·rcases List.mem_cons.1 ((h (m,u)).2 (by simp)) with e'|e'
    ·exact e'.symm
    ·have:=hm2 _ e
     have:=hm1 _ e';simp only at *;omega
  rw[e1]
  injection e1 with e1 e2;subst e1 e2;rw[zgU r s a2 b2 λe=>?_]
  have h3:=h e;rw[List.mem_cons,List.mem_cons]at h3
  constructor
  ·intro he
   rcases h3.1 (.inr he) with e'|e'
   ·have:=hm1 e he
    rw[e']at this
    simp only at this;omega
   ·exact e'
  ·intro he
   rcases h3.2 (.inr he) with e'|e'
   ·have:=hm2 e he
    rw[e']at this
    simp only at this;omega
   ·exact e'
theorem Told.uniq {k:Sb} {l l':List (Nat × Ty)}(h:Told k l)(h':Told k l'):l=l' :=
 zgU _ _ h.up h'.up λe=>by
  obtain⟨n,t⟩:=e;rw[h.mem,h'.mem]
def isMt(n:Nat):Dt->Bool
 |.mt m=>m==n
 |_=>false
theorem zhY(n:Nat)(d:Dt):isMt n d=true↔d=.mt n:=by
 cases d <;> simp[isMt]
def knOf(k:Sb):List Nat->List (Nat × Ty)
 |[]=>[]
 |n::r=>if isMt n (k n) then knOf k r else(n,toTy (k n))::knOf k r
theorem zhZ(k:Sb)(m:Nat)(t:Ty):(ns:List Nat)->((m,t)∈knOf k ns↔m∈ns/\k m≠.mt m/\t=toTy (k m))
 |[]=>by simp[knOf]
 |n::r=>by
  rw[knOf]
  have ih:=zhZ k m t r;by_cases hq:isMt n (k n)=true
  ·rw[if_pos hq,ih]
   rw[zhY]at hq
   constructor
   ·rintro⟨a,b⟩;exact⟨by simp[a],b⟩
   ·rintro⟨a,b,c⟩
    rcases List.mem_cons.1 a with e|e
    ·rw[e]at b;exact absurd hq b
    ·exact⟨e,b,c⟩
  ·rw[if_neg hq,List.mem_cons,ih]
   rw[zhY]at hq
   constructor
   ·rintro(e|⟨a,b⟩)
    ·injection e with e1 e2
     subst e1;exact⟨by simp,hq,e2⟩
    ·exact⟨by simp[a],b⟩
   ·rintro⟨a,b,c⟩
    rcases List.mem_cons.1 a with e|e
    ·left;rw[c,e]
    ·exact .inr ⟨e,b,c⟩
theorem zfc(k:Sb):(ns:List Nat)->((knOf k ns).map (·.1)).Sublist ns
 |[]=>by rw[knOf];exact .slnil
 |n::r=>by
  rw[knOf]
  split
  ·exact(zfc k r).cons n
  ·exact(zfc k r).cons_cons n
def metQ(E:List (Dt × Dt)):List Nat:=E.flatMap λp=>zaD p.1 []++zaD p.2 []
theorem zlw {f:Nat} {E:List (Dt × Dt)} {k:Sb}(h:unF f E .mt=some (.inr k))(ns:List Nat)(hp:ns.Pairwise (· < ·))(hm:(metQ E).all (λn=>ns.contains n)=true):Told k (knOf k ns):=by
 refine⟨List.Pairwise.sublist (zfc k ns) hp,λn t=>?_⟩;rw[zhZ]
 constructor
 ·exact λh=>h.2
 ·rintro⟨h1,h2⟩
  refine⟨?_,h1,h2⟩;refine Decidable.by_contra λhn=>h1 (zff (λn=>n∈ns) f E .mt k h zb1 (λp hp n hq=>?_) n hn rfl);rw[zby,zby]at hq
  have:n∈metQ E:=by
   unfold metQ;refine List.mem_flatMap.2 ⟨p,hp,List.mem_append.2 ?_⟩;rw[zaU,zaU]
   simpa using hq
  simpa using List.all_eq_true.1 hm n this
def za5:List (Nat × Ty)->List UInt8
 |[]=>[]
 |(n,t)::l=>59::(dec n++61::(t.canonT.print++za5 l))
theorem zfT(n:Nat)(t:Ty):(l:List (Nat × Ty))->za5 (l++[(n,t)])=za5 l++(59::(dec n++61::t.canonT.print))
 |[]=>by simp[za5]
 |(m,u)::l=>by rw[List.cons_append,za5,za5,zfT n t l];simp
end Go.Proofs.YtfafilmklhnngaaGreatDoor
namespace Go.Proofs.YtfafilmklhnngaaGreatDoor
open Lx Tx
set_option maxRecDepth 100000
mutual
theorem zc0(k:Sb)(hk:∀n,n<=999999->NmD (k n)):(d:Dt)->NmD d->NmD (ap k d)
 |.fv x,h=>by rw[zbm];exact h
 |.bv i,h=>by rw[zbA];exact h
 |.mt n,h=>by rw[zaw];rw[NmD]at h;exact hk n h
 |.con c l,h=>by rw[NmD]at h;rw[zaZ,NmD];exact⟨h.1,ziX k hk l h.2⟩
 |.fn a b,h=>by rw[NmD]at h;rw[zbf,NmD];exact⟨zc0 k hk a h.1,zc0 k hk b h.2⟩
 |.all t,h=>by rw[NmD]at h;rw[zaJ,NmD];exact zc0 k hk t h
theorem ziX(k:Sb)(hk:∀n,n<=999999->NmD (k n)):(l:List Dt)->NmDL l->NmDL (apL k l)
 |[],h=>by unfold apL;rw[zbc,NmDL];trivial
 |t::r,h=>by
  rw[NmDL]at h
  have h1:=zc0 k hk t h.1;have h2:=ziX k hk r h.2;unfold ap at h1;unfold apL at h2 ⊢;rw[zbc,NmDL]
  exact⟨h1,h2⟩
end
theorem zc1:(l:List Dt)->(NmDL l↔∀d∈l,NmD d)
 |[]=>by rw[NmDL];simp
 |t::r=>by rw[NmDL,zc1 r];simp
theorem zne {x y:Dt} {q:List (Dt × Dt)}(h:act x y=.push q)(hx:NmD x)(hy:NmD y):∀p∈q,NmD p.1/\NmD p.2:=by
 intro p hp;rcases zbQ h with⟨c,u,v,rfl,rfl,_,rfl⟩|⟨a,b,c,d,rfl,rfl,rfl⟩|⟨a,b,rfl,rfl,rfl⟩
 ·rw[NmD]at hx hy
  have h1:=(zc1 _).1 hx.2;have h2:=(zc1 _).1 hy.2;obtain⟨a,b⟩:=p;exact⟨h1 _ (List.of_mem_zip hp).1,h2 _ (List.of_mem_zip hp).2⟩
 ·rw[NmD]at hx hy
  simp at hp;rcases hp with rfl|rfl
  ·exact⟨hx.1,hy.1⟩
  ·exact⟨hx.2,hy.2⟩
 ·rw[NmD]at hx hy
  simp at hp;rw[hp]
  exact⟨hx,hy⟩
theorem zoS(f:Nat):∀(E:List (Dt × Dt))(k k':Sb),unF f E k=some (.inr k')->(∀p∈E,NmD p.1/\NmD p.2)->(∀n,n<=999999->NmD (k n))->∀n,n<=999999->NmD (k' n):=by
 induction f with
 |zero=>intro E k k' h;rw[unF]at h;cases h
 |succ f ih =>
  intro E k k' h hE hk;cases E with
  |nil=>rw[unF]at h;injection h with h;injection h with h;rw[<-h];exact hk
  |cons p r =>
   obtain⟨a,b⟩:=p;obtain⟨ha,hb⟩:=hE (a,b) List.mem_cons_self;have ha:=zc0 k hk a ha;have hb:=zc0 k hk b hb;have hr:∀p∈r,NmD p.1/\NmD p.2:=λp hp=>hE p (List.mem_cons_of_mem _ hp);rw[unF]at h
   cases hq:act (ap k a) (ap k b) with
   |skip=>rw[hq]at h;exact ih r k k' h hr hk
   |clash=>rw[hq]at h;injection h with h;cases h
   |push q =>
    rw[hq]at h
    have h2:=zne hq ha hb;refine ih (q++r) k k' h (λp hp=>?_) hk;rcases List.mem_append.1 hp with hp|hp
    ·exact h2 p hp
    ·exact hr p hp
   |learn m t =>
    rw[hq]at h
    simp only at h;by_cases hbd:bad m t=0
    ·rw[if_pos hbd]at h
     have ht:NmD t:=by
      rcases(zcy hq).1 with⟨_,e⟩|⟨_,e⟩
      ·rw[e];exact hb
      ·rw[e];exact ha
     refine ih r _ k' h hr λn hn=>zc0 _ (λj hj=>?_) _ (hk n hn);unfold fil;split
     ·exact ht
     ·rw[NmD];exact hj
    ·rw[if_neg hbd]at h;injection h with h;cases h
theorem ziY(n:Nat)(d:Dt):NmD d->MtOcc n d->n<=999999:=by
 induction d using Dt.ind with
 |hf x=>intro _ h;rw[MtOcc]at h;exact h.elim
 |hb i=>intro _ h;rw[MtOcc]at h;exact h.elim
 |hm j=>intro h1 h2;rw[MtOcc]at h2;rw[NmD]at h1;rw[h2];exact h1
 |hc c l ih =>
  intro h1 h2;rw[NmD]at h1
  rw[MtOcc,zaC]at h2
  obtain⟨d,hd,h2⟩:=h2;exact ih d hd ((zc1 l).1 h1.2 d hd) h2
 |hn a b iha ihb =>
  intro h1 h2;rw[NmD]at h1
  rw[MtOcc]at h2
  rcases h2 with h2|h2
  ·exact iha h1.1 h2
  ·exact ihb h1.2 h2
 |ha t ih=>intro h1 h2;rw[NmD]at h1;rw[MtOcc]at h2;exact ih h1 h2
theorem zol(d:Dt):Plain d->NmD d->Nm (toTy d):=by
 induction d using Dt.ind with
 |hf x=>intro _ h;rw[NmD]at h;rw[toTy];exact .var x h
 |hb i=>intro h;exact absurd h (zaH i)
 |hm n=>intro _ h;rw[NmD]at h;rw[toTy];exact .mt n h
 |hc c l ih =>
  intro h1 h2;rw[NmD]at h2
  rw[toTy,zcA]
  refine .con c _ h2.1 λt ht=>?_;obtain⟨d,hd,rfl⟩:=List.mem_map.1 ht;exact ih d hd ((zb0 c l).1 h1 d hd) ((zc1 l).1 h2.2 d hd)
 |hn a b iha ihb =>
  intro h1 h2;rw[NmD]at h2
  have h1:=(plain_fn a b).1 h1;rw[toTy]
  exact .fn _ _ (iha h1.1 h2.1) (ihb h1.2 h2.2)
 |ha t ih=>intro h;exact absurd h (zaE t)
theorem zlx(d:Dt):(toTy d).size<=sz d:=by
 induction d using Dt.ind with
 |hf x=>rw[toTy,Ty.size,sz];omega
 |hb i=>rw[toTy,Ty.size,sz];omega
 |hm n=>rw[toTy,Ty.size,sz];omega
 |hc c l ih =>
  rw[toTy,Ty.size,sz,zcA]
  have:∀r:List Dt,(∀d∈r,(toTy d).size<=sz d)->zah (r.map toTy)<=szL r:=by
   intro r;induction r with
   |nil=>intro _;exact Nat.le_refl _
   |cons x r ihr =>
    intro h;rw[List.map_cons,zah,szL]
    have:=h x (by simp);have:=ihr λd hd=>h d (by simp[hd]);omega
  have:=this l ih;omega
 |hn a b iha ihb=>rw[toTy,Ty.size,sz];omega
 |ha t ih=>rw[toTy,Ty.size,sz];omega
theorem zfU {f:Nat} {ts:List (Ty × Ty)} {k:Sb} {l:List (Nat × Ty)}(h:unF f (dbQ ts) .mt=some (.inr k))(hT:Told k l)(hnm:∀t u,(t,u)∈ts->Nm t/\Nm u)(n:Nat)(t:Ty)(he:(n,t)∈l):n<=999999/\Nm t/\Plain (k n)/\NmD (k n)/\t.size<=sz (k n)/\sz (k n)<=szM (dbQ ts)*2 ^(occE (dbQ ts)).length:=by
 obtain⟨h1,h2⟩:=(hT.mem n t).1 he;have hE:∀p∈dbQ ts,NmD p.1/\NmD p.2:=λp hp=>by
  unfold dbQ at hp;obtain⟨⟨a,b⟩,hq,rfl⟩:=List.mem_map.1 hp;obtain⟨x,y⟩:=hnm a b hq;exact⟨zdT [] a x,zdT [] b y⟩
 have hn:n<=999999:=by
  refine Decidable.by_contra λhn=>h1 (zff (λn=>n<=999999) f (dbQ ts) .mt k h zb1 (λp hp n hq=>?_) n hn rfl);rw[zby,zby]at hq
  rcases hq with hq|hq
  ·exact ziY n _ (hE p hp).1 hq
  ·exact ziY n _ (hE p hp).2 hq
 have hp:=(zlE f _ _ _ h zb1 zaM).2.1 n;have hd:=zoS f _ _ _ h hE (λn hn=>by rw[NmD];exact hn) n hn;have hs:=(znq (dbQ ts) f (dbQ ts) .mt k h zb1 (λn=>.inl ⟨n,rfl⟩) λp hp=>⟨⟨p.1,⟨p,hp,.inl (.refl _)⟩,rfl⟩,⟨p.2,⟨p,hp,.inr (.refl _)⟩,rfl⟩⟩).size n;rw[h2]
 exact⟨hn,zol _ hp hd,hp,hd,zlx _,hs⟩
end Go.Proofs.YtfafilmklhnngaaGreatDoor
namespace Go.Proofs.YtfafilmklhnngaaGreatDoor
open Lx Tx
set_option maxRecDepth 100000
theorem Told.none {l:List (Nat × Ty)}(h:Told .mt l):l=[]:=by
 cases l with
 |nil=>rfl
 |cons e r =>
  obtain⟨n,t⟩:=e;exact absurd rfl ((h.mem n t).1 List.mem_cons_self).1
theorem zh0 {f:Nat} {t:Ty} {o:Nat ⊕ Sb}(h:unF f (dbQ [(t,t)]) .mt=some o):o=.inr .mt:=by
 obtain⟨g,_,h2⟩:=zh6 zb1 _ [(db [] t,db [] t)] (λp hp=>by simp at hp;rw[hp]) (Nat.le_refl _) f [] o h;cases g with
 |zero=>rw[unF]at h2;cases h2
 |succ g=>rw[unF]at h2;injection h2 with h2;exact h2.symm
theorem zom {f m:Nat} {t:Ty} {o:Nat ⊕ Sb}(h:unF f (dbQ [(.mt m,t)]) .mt=some o):(db [] t=.mt m/\o=.inr .mt)\/(∃n,db [] t=.mt n/\n≠m/\o=.inr (upd (max m n) (.mt (min m n)) .mt)) \/
  ((∀n,db [] t≠.mt n)/\((bad m (db [] t)≠0/\o=.inl (bad m (db [] t)))\/(bad m (db [] t)=0/\o=.inr (upd m (db [] t) .mt)))):=by
 have hq:dbQ [(.mt m,t)]=[(.mt m,db [] t)]:=by unfold dbQ;rw[List.map_cons,List.map_nil];simp only[db]
 rw[hq]at h
 cases f with
 |zero=>rw[unF]at h;cases h
 |succ f =>
  rw[unF,zby,zby]at h
  have fin:∀(k:Sb),unF f [] k=some o->o=.inr k:=λk h=>by
   cases f with
   |zero=>rw[unF]at h;cases h
   |succ f=>rw[unF]at h;injection h with h;exact h.symm
  by_cases hm:∃n,db [] t=.mt n
  ·obtain⟨n,hn⟩:=hm
   rw[hn]at h ⊢
   by_cases e:m=n
   ·subst e
    rw[act,if_pos rfl]at h
    exact .inl ⟨rfl,fin _ h⟩
   ·refine .inr (.inl ⟨n,rfl,λh=>e h.symm,?_⟩)
    rw[act,if_neg e]at h
    by_cases hlt:n<m
    ·rw[if_pos hlt]at h
     simp only at h;rw[if_pos ((zbP _ _).2 ⟨by rw[MtOcc];omega,zaM _⟩)]at h
     rw[show max m n=m by omega,show min m n=n by omega]
     exact fin _ h
    ·rw[if_neg hlt]at h
     simp only at h;rw[if_pos ((zbP _ _).2 ⟨by rw[MtOcc];omega,zaM _⟩)]at h
     rw[show max m n=n by omega,show min m n=m by omega]
     exact fin _ h
  ·have hne:∀n,db [] t≠.mt n:=λn hn=>hm ⟨n,hn⟩
   refine .inr (.inr ⟨hne,?_⟩);have ha:act (.mt m) (db [] t)=.learn m (db [] t):=by
    cases hd:db [] t with
    |mt n=>exact absurd hd (hne n)
    |_=>rw[act] <;> simp
   rw[ha]at h
   simp only at h;by_cases hb:bad m (db [] t)=0
   ·rw[if_pos hb]at h
    exact .inr ⟨hb,fin _ h⟩
   ·rw[if_neg hb]at h
    injection h with h;exact .inl ⟨hb,h.symm⟩
theorem zon(m:Nat)(t:Dt)(n:Nat):upd m t .mt n=if n=m then t else .mt n:=by
 unfold upd;rw[zaw]
 unfold fil;rfl
theorem zh1 {m:Nat} {d:Dt} {l:List (Nat × Ty)}(hd:d≠.mt m)(h:Told (upd m d .mt) l):l=[(m,toTy d)]:=by
 refine h.uniq ⟨by simp,λn t=>?_⟩;rw[zon]
 by_cases e:n=m
 ·subst e
  simp[hd]
 ·simp[e]
def OneAns(t u:Ty)(o:List UInt8):Prop :=
 (∃f m,unF f (dbQ [(t,u)]) .mt=some (.inl m)/\o=dec m)\/∃f k l,unF f (dbQ [(t,u)]) .mt=some (.inr k)/\Told k l/\l.length<=100/\(∀e∈l,e.2.size<=1000)/\o=48::za5 l
def oneG(f:Nat)(ns:List Nat)(l r:List UInt8):Option (List UInt8) :=
 match parse l,parse r with
 |.ok t,.ok u=>if(metQ (dbQ [(t,u)])).all (λn=>ns.contains n) then
   match unF f (dbQ [(t,u)]) .mt with
   |some (.inl m)=>some (dec m)
   |some (.inr k)=>if(knOf k ns).length<=100/\(knOf k ns).all (λe=>decide (e.2.size<=1000)) then some (48::za5 (knOf k ns)) else none
   |none=>none
  else none
 |_,_=>none
theorem znf {f:Nat} {ns:List Nat} {l r o:List UInt8}(h:oneG f ns l r=some o)(hn:ns.Pairwise (· < ·)):∃t u,parse l=.ok t/\parse r=.ok u/\OneAns t u o:=by
 unfold oneG at h;split at h
 ·rename_i t u ht hu
  refine⟨t,u,ht,hu,?_⟩;split at h
  ·rename_i hm
   split at h
   ·rename_i m hf
    injection h with h;exact .inl ⟨f,m,hf,h.symm⟩
   ·rename_i k hf
    split at h
    ·rename_i hs
     injection h with h;refine .inr ⟨f,k,_,hf,zlw hf ns hn hm,hs.1,λe he=>?_,h.symm⟩;simpa using List.all_eq_true.1 hs.2 e he
    ·cases h
   ·cases h
  ·cases h
 ·cases h
end Go.Proofs.YtfafilmklhnngaaGreatDoor
namespace Go.Proofs.YtfafilmklhnngaaGreatDoor
open Go.RowKit Lx Tx Go.Maps Go.WideMaps
set_option maxRecDepth 100000
theorem zm9(b mk ql qr:Nat)(c4:Value)(c0 c1 c2:Value)(K:Nat->Option Nat)(hd:Nat->Nat)(w:World)
  (hb:Blk w b 85 #[c0,c1,c2,.map (some mk),c4])(hk:Knw w mk K hd)(hl:LaidQ w ql)(hr:LaidQ w qr)(hhl:LaidQ w (hd ql))(hhr:LaidQ w (hd qr))(G:Nat->Option Nd)(D:Nat->Dy)(hpd:PartsD w G D)(x y:Nd)(hx:G (hd ql)=some x)(hy:G (hd qr)=some y)(hne:hd ql≠hd qr)(hm:x.kd=5)(hft:fitB x y=true)(lc rc:Nat)(xl yr:Nd)(hcl:x.con=some lc/\G lc=some xl/\hd lc=lc)(hcr:y.con=some rc/\G rc=some yr/\hd rc=rc)(hlr:lc≠rc)(B:Nat)(stk:List Eqn)(hB:B<=w.heap.size)(ho:w.ownsRow B 78 3 c0 stk.length (eqCells stk))(hn:stk.length+x.kids.length+1<=1000000):Calls Tryz.prog 36 #[.pointer (some ⟨b,0,none⟩),.agg #[.pointer (some ⟨ql,0,none⟩),.pointer (some ⟨qr,0,none⟩),.bool false]] w λr w'=>r=.returned (.int .i64 0)/\WkP b mk B c0 c1 c2 c4 G D (hdL hd lc rc) (stk++(zax x.kids y.kids++[(⟨hd ql,hd qr,true⟩:Eqn)]).reverse) w w':=by
 have HNE:=hidE hne;have HID:Hid (hd (hd ql)=hd ql/\hd (hd qr)=hd qr):=hidE ⟨hk.idem _,hk.idem _⟩;have HPD:=hidE hpd;have HNM:Hid (∀(g:Nat) (cs:Array Value) (t:TypeId),w.heap[g]?=some (.cells cs t (0,0))->¬only mk g):=hidE λg cs t hg e=>by
  have e:g=mk:=e;rw[e]at hg
  exact MapK.no hk.mp hg
 have HX:=hidE hx;have HY:=hidE hy;have HM:=hidE hm;have HFT:=hidE hft;have HO:=hidE ho;have HBB:=hidE hB;have HN:=hidE hn;have HCL:=hidE hcl;have HCR:=hidE hcr;have HLR:=hidE hlr;clear hm hft ho hB hn hcl hcr hlr;clear hne hpd hx hy;have hmk:mk<w.heap.size:=MapK.lt hk.mp;have h1:WkI b w.heap.size mk ql qr false c0 c1 c2 c4 hd w (w.alloc (.cells #[.pointer (some ⟨ql,0,none⟩),.pointer (some ⟨qr,0,none⟩),.bool false] 78)):=by
  have hbb:∀g,g<w.heap.size->(w.alloc (.cells #[.pointer (some ⟨ql,0,none⟩),.pointer (some ⟨qr,0,none⟩),.bool false] 78)).heap[g]?=w.heap[g]?:=λg hg=>Below.heap_alloc _ _ _ hg;have hla:∀x,LaidQ w x->LaidQ (w.alloc (.cells #[.pointer (some ⟨ql,0,none⟩),.pointer (some ⟨qr,0,none⟩),.bool false] 78)) x:=λx ⟨cs,hx⟩=>⟨cs,(hbb x (Array.getElem?_eq_some_iff.1 hx).1).trans hx⟩;exact⟨hb.alloc _,heap_alloc_new _ _,⟨K,hk.keep (hbb _ hmk) hla⟩,hla _ hl,hla _ hr,hla _ hhl,hla _ hhr,(Chg.refl _ _).alloc _⟩
 obtain⟨w1,hw1⟩:∃W,w.alloc (.cells #[.pointer (some ⟨ql,0,none⟩),.pointer (some ⟨qr,0,none⟩),.bool false] 78)=W:=⟨_,rfl⟩;rw[hw1]at h1
 obtain⟨z0,z1,z2,zl⟩:=h1.drew.facts;have HL0:=hidE (h1.drew.head ql h1.ll);have HR0:=hidE (h1.drew.head qr h1.lr);have HW1:=hidE hw1;clear hb hk hl hr hhl hhr hmk h1 hw1;go_enter Tryz.func36,Tryz.ntmps36
 go_upto_region 1 with fail
 rw[HW1.out]
 go_cut [5,6] from 7 to 14 (λv5 v6 wx=>v5=.pointer (some ⟨hd ql,0,none⟩)/\v6=.pointer (some ⟨hd qr,0,none⟩)/\Hid (WkI b w.heap.size mk ql qr false c0 c1 c2 c4 hd w wx))
 case first =>
  go_region_law (first
   |(go_simp;(with_reducible refine HL0.out.mono ?_);rintro r w5 ⟨rfl,hw5⟩;obtain⟨y0,y1,y2,yl⟩:=hw5.facts;have HR5:=hidE (hw5.head qr hw5.lr);clear hw5)
   |(go_simp;(with_reducible refine HR0.out.mono ?_);rintro r w5 ⟨rfl,hw5⟩;obtain⟨y0,y1,y2,yl⟩:=hw5.facts;have HL5:=hidE (hw5.head ql hw5.ll);clear hw5)
   |(go_simp;(with_reducible refine HR5.out.mono ?_);rintro r w6 ⟨rfl,hw6⟩;obtain⟨x0,x1,x2,xl⟩:=hw6.facts;have HW6:=hidE hw6;clear hw6)
   |(go_simp;(with_reducible refine HL5.out.mono ?_);rintro r w6 ⟨rfl,hw6⟩;obtain⟨x0,x1,x2,xl⟩:=hw6.facts;have HW6:=hidE hw6;clear hw6))
  all_goals
   go_wp2_with fail
   go_meet
   case rel=>exact⟨rfl,rfl,HW6⟩
 case rest =>
  rename World=>V0;obtain⟨rfl,rfl,hw⟩:=hcut;have hwo:=hw.out;have heq:=zcf hwo.hl hwo.hr;rw[decide_eq_false HNE.out]at heq
  obtain⟨K5,hk5⟩:=hwo.kn;obtain⟨z0,z1,z2,zl⟩:=hwo.facts;have hpd0:PartsD V0 G D:=HPD.out.same λk hk ⟨cs,t,hx⟩=>hwo.ch.block k hk (HNM.out k cs t hx);obtain⟨A1,cc1,p0,-,-,-,-,-,-⟩:=(hpd0 _ x HX.out).facts;obtain⟨A2,cc2,q0,-,-,-,-,-,-⟩:=(hpd0 _ y HY.out).facts;have lp:=(hpd0 _ x HX.out).lt;have lq:=(hpd0 _ y HY.out).lt;obtain⟨kx,hkx⟩:∃k,x.kd=k:=⟨_,rfl⟩;obtain⟨ky,hky⟩:∃k,y.kd=k:=⟨_,rfl⟩;rw[hkx]at p0
  rw[hky]at q0
  have hft:=zgb (hd ql) (hd qr) x y _ _ V0 (hpd0 _ x HX.out) (hpd0 _ y HY.out);rw[HFT.out]at hft
  have HFI:=hidE hft;have HWO:=hidE hwo;have HP0:=hidE hpd0;have HK5:=hidE hk5;have hm:kx=5:=by rw[<-hkx];exact HM.out
  have hm2:ky=5:=by
   have h:=HFT.out;unfold fitB at h;simp only[Bool.and_eq_true,beq_iff_eq]at h;rw[<-hky,<-h.1.1.1,hkx,hm]
  have e2:((kx:Int)==2)=false:=by rw[hm];rfl
  have e3:((ky:Int)==2)=false:=by rw[hm2];rfl
  have e5:((kx:Int)==5)=true:=by rw[hm];rfl
  have HKX:=hidE hkx;clear hft hwo hk5 hpd0 hw HL0 HR0 hkx hky hm hm2;go_wp2_with fail
  refine HFI.out.mono ?_;rintro e wf ⟨rfl,hbf,hsf⟩;have hpdf:PartsD wf G D:=HP0.out.same λk hk _=>hbf.block k hk;obtain⟨A3,cc3,r0,-,-,-,r5,-,-⟩:=(hpdf _ x HX.out).facts;obtain⟨A4,cc4,-,-,-,-,t5,-,-⟩:=(hpdf _ y HY.out).facts;rw[HKX.out]at r0
  rw[HCL.out.1]at r5
  rw[HCR.out.1]at t5
  replace r5:wf.cell? ⟨hd ql,5,none⟩=some (.pointer (some ⟨lc,0,none⟩)):=r5;replace t5:wf.cell? ⟨hd qr,5,none⟩=some (.pointer (some ⟨rc,0,none⟩)):=t5;have lp3:=(hpdf _ x HX.out).lt;have lq3:=(hpdf _ y HY.out).lt;have hmkf:MapQ wf.drew mk K5:=MapK.keep HK5.out.mp (hbf.block mk (MapK.lt HK5.out.mp)) (λz ⟨cs,hz⟩=>⟨cs,(hbf.block z (Array.getElem?_eq_some_iff.1 hz).1).trans hz⟩);have hkf:Knw wf.drew mk K5 hd:=HK5.out.keep (hbf.block mk (MapK.lt HK5.out.mp)) (λz ⟨cs,hz⟩=>⟨cs,(hbf.block z (Array.getElem?_eq_some_iff.1 hz).1).trans hz⟩);obtain⟨w6,hrun,hm6,hg6,hs6⟩:=MapK.store hmkf keyQ Tryz.underlying83 lc rc (hpdf lc xl HCL.out.2.1).laid;have HRUN:(Instr.mapUpdate 83 (.map (some mk)) (.pointer (some ⟨lc,0,none⟩)) (.pointer (some ⟨rc,0,none⟩))).run Tryz.prog wf.drew=.ok () w6:=hrun;have sbf:Blk wf b 85 #[c0,c1,c2,.map (some mk),c4]:=HWO.out.sb.below hbf HWO.out.sb.lt;have k3:wf.cell? ⟨b,3,none⟩=some (.map (some mk)):=sbf.cell 3;have lbf:=sbf.lt;have hc6:∀(k:Nat) (cs:Array Value) (t:TypeId),wf.heap[k]?=some (.cells cs t (0,0))->w6.heap[k]?=wf.heap[k]?:=λk cs t hk=>hg6.block k (Array.getElem?_eq_some_iff.1 hk).1 (λe=>by injection e with e;rw[e]at hk;exact MapK.no hmkf hk);have hk6:Knw w6 mk (upn K5 lc (some rc)) (hdL hd lc rc):=hkf.link HCL.out.2.2 HCR.out.2.2 HLR.out (hpdf lc xl HCL.out.2.1).laid (hpdf rc yr HCR.out.2.1).laid hm6 (λz ⟨cs,hz⟩=>⟨cs,(hc6 z cs _ hz).trans hz⟩);have hpd6:PartsD w6 G D:=hpdf.same λk _ ⟨cs,t,hk⟩=>hc6 k cs t hk;have sb6:=sbf.same (hc6 _ _ _ sbf);have hfb:=ze8 HFT.out;have hpr:=zhO (hd ql) (hd qr) x y (D _) (D _) w6.drew (PartC.keep (hpd6 _ x HX.out) rfl (λ_=>rfl)) (PartC.keep (hpd6 _ y HY.out) rfl (λ_=>rfl)) hfb (by have:=HN.out;omega);have HPR:=hidE hpr;have lb6:=sb6.lt;have hof:w6.ownsRow B 78 3 c0 stk.length (eqCells stk):=zal HO.out (λg hg=>by
   obtain⟨_,hl,cur,hcur⟩:=zab HO.out g hg;have h0:=HWO.out.ch.block g hl (HNM.out g cur _ hcur);have h1:=(hbf.block g (Nat.lt_of_lt_of_le hl HWO.out.ch.size)).trans h0;exact(hc6 g cur _ (h1.trans hcur)).trans h1)
  have hch6:Chg (only mk) w w6:=((HWO.out.ch.below hbf).drew).grown hg6 (λk hk=>.inr (by injection hk with hk;exact hk.symm));have HLAY:Hid (∀(g c:Nat) (w5:World),Below w6.drew.heap.size w6.drew w5->w5.ownsRow w6.drew.heap.size 78 3 (.slice (some ⟨g,0,none⟩) (x.kids.length+1) c) (x.kids.length+1) (eqCells (zax x.kids y.kids++[(⟨hd ql,hd qr,true⟩:Eqn)])) ->
    Calls Tryz.prog 34 #[.pointer (some ⟨b,0,none⟩),.slice (some ⟨g,0,none⟩) (x.kids.length+1) c] w5 λe w'=>(∃z,e=.returned z)/\WkP b mk B c0 c1 c2 c4 G D (hdL hd lc rc) (stk++(zax x.kids y.kids++[(⟨hd ql,hd qr,true⟩:Eqn)]).reverse) w w'):=hidE (by
   intro g c w5 hb5 ho5;obtain⟨hg1,hg2,hcl⟩:=zfL ho5;have hb5':Below w6.heap.size w6 w5:=⟨hb5.os,hb5.tape,hb5.output,hb5.size,hb5.block⟩;have hg1':w6.heap.size<=g:=hg1;have hlen:(zax x.kids y.kids++[(⟨hd ql,hd qr,true⟩:Eqn)]).length=x.kids.length+1:=by rw[List.length_append,zcx _ _ hfb];rfl
   have ho5w:w5.ownsRow B 78 3 c0 stk.length (eqCells stk):=zal hof (λk hk=>hb5'.block k (zab hof k hk).2.1);have hvb:c0.ownBlock≠some b:=λe=>by
    obtain⟨_,_,cur,hcur⟩:=zab hof b e;exact Blk.ne_ (show Blk w6 b _ cur from hcur) sb6 (by decide) rfl
   have sb5:=sb6.below hb5' lb6;have hlay:=zga b B 85 #[c0,c1,c2,.map (some mk),c4] (by simp) stk (zax x.kids y.kids++[(⟨hd ql,hd qr,true⟩:Eqn)]) c0 (some ⟨g,0,none⟩) c w5 sb5 ho5w (by have:=HBB.out;have:=hb5'.size;have:=hch6.size;omega) hvb (by rw[hlen];have:=HN.out;omega) (λj q hq=>⟨g,rfl,hg2,by omega,λe=>by have:=(zab hof g e).2.1;omega,hcl j q hq⟩);rw[hlen]at hlay
   refine hlay.mono ?_;rintro e w' ⟨hz,v',d1,d2,-,-,-,d6⟩;have hchw:Chg (λk=>k=mk\/k=b\/c0.ownBlock=some k) w w':=((hch6.mono (λ_ _ h=>.inl h)).below hb5').trans' d6 (λk _ h=>.inr h);have hne6:∀(k:Nat) (cs:Array Value) (t:TypeId),w5.heap[k]?=some (.cells cs t (0,0))->t≠85->t≠78->w'.heap[k]?=w5.heap[k]?:=λk cs t hk ht1 ht2=>d6.block k (Array.getElem?_eq_some_iff.1 hk).1 (λh=>by
    rcases h with h|h
    ·exact Blk.ne_ (show Blk w5 k t cs from hk) sb5 ht1 h
    ·obtain⟨_,_,cur,hcur⟩:=zab ho5w k h
     exact Blk.ne_ (show Blk w5 k t cs from hk) (show Blk w5 k _ cur from hcur) ht2 rfl)
   have hmkl:mk<w6.heap.size:=MapK.lt hk6.mp;have hmk5:w5.heap[mk]?=w6.heap[mk]?:=hb5'.block mk hmkl;have hmk6:w'.heap[mk]?=w5.heap[mk]?:=d6.block mk (Nat.lt_of_lt_of_le hmkl hb5'.size) (λh=>by
    rcases h with h|h
    ·have h1:=sb6
     rw[<-h]at h1
     exact MapK.no hk6.mp h1
    ·obtain⟨_,_,cur,hcur⟩:=zab ho5w mk h
     rw[hmk5]at hcur
     exact MapK.no hk6.mp hcur)
   refine⟨hz,v',d1,d2,⟨_,hk6.keep (hmk6.trans hmk5) (λz ⟨cs,hzz⟩=>?_)⟩,?_,hchw⟩
   ·have h5:w5.heap[z]?=some (.cells cs 132 (0,0)):=(hb5'.block z (Array.getElem?_eq_some_iff.1 hzz).1).trans hzz
    exact⟨cs,(hne6 z cs _ h5 (by decide) (by decide)).trans h5⟩
   ·intro z nd hz2
    have h5:PartC w5 z nd (D z):=(hpd6 z nd hz2).keep (hb5'.block z (hpd6 z nd hz2).lt) (λhk=>hb5'.block _ ((hpd6 z nd hz2).row_lt hk));obtain⟨A7,c7,hb7,hr7⟩:=h5;refine PartC.keep ⟨A7,c7,hb7,hr7⟩ (hne6 z _ _ hb7 (by decide) (by decide)) (λhk=>?_);obtain⟨_,cur,hcur,_⟩:=hr7 hk;exact hne6 _ cur _ hcur (by decide) (by decide))
  clear hfb hbf hsf hpdf hpr sbf hof HFI p0 q0 lp lq z0 z1 z2 zl HWO HP0 HK5 hmkf hkf hrun hm6 hg6 hs6 hc6 hk6 hpd6 sb6 hch6;go_upto_region 12 with fail
  go_region
  all_goals
   clear HRUN r5 t5 r0 lp3 lq3 k3 lbf;go_upto_region 13 with fail
   go_region_law (first
    |(go_simp;(with_reducible refine HPR.out.mono ?_);rintro e w5 ⟨g,c,rfl,h5,ho5⟩;have HLA:=hidE (HLAY.out g c w5 h5 ho5);clear h5 ho5)
    |(go_simp;(with_reducible refine HLA.out.mono ?_);rintro e w6 ⟨⟨zz,rfl⟩,hl6⟩;have HL6:=hidE hl6;clear hl6))
   all_goals
    go_wp2_with fail
    go_ret
    exact⟨rfl,HL6.out⟩
end Go.Proofs.YtfafilmklhnngaaGreatDoor
namespace Go.Proofs.YtfafilmklhnngaaGreatDoor
open Go.RowKit Lx Tx Go.Maps Go.WideMaps
set_option maxRecDepth 100000
structure SolW (b mu mk B:Nat) (G:Nat->Option Nd) (U:Nat->Option Nat) (hd:Nat->Nat) (s:Int) (D:Nat->Dy) (mv:Value) (v:Value) (stk:List Eqn) (W:World):Prop where
 sb:Blk W b 85 #[v,mv,.map (some mu),.map (some mk),.int .i64 s]
 own:W.ownsRow B 78 3 v stk.length (eqCells stk)
 kn:∃K',Knw W mk K' hd
 pd:PartsD W G D
 mi:MapI W mu U
 lq:∀n p,U n=some p->LaidQ W p
 sr:∀q x,G q=some x->(D q).sr<=s
 fl:∀q x,G q=some x->(D q).fl=false
 da:∀q x,G q=some x->∃a m c,(D q).A=.slice a m c
 mm:mu≠mk
 hB:B<=W.heap.size
def heads(hd:Nat->Nat)(L:List Nat):Nat:=(L.filter λq=>decide (hd q=q)).length
theorem zcH {hd:Nat->Nat} {m t:Nat} {L:List Nat}(hm:hd m=m)(ht:hd t=t)(hmt:m≠t)(hL:m∈L):heads (hdL hd m t) L<heads hd L:=by
 refine zdn _ _ m L (λn hn=>?_) hL (by simpa using hm) ?_
 ·have hn:hdL hd m t n=n:=by simpa using hn
  simpa using zgg ht hn
 ·have:hdL hd m t m≠m:=by rw[zcN hm];exact Ne.symm hmt
  simpa using this
theorem ze9 {G:Nat->Option Nd} {hd:Nat->Nat} {m t:Nat}(h:∀p,hd p≠p->∃x,G p=some x)(hm:∃x,G m=some x):∀p,hdL hd m t p≠p->∃x,G p=some x:=λp hp=>by
 by_cases e:hd p=m
 ·by_cases e2:hd p=p
  ·rw[<-e2,e];exact hm
  ·exact h p e2
 ·rw[zbs e]at hp;exact h p hp
theorem Sim.nodes {G:Nat->Option Nd} {L:List Nat} {hd:Nat->Nat} {k:Sb} {q:Eqn} {r:List Eqn} {f:Nat} {o:Nat ⊕ Sb}(h:Sim G L hd k (q::r) f o):Gr G hd L/\(∃x,G q.l=some x)/\(∃x,G q.r=some x)/\(∃x,G (hd q.l)=some x)/\∃x,G (hd q.r)=some x:=by
 obtain⟨E,Eu,Ns,O,S,he,hu,hm⟩:=h;rw[EntOK]at he
 obtain⟨el,er,dl,dr,nl,nr,h1,h2,h3,-⟩:=he;obtain⟨x,hx,-⟩:=h2.node;obtain⟨y,hy,-⟩:=h3.node;exact⟨S.gr,⟨x,hx⟩,⟨y,hy⟩,S.gr.hin _ x hx,S.gr.hin _ y hy⟩
section
variable {b mu mk B:Nat} {G:Nat->Option Nd} {L:List Nat} {U:Nat->Option Nat} {hd hd':Nat->Nat} {s s':Int} {D D':Nat->Dy} {mv v v':Value} {stk stk':List Eqn} {W W':World}
theorem SolW.no(h:SolW b mu mk B G U hd s D mv v stk W) {g:Nat} {cs:Array Value} {t:TypeId}(hg:W.heap[g]?=some (.cells cs t (0,0))):g≠mk:=λe=>by
 obtain⟨K,hK⟩:=h.kn;rw[e]at hg
 exact MapK.no hK.mp hg
theorem SolW.step(h:SolW b mu mk B G U hd s D mv v stk W)(sb:Blk W' b 85 #[v',mv,.map (some mu),.map (some mk),.int .i64 s'])(own:W'.ownsRow B 78 3 v' stk'.length (eqCells stk'))(kn:∃K',Knw W' mk K' hd')
  (pd:PartsD W' G D')(hc:Chg (λg=>g=mk\/g=b\/(∃x,G g=some x)\/v.ownBlock=some g) W W')(sr:∀q x,G q=some x->(D' q).sr<=s')(fl:∀q x,G q=some x->(D' q).fl=false)(da:∀q x,G q=some x->∃a m c,(D' q).A=.slice a m c):SolW b mu mk B G U hd' s' D' mv v' stk' W' where
 sb:=sb
 own:=own
 kn:=kn
 pd:=pd
 mi:=MapK.keep h.mi (hc.block _ (MapK.lt h.mi) (by
  rintro(e|e|⟨x,e⟩|e)
  ·exact h.mm e
  ·have:=h.sb;rw[<-e]at this;exact MapK.no h.mi this
  ·obtain⟨A,c,hb,_⟩:=h.pd _ x e;exact MapK.no h.mi hb
  ·obtain⟨_,_,cur,hcur⟩:=zab h.own _ e;exact MapK.no h.mi hcur)) (λ_ h=>h)
 lq n p hn:=by
  cases hG:G p with
  |some x=>exact(pd p x hG).laid
  |none =>
   obtain⟨cs,hx⟩:=h.lq n p hn;refine⟨cs,(hc.block p (Array.getElem?_eq_some_iff.1 hx).1 ?_).trans hx⟩;rintro(e|e|⟨x,e⟩|e)
   ·exact h.no hx e
   ·exact Blk.ne_ (show Blk W p _ cs from hx) h.sb (by decide) e
   ·rw[hG]at e;cases e
   ·obtain⟨_,_,cur,hcur⟩:=zab h.own _ e
    exact Blk.ne_ (show Blk W p _ cs from hx) (show Blk W p _ cur from hcur) (by decide) rfl
 sr:=sr
 fl:=fl
 da:=da
 mm:=h.mm
 hB:=Nat.le_trans h.hB hc.size
theorem SolW.row(h:SolW b mu mk B G U hd s D mv v stk W)(hc:Chg (λg=>g=mk\/g=b\/∃x,G g=some x) W W'):W'.ownsRow B 78 3 v stk.length (eqCells stk):=zal h.own λg hg=>by
 obtain⟨_,hl,cur,hcur⟩:=zab h.own g hg;refine hc.block g hl ?_;rintro(e|e|⟨x,e⟩)
 ·exact h.no hcur e
 ·exact Blk.ne_ (show Blk W g _ cur from hcur) h.sb (by decide) e
 ·obtain⟨A,c,hb,_⟩:=h.pd _ x e
  exact Blk.ne_ (show Blk W g _ cur from hcur) hb (by decide) rfl
end
def RndQ(b mu mk B:Nat)(G:Nat->Option Nd)(L:List Nat)(U:Nat->Option Nat)(mv:Value)(C N0 M:Nat)(o:Nat ⊕ Sb)(r:Int)(W':World):Prop :=
 (r=0/\∃hd k f stk s D v,msr f stk.reverse<M/\Sim G L hd k stk.reverse f o/\StkS G k [] stk.reverse/\StkN G C 0 stk.reverse/\SolW b mu mk B G U hd s D mv v stk W'/\0<=s/\s+(heads hd L:Nat)<=N0/\(∀p,hd p≠p->∃x,G p=some x))\/(0<r/\o=.inl r.toNat)
theorem zna(b mu mk B:Nat)(G:Nat->Option Nd)(L:List Nat)(U:Nat->Option Nat)(hd:Nat->Nat)(k:Sb)(s:Int)(D:Nat->Dy)(mv v:Value)(stk:List Eqn)(q:Eqn)(f C N0:Nat)(o:Nat ⊕ Sb)(W:World)
  (gs:GrS G)(hS:Sim G L hd k (q::stk.reverse) f o)(h1:StkS G k [] (q::stk.reverse))(h2:StkN G C 0 (q::stk.reverse))(hw:SolW b mu mk B G U hd s D mv v stk W)(hs0:0<=s)(hs:s+(heads hd L:Nat)<=N0)(hN0:N0<=1000000)(hwt:1+C+wg G [] L<=1000000)(hup0:∀p,hd p≠p->∃x,G p=some x):Calls Tryz.prog 36 #[.pointer (some ⟨b,0,none⟩),.agg #[.pointer (some ⟨q.l,0,none⟩),.pointer (some ⟨q.r,0,none⟩),.bool q.d]] W λe W'=>∃r,e=.returned (.int .i64 r)/\RndQ b mu mk B G L U mv C N0 (msr f (q::stk.reverse)) o r W'/\Chg (λg=>g=mk\/g=b\/(∃x,G g=some x)\/v.ownBlock=some g) W W':=by
 obtain⟨hg,⟨nl,hnl⟩,⟨nr,hnr⟩,⟨x,hx⟩,⟨y,hy⟩⟩:=hS.nodes;obtain⟨K,hK⟩:=hw.kn;have lql:=(hw.pd _ _ hnl).laid;have lqr:=(hw.pd _ _ hnr).laid;have lhl:=(hw.pd _ _ hx).laid;have lhr:=(hw.pd _ _ hy).laid;have hmk:∀ {W':World},Chg (only mk) W W'->Chg (λg=>g=mk\/g=b\/∃x,G g=some x) W W':=λh=>h.mono λ_ _ e=>.inl e;have hup:∀ {W':World},Chg (λg=>g=mk\/g=b\/∃x,G g=some x) W W'->Chg (λg=>g=mk\/g=b\/(∃x,G g=some x)\/v.ownBlock=some g) W W':=λh=>h.mono λ_ _ e=>by
  rcases e with e|e|e
  ·exact .inl e
  ·exact .inr (.inl e)
  ·exact .inr (.inr (.inl e))
 have hpdk:∀ {W':World},Chg (only mk) W W'->PartsD W' G D:=λh=>hw.pd.same λg hl ⟨cs,t,hc⟩=>h.block g hl (hw.no hc);have hsbk:∀ {W':World},Chg (only mk) W W'->Blk W' b 85 #[v,mv,.map (some mu),.map (some mk),.int .i64 s]:=λh=>hw.sb.same (h.block _ hw.sb.lt (hw.no hw.sb));by_cases heq:hd q.l=hd q.r
 ·
  refine(zm4 b mk q.l q.r q.d (.int .i64 s) v mv (.map (some mu)) K hd W hw.sb hK lql lqr lhl lhr heq).mono ?_;rintro e W' ⟨rfl,ee,hk⟩;obtain⟨f',hm,hs'⟩:=hS.same heq;refine⟨0,rfl,.inl ⟨rfl,hd,k,f',stk,s,D,v,hm,hs',h1.pop,h2.pop,hw.step hk.sb (hw.row (hmk hk.ch)) hk.kn (hpdk hk.ch) (hup (hmk hk.ch)) hw.sr hw.fl hw.da,hs0,hs,hup0⟩,hup (hmk hk.ch)⟩
 ·cases hq:q.d with
  |true =>
   refine(zm5 b mk q.l q.r (.int .i64 s) v mv (.map (some mu)) K hd W hw.sb hK lql lqr lhl lhr heq).mono ?_;rintro e W' ⟨rfl,hsb,hkn,hc⟩;obtain⟨hm,hs'⟩:=hS.done hq heq;have hlt:=zcH (hg.idm q.l) (hg.idm q.r) heq (hg.all _ x hx);exact⟨0,rfl,.inl ⟨rfl,_,k,f,stk,s,D,v,hm,hs',h1.pop,h2.pop,hw.step hsb (hw.row (hmk hc)) hkn (hpdk hc) (hup (hmk hc)) hw.sr hw.fl hw.da,hs0,by omega,ze9 hup0 ⟨x,hx⟩⟩,hup (hmk hc)⟩
  |false =>
   by_cases hu:x.kd=2\/y.kd=2
   ·
    have hNs:s<1000000000000:=by omega
    refine(zm6 b mk q.l q.r s v mv (.map (some mu)) K hd W hw.sb hK lql lqr lhl lhr G D L hw.pd hg hw.sr x y hx hy heq hu (by omega) hs0 hNs).mono ?_;rintro e W' ⟨r,Vs,rfl,hag,hsb,hkn,hpd,hc⟩;obtain⟨c1,c2⟩:=hS.learn gs hq heq hx hy hu hag;refine⟨r,rfl,?_,hup hc⟩;by_cases hr:r=0
    ·subst hr
     obtain⟨f',k',hm,⟨j,u,rfl⟩,hs'⟩:=c1 rfl;rw[if_pos rfl]at hkn
     have hlt:heads (hdL hd (lrn (hd q.l) (hd q.r) x y).1 (lrn (hd q.l) (hd q.r) x y).2) L<heads hd L:=by
      unfold lrn;split
      ·exact zcH (hg.idm q.r) (hg.idm q.l) (Ne.symm heq) (hg.all _ y hy)
      ·exact zcH (hg.idm q.l) (hg.idm q.r) heq (hg.all _ x hx)
     refine .inl ⟨rfl,_,_,f',stk,s+1,dV D (s+1) Vs,v,hm,hs',h1.pop.upd j u,h2.pop,hw.step hsb (hw.row hc) hkn hpd (hup hc) (λz xz hz=>?_) (λz xz hz=>?_) (λz xz hz=>?_),by omega,by omega,ze9 hup0 ?_⟩
     ·have:=hw.sr z xz hz
      unfold dV;split
      ·exact Int.le_refl _
      ·omega
     ·unfold dV
      split
      ·exact hw.fl z xz hz
      ·exact hw.fl z xz hz
     ·unfold dV
      split
      ·exact hw.da z xz hz
      ·exact hw.da z xz hz
     ·unfold lrn
      split
      ·exact⟨y,hy⟩
      ·exact⟨x,hx⟩
    ·refine .inr ⟨?_,c2 hr⟩
     rcases hag with⟨h,_⟩|⟨_,⟨h,_⟩|⟨_,⟨h,_⟩|⟨h,_⟩⟩⟩ <;> omega
   ·have hu1:x.kd≠2:=λe=>hu (.inl e)
    have hu2:y.kd≠2:=λe=>hu (.inr e);cases hf:fitB x y with
    |false =>
     refine(zm7 b mk q.l q.r (.int .i64 s) v mv (.map (some mu)) K hd W hw.sb hK lql lqr lhl lhr G D hw.pd x y hx hy heq ⟨hu1,hu2⟩ hf).mono ?_;rintro e W' ⟨rfl,hsb,hkn,hpd,hc⟩;exact⟨40,rfl,.inr ⟨by decide,hS.clash gs hq heq hx hy ⟨hu1,hu2⟩ hf⟩,hup (hmk hc)⟩
    |true =>
     have hlen:=ze8 hf;obtain⟨s1,n1⟩:=hS.stk hq hx hlen h1 h2;have hsl:=s1.len n1 hg.all;have hle:stk.length+x.kids.length+1<=1000000:=by
      rw[List.length_append,zcx _ _ hlen,List.length_cons,List.length_reverse]at hsl
      omega
     have hrev:(stk++(zax x.kids y.kids++[(⟨hd q.l,hd q.r,true⟩:Eqn)]).reverse).reverse=zax x.kids y.kids++⟨hd q.l,hd q.r,true⟩::stk.reverse:=by
      rw[List.reverse_append,List.reverse_reverse,List.append_assoc];rfl
     have hup2:∀ {W':World},Chg (λg=>g=mk\/g=b\/v.ownBlock=some g) W W'->Chg (λg=>g=mk\/g=b\/(∃x,G g=some x)\/v.ownBlock=some g) W W':=λh=>h.mono λ_ _ e=>by
      rcases e with e|e|e
      ·exact .inl e
      ·exact .inr (.inl e)
      ·exact .inr (.inr (.inr e))
     by_cases h5:x.kd=5
     ·obtain⟨lc,rc,xl,yr,a1,a2,a3,a4,a5,a6,a7,f',hm,hs'⟩:=hS.open_ hq hx hy h5 hf
      refine(zm9 b mk q.l q.r (.int .i64 s) v mv (.map (some mu)) K hd W hw.sb hK lql lqr lhl lhr G D hw.pd x y hx hy heq h5 hf lc rc xl yr ⟨a1,a2,a3⟩ ⟨a4,a5,a6⟩ a7 B stk hw.hB hw.own hle).mono ?_;rintro e W' ⟨rfl,v',hsb,hown,hkn,hpd,hc⟩;have hlt:=zcH a3 a6 a7 (hg.all _ xl a2);rw[<-hrev]at s1 n1 hs' hm
      exact⟨0,rfl,.inl ⟨rfl,_,k,f',_,s,D,v',hm,hs',s1,n1,hw.step hsb hown hkn hpd (hup2 hc) hw.sr hw.fl hw.da,hs0,by omega,ze9 hup0 ⟨xl,a2⟩⟩,hup2 hc⟩
     ·obtain⟨f',hm,hs'⟩:=hS.push hq hx hy ⟨hu1,hu2,h5⟩ hf
      refine(zm8 b mk q.l q.r (.int .i64 s) v mv (.map (some mu)) K hd W hw.sb hK lql lqr lhl lhr G D hw.pd x y hx hy heq ⟨hu1,hu2,h5⟩ hf B stk hw.hB hw.own hle).mono ?_;rintro e W' ⟨rfl,v',hsb,hown,hkn,hpd,hc⟩;rw[<-hrev]at s1 n1 hs' hm
      exact⟨0,rfl,.inl ⟨rfl,_,k,f',_,s,D,v',hm,hs',s1,n1,hw.step hsb hown hkn hpd (hup2 hc) hw.sr hw.fl hw.da,hs0,hs,hup0⟩,hup2 hc⟩
def ndOf(G:Nat->Option Nd)(h:Nat):Nd:=(G h).getD ⟨0,⟨#[]⟩,0,[],none,false⟩
def tyCells(G:Nat->Option Nd)(D:Nat->Dy):List Nat->List Value
 |[]=>[]
 |h::r=>.int .i64 ((ndOf G h).kd:Nat)::.string (ndOf G h).nm::.int .i64 ((ndOf G h).n:Nat)::(D h).A::tyCells G D r
theorem zdl(G:Nat->Option Nd)(D:Nat->Dy):(l r:List Nat)->tyCells G D (l++r)=tyCells G D l++tyCells G D r
 |[],r=>rfl
 |h::l,r=>by rw[List.cons_append,tyCells,tyCells,zdl G D l r];rfl
def zaK(D:Nat->Dy)(l:List Nat):List Nat:=l.filter λh=>!(D h).fl
theorem infoTy:(Tryz.prog.info? 37).map (λi=>(i.zero,i.size,i.bytes))=some (some (.agg #[.int .i64 0,.string ⟨#[]⟩,.int .i64 0,.slice none 0 0]),4,56):=by kernel_rfl
structure FaI (b mk:Nat) (c0 c1 c2 c4:Value) (G:Nat->Option Nd) (D:Nat->Dy) (hd:Nat->Nat) (w wr:World):Prop where
 sb:Blk wr b 85 #[c0,c1,c2,.map (some mk),c4]
 kn:∃K',Knw wr mk K' hd
 pd:PartsD wr G D
 ch:Chg (only mk) w wr
theorem FaI.below {b mk:Nat} {c0 c1 c2 c4:Value} {G:Nat->Option Nd} {D:Nat->Dy} {hd:Nat->Nat} {w wr w':World}(h:FaI b mk c0 c1 c2 c4 G D hd w wr)(hk:∀(g:Nat),g<w.heap.size->w'.heap[g]?=wr.heap[g]?)(hl:∀g,G g≠none->g<w.heap.size)(hr:∀q x,G q=some x->x.kids≠[]->(D q).row<w.heap.size)(hb:b<w.heap.size)(hm:mk<w.heap.size)(hla:∀x,LaidQ wr x->LaidQ w' x)(hc:Chg (only mk) w w'):FaI b mk c0 c1 c2 c4 G D hd w w' :=
 ⟨h.sb.same (hk _ hb),by obtain⟨K,hK⟩:=h.kn;exact⟨K,hK.keep (hk _ hm) hla⟩,h.pd.but (λq x hx=>hk _ (hl q (by rw[hx];simp))) (λq x hx hn=>hk _ (hr q x hx hn)),hc⟩
def HeadFa(b mk:Nat)(c0 c1 c2 c4:Value)(G:Nat->Option Nd)(D:Nat->Dy)(hd:Nat->Nat)(kids:List Nat)(w:World)(n gg:Nat)(v4 v5 vi:Value)(wr:World):Prop :=
 ∃i:Nat,gg=n-i/\vi=.int .i64 i/\i<=n/\wr.ownsRow w.heap.size 37 4 v4 i (tyCells G D ((kids.take i).map hd))/\wr.ownsRow w.heap.size 75 1 v5 (zaK D ((kids.take i).map hd)).length ((zaK D ((kids.take i).map hd)).map PK) /\
  FaI b mk c0 c1 c2 c4 G D hd w wr
structure FilM (b mk lo:Nat) (c0 c1 c2 c4:Value) (G:Nat->Option Nd) (k:Sb) (hd:Nat->Nat) (T:Nat->Prop) (D:Nat->Dy) (W:World):Prop where
 sb:Blk W b 85 #[c0,c1,c2,.map (some mk),c4]
 kn:∃K',Knw W mk K' hd
 pd:PartsD W G D
 fd:∀q x,G q=some x->(D q).fl=true->FV G q/\hd q=q/\∃A c,(D q).A=.slice A x.kids.length c/\Args T W (toTy (tv G k q)) A
 da:∀q x,G q=some x->∃a m c,(D q).A=.slice a m c
 tt:∀g,T g->lo<=g/\∃cur,W.heap[g]?=some (.cells cur 37 (0,0))
 lb:b<lo/\mk<lo/\(∀q x,G q=some x->q<lo)/\(∀q x,G q=some x->x.kids≠[]->(D q).row<lo)
 ls:lo<=W.heap.size
section
variable {b mk lo:Nat} {c0 c1 c2 c4:Value} {G:Nat->Option Nd} {L:List Nat} {k:Sb} {hd:Nat->Nat} {T T':Nat->Prop} {D:Nat->Dy} {W W':World} {Ns O:List Nat}
theorem FilM.keep(h:FilM b mk lo c0 c1 c2 c4 G k hd T D W)(hb:∀g,g<lo->W'.heap[g]?=W.heap[g]?)(hT:∀g,T g->W'.heap[g]?=W.heap[g]?)(hl:∀x,LaidQ W x->LaidQ W' x)(hs:W.heap.size<=W'.heap.size):FilM b mk lo c0 c1 c2 c4 G k hd T D W' where
 sb:=h.sb.same (hb _ h.lb.1)
 kn:=by obtain⟨K,hK⟩:=h.kn;exact⟨K,hK.keep (hb _ h.lb.2.1) hl⟩
 pd:=h.pd.but (λq x hx=>hb _ (h.lb.2.2.1 q x hx)) (λq x hx hn=>hb _ (h.lb.2.2.2 q x hx hn))
 fd q x hx hf:=by
  obtain⟨h1,h2,A,c,h3,h4⟩:=h.fd q x hx hf;exact⟨h1,h2,A,c,h3,h4.keep (λ_ h=>h) hT⟩
 da:=h.da
 tt g hg:=by
  obtain⟨h1,cur,h2⟩:=h.tt g hg;exact⟨h1,cur,(hT g hg).trans h2⟩
 lb:=h.lb
 ls:=Nat.le_trans h.ls hs
theorem FilM.head(h:FilM b mk lo c0 c1 c2 c4 G k hd T D W)(hc:Chg (only mk) W W')(hk:∃K',Knw W' mk K' hd):FilM b mk lo c0 c1 c2 c4 G k hd T D W':=by
 obtain⟨K,hK⟩:=h.kn;have hne:∀(g:Nat) (cs:Array Value) (t:TypeId),W.heap[g]?=some (.cells cs t (0,0))->W'.heap[g]?=W.heap[g]?:=λg cs t hg=>hc.block g (Array.getElem?_eq_some_iff.1 hg).1 (λe=>by
  have e:g=mk:=e;rw[e]at hg
  exact MapK.no hK.mp hg)
 have hT:∀g,T g->W'.heap[g]?=W.heap[g]?:=λg hg=>by obtain⟨_,cur,hcur⟩:=h.tt g hg;exact hne g cur _ hcur
 exact⟨h.sb.same (hne _ _ _ h.sb),hk,h.pd.same λg _ ⟨cs,t,hg⟩=>hne g cs t hg,λq x hx hf=>by
  obtain⟨h1,h2,A,c,h3,h4⟩:=h.fd q x hx hf;exact⟨h1,h2,A,c,h3,h4.keep (λ_ h=>h) hT⟩,h.da,λg hg=>by
  obtain⟨h1,cur,h2⟩:=h.tt g hg;exact⟨h1,cur,(hT g hg).trans h2⟩,h.lb,Nat.le_trans h.ls hc.size⟩
theorem FilM.rows(h:FilM b mk lo c0 c1 c2 c4 G k hd T D W)(S:HdS G L hd k Ns O):(l:List Nat)->(∀q∈l,(∃x,G q=some x)/\(D q).fl=true)->TyRow T W (l.map λq=>toTy (tv G k q)) (tyCells G D l)
 |[],_=>by rw[List.map_nil,TyRow,tyCells]
 |q::l,hl=>by
  obtain⟨⟨x,hx⟩,hf⟩:=hl q (by simp);obtain⟨h1,h2,A,c,h3,h4⟩:=h.fd q x hx hf;obtain⟨t1,t2,t3,t4,-,-⟩:=S.tv_node h1 h2 hx;rw[List.map_cons,TyRow]
  refine⟨A,c,tyCells G D l,?_,h4,FilM.rows h S l λz hz=>hl z (by simp[hz])⟩;have hnd:ndOf G q=x:=by unfold ndOf;rw[hx];rfl
  rw[tyCells,hnd,h3,t1,t2,t3]
  unfold tyV;rw[t4,List.length_map]
  rfl
theorem FilM.fill(h:FilM b mk lo c0 c1 c2 c4 G k hd T D W)(S:HdS G L hd k Ns O) {q:Nat} {x:Nd}(hx:G q=some x)(hf:FV G q)(hq:hd q=q)(hall:∀c∈x.kids,(D (hd c)).fl=true) {B:Nat} {A:Option Addr} {c:Nat}(hB:lo<=B)
  (ho:W.ownsRow B 37 4 (.slice A x.kids.length c) x.kids.length (tyCells G D (x.kids.map hd))):FilM b mk lo c0 c1 c2 c4 G k hd (λg=>T g\/(Value.slice A x.kids.length c).ownBlock=some g) (upn D q { D q with A:=.slice A x.kids.length c,fl:=true }) ((W.setCell ⟨q,3,none⟩ (.slice A x.kids.length c)).setCell ⟨q,7,none⟩ (.bool true)):=by
 obtain⟨W2,hW2⟩:∃X,(W.setCell ⟨q,3,none⟩ (.slice A x.kids.length c)).setCell ⟨q,7,none⟩ (.bool true)=X:=⟨_,rfl⟩;rw[hW2]
 have hne:∀g,g≠q->W2.heap[g]?=W.heap[g]?:=λg hg=>by
  rw[<-hW2]
  exact(Below.heap_setCell _ _ _ _ hg).trans (Below.heap_setCell _ _ _ _ hg)
 have hqlo:=h.lb.2.2.1 q x hx;have hTq:∀g,T g->g≠q:=λg hg e=>by have:=(h.tt g hg).1;omega
 have hown:∀g,(Value.slice A x.kids.length c).ownBlock=some g->lo<=g/\∃cur,W.heap[g]?=some (.cells cur 37 (0,0)):=λg hg=>by
  obtain⟨h1,_,cur,hcur⟩:=zab ho g hg;exact⟨by omega,cur,hcur⟩
 have hs2:W2.heap.size=W.heap.size:=by rw[<-hW2];simp
 obtain⟨A0,c9,hb0,hr0⟩:=h.pd q x hx;have hbq:Blk W2 q 132 #[.int .i64 (x.kd:Nat),.string x.nm,.int .i64 (x.n:Nat),.slice A x.kids.length c,.slice A0 x.kids.length c9,optV x.con,.bool x.new,.bool true,.int .i64 (D q).sr]:=by
  rw[<-hW2]
  exact heap_setCell_same _ q 7 _ _ (.bool true) (heap_setCell_same W q 3 _ _ (.slice A x.kids.length c) hb0)
 obtain⟨K,hK⟩:=h.kn;have hmq:mk≠q:=λe=>by rw[<-e]at hb0;exact MapK.no hK.mp hb0
 have hbb:b≠q:=Blk.ne_ h.sb hb0 (by decide);have hfdq:Args (λg=>T g\/(Value.slice A x.kids.length c).ownBlock=some g) W2 (toTy (tv G k q)) A:=by
  obtain⟨-,-,-,t4,-,-⟩:=S.tv_node hf hq hx;refine(zbO _ _ _ _).2 λhk=>?_;have hkn:x.kids.length≠0:=λe=>hk (by rw[t4,List.eq_nil_of_length_eq_zero e];rfl);have hrows:=h.rows S (x.kids.map hd) (λz hz=>by
   obtain⟨cc,hcc,rfl⟩:=List.mem_map.1 hz;obtain⟨y,hy⟩:=S.gr.kin q x hx cc hcc;exact⟨S.gr.hin cc y hy,hall cc hcc⟩)
  rcases ho.2 with⟨h1,h0⟩|⟨g,cap,cur,h1,h2⟩
  ·exact absurd h0 hkn
  ·injection h1 with e1 e2 e3
   subst e1;refine⟨g,rfl,.inr rfl,?_⟩;have hlt:=ho.lt g rfl;rw[t4,show(x.kids.map λc=>toTy (tv G k (hd c)))=(x.kids.map hd).map λq=>toTy (tv G k q) by rw[List.map_map];rfl]
   refine TyRow.row (S:=λg'=>T g'\/(Value.slice (some ⟨g,0,none⟩) x.kids.length c).ownBlock=some g') _ _ 0 (TyRow.keep (λ_ h=>.inl h) (λz hz=>hne z (hTq z hz)) _ _ hrows) λj u hu=>?_;have hcell:=ho.cells (g:=g) rfl j u hu;have hadd:(⟨g,0,none⟩:Addr).add j=⟨g,j,none⟩:=by unfold Addr.add;split <;> simp_all
   rw[hadd]at hcell
   rw[Nat.zero_add]
   exact(World.cell?_of_block (w:=W) (a:=⟨g,j,none⟩) (hne g (by omega))).trans hcell
 refine⟨h.sb.same (hne _ hbb),⟨K,hK.keep (hne _ hmq) (λz hz=>by rw[<-hW2];exact(hz.setCell _ _ _).setCell _ _ _)⟩,?_,?_,?_,?_,⟨h.lb.1,h.lb.2.1,h.lb.2.2.1,λz y hy hn=>?_⟩,by rw[hs2];exact h.ls⟩
 ·intro z y hy
  by_cases e:z=q
  ·subst e
   rw[hx]at hy
   injection hy with hy;subst hy;rw[zak]
   refine⟨A0,c9,hbq,λhk=>?_⟩;obtain⟨e1,cur,hc,hq'⟩:=hr0 hk;exact⟨e1,cur,(hne _ (Blk.ne_ (show Blk W (D z).row _ cur from hc) hb0 (by decide))).trans hc,hq'⟩
  ·rw[zac _ _ _ _ e]
   have hz:=h.pd z y hy;exact hz.keep (hne _ e) (λhk=>hne _ (hz.ne ⟨A0,c9,hb0,hr0⟩ hk))
 ·intro z y hy hfz
  by_cases e:z=q
  ·subst e
   rw[hx]at hy
   injection hy with hy;subst hy;rw[zak]
   exact⟨hf,hq,A,c,rfl,hfdq⟩
  ·rw[zac _ _ _ _ e]at hfz ⊢
   obtain⟨h1,h2,A',c',h3,h4⟩:=h.fd z y hy hfz;exact⟨h1,h2,A',c',h3,h4.keep (λ_ h=>.inl h) (λg hg=>hne g (hTq g hg))⟩
 ·intro z y hy
  by_cases e:z=q
  ·rw[e,zak];exact⟨A,_,c,rfl⟩
  ·rw[zac _ _ _ _ e];exact h.da z y hy
 ·intro g hg
  rcases hg with hg|hg
  ·obtain⟨h1,cur,h2⟩:=h.tt g hg
   exact⟨h1,cur,(hne g (hTq g hg)).trans h2⟩
  ·obtain⟨h1,cur,h2⟩:=hown g hg
   exact⟨h1,cur,(hne g (by omega)).trans h2⟩
 ·by_cases e:z=q
  ·subst e;rw[zak];exact h.lb.2.2.2 z y hy hn
  ·rw[zac _ _ _ _ e];exact h.lb.2.2.2 z y hy hn
end
def FaPost(b mk:Nat)(c0 c1 c2 c4:Value)(G:Nat->Option Nd)(D:Nat->Dy)(hd:Nat->Nat)(kids:List Nat)(w:World)(e:Ending)(w':World):Prop :=
 ∃v4 v5,e=.returned (.tuple #[v4,v5])/\w'.ownsRow w.heap.size 37 4 v4 kids.length (tyCells G D (kids.map hd))/\w'.ownsRow w.heap.size 75 1 v5 (zaK D (kids.map hd)).length ((zaK D (kids.map hd)).map PK)/\FaI b mk c0 c1 c2 c4 G D hd w w'
theorem own_ne {w:World} {B B':Nat} {t t':TypeId} {s s' n n':Nat} {v v':Value} {xs xs':List Value}(h:w.ownsRow B t s v n xs)(k:w.ownsRow B' t' s' v' n' xs')(ht:t≠t')(g:Nat)(hg:v.ownBlock=some g):v'.ownBlock≠some g:=λe=>by
 obtain⟨_,_,cur,hc⟩:=zab h g hg;obtain⟨_,_,cur',hc'⟩:=zab k g e;exact Blk.ne_ (show Blk w g t cur from hc) (show Blk w g t' cur' from hc') ht rfl
theorem FaI.app {b mk:Nat} {c0 c1 c2 c4:Value} {G:Nat->Option Nd} {D:Nat->Dy} {hd:Nat->Nat} {w wr w':World}(h:FaI b mk c0 c1 c2 c4 G D hd w wr)(lt:b<w.heap.size/\mk<w.heap.size/\(∀g,G g≠none->g<w.heap.size)/\(∀q x,G q=some x->x.kids≠[]->(D q).row<w.heap.size))
  {o:Obj} {v:Value} {t:TypeId} (ht:132≠t) (hv:∀k,v.ownBlock=some k->w.heap.size<=k/\k<wr.heap.size/\∃cur,wr.heap[k]?=some (.cells cur t (0,0))) (hg:(wr.alloc o).grownBy w' v.ownBlock):FaI b mk c0 c1 c2 c4 G D hd w w':=by
 have hs:=h.ch.size;refine h.below (λg hg'=>(hg.block g (by simp;omega) (λe=>by have:=(hv g e.symm).1;omega)).trans (Below.heap_alloc _ _ _ (by omega))) lt.2.2.1 lt.2.2.2 lt.1 lt.2.1 (λx ⟨cs,hx⟩=>?_) ((h.ch.alloc o).grown hg (λk hk=>.inl (hv k hk).1));have hl:=(Array.getElem?_eq_some_iff.1 hx).1;exact⟨cs,((hg.block x (by simp;omega) (λe=>by
  obtain⟨_,_,cur,hcur⟩:=hv x e.symm;exact Blk.ne_ (show Blk wr x _ cs from hx) (show Blk wr x _ cur from hcur) ht rfl)).trans (Below.heap_alloc _ _ _ hl)).trans hx⟩
theorem ziC(D:Nat->Dy)(l:List Nat)(h:Nat):zaK D (l++[h])=zaK D l++(if(D h).fl=true then[] else[h]):=by
 unfold zaK;rw[List.filter_append]
 congr 1
 by_cases e:(D h).fl=true
 ·rw[if_pos e];simp[e]
 ·rw[if_neg e];simp[e]
theorem zg7(b mk q:Nat)(x:Nd)(c0 c1 c2 c4:Value)(G:Nat->Option Nd)(D:Nat->Dy)(K:Nat->Option Nat)(hd:Nat->Nat)(L:List Nat)(w:World)
  (hb:Blk w b 85 #[c0,c1,c2,.map (some mk),c4])(hk:Knw w mk K hd)(hpd:PartsD w G D)(hg:Gr G hd L)(hx:G q=some x)(hA:∀h y,G h=some y->∃a m c,(D h).A=.slice a m c)(hn:x.kids.length<=1000000):Calls Tryz.prog 121 #[.pointer (some ⟨b,0,none⟩),.pointer (some ⟨q,0,none⟩)] w (FaPost b mk c0 c1 c2 c4 G D hd x.kids w):=by
 obtain⟨i0,hi0,hz0,hz1,hz2⟩:=info_parts infoTy;obtain⟨j0,hj0,hy0,hy1,hy2⟩:=info_parts infoPtr;obtain⟨A,c,-,-,-,p4,-,-,hr⟩:=(hpd q x hx).facts;have hql:=(hpd q x hx).lt;have hI0:FaI b mk c0 c1 c2 c4 G D hd w w:=⟨hb,⟨K,hk⟩,hpd,Chg.refl _ _⟩;have HNM:Hid (∀(g:Nat) (cs:Array Value) (t:TypeId),w.heap[g]?=some (.cells cs t (0,0))->g≠mk):=hidE λg cs t hg e=>by
  rw[e]at hg
  exact MapK.no hk.mp hg
 have HLT:Hid (b<w.heap.size/\mk<w.heap.size/\(∀g,G g≠none->g<w.heap.size)/\(∀q x,G q=some x->x.kids≠[]->(D q).row<w.heap.size)):=hidE ⟨hb.lt,MapK.lt hk.mp,λg hg=>by
  cases h:G g with
  |none=>exact(hg h).elim
  |some y=>exact(hpd g y h).lt,λq x hx hn=>(hpd q x hx).row_lt hn⟩
 obtain⟨n,hnn⟩:∃n,x.kids.length=n:=⟨_,rfl⟩;rw[hnn]at p4 hn
 have HX:Hid (∀i a,x.kids[i]?=some a->A=some ⟨(D q).row,0,none⟩/\(D q).row<w.heap.size/\(D q).row≠mk/\w.cell? ⟨(D q).row,i,none⟩=some (PK a)):=hidE λi a ha=>by
  obtain⟨h1,cur,h2,h3⟩:=hr (λh=>by rw[h]at ha;simp at ha);exact⟨h1,(Array.getElem?_eq_some_iff.1 h2).1,HNM.out _ _ _ h2,(cell_of_row w _ i cur _ (0,0) h2).trans (h3 i a ha)⟩
 have HKN:=hidE (hg.kin q x hx);have HG:=hidE hg;have HA:=hidE hA;have HN:=hidE hnn;have HI0:=hidE hI0;clear hb hk hpd hg hx hA hI0 hr hnn;go_enter Tryz.func121,Tryz.ntmps121
 go_wp2_with fail
 go_loopg [4,5,13] n (λgg v4 v5 vi wr=>HeadFa b mk c0 c1 c2 c4 G D hd x.kids w n gg v4 v5 vi wr)
 case atStart=>exact⟨0,rfl,rfl,Nat.zero_le _,World.ownsRow_nil _ _ _ _,World.ownsRow_nil _ _ _ _,HI0.out⟩
 case round =>
  obtain⟨i,rfl,rfl,hi,h4,h5,hI⟩:=hrel;obtain⟨A4,a4,rfl⟩:=zao h4;obtain⟨A5,a5,rfl⟩:=zao h5;obtain⟨m5,hm5⟩:∃m,(zaK D ((x.kids.take i).map hd)).length=m:=⟨_,rfl⟩;have hm5i:m5<=i:=by rw[<-hm5];exact Nat.le_trans (List.length_filter_le _ _) (by simp;omega)
  rw[hm5]at h5 ⊢
  have H4:=hidE h4;have H5:=hidE h5;have HI:=hidE hI;have HM5:=hidE hm5;by_cases hlt:i<n
  ·obtain⟨a,ha⟩:∃a,x.kids[i]?=some a:=⟨_,List.getElem?_eq_getElem (by rw[HN.out];exact hlt)⟩
   obtain⟨rfl,hx1,hx2,hx3⟩:=HX.out i a ha;have e0:wr.cell? ⟨(D q).row,i,none⟩=some (.pointer (some ⟨a,0,none⟩)):=(World.cell?_of_block (w:=w) (a:=⟨(D q).row,i,none⟩) (hI.ch.block _ hx1 hx2)).trans hx3;obtain⟨ya,hya⟩:=HKN.out a (List.mem_of_getElem? ha);obtain⟨y,hy⟩:=HG.out.hin a ya hya;obtain⟨K1,hK1⟩:=hI.kn;have HHEAD:=hidE (zeI b mk K1 hd a wr c0 c1 c2 c4 hI.sb hK1 (hI.pd a ya hya).laid);have HTK:Hid ((x.kids.take (i+1)).map hd=(x.kids.take i).map hd++[hd a]):=hidE (by rw[List.take_add_one,ha,List.map_append];rfl);have HK1:=hidE hK1;have HY:=hidE hy;clear ha hx1 hx2 hx3 hya hK1 h4 h5 hI hm5 hy p4;go_wp2_with fail
   refine HHEAD.out.mono ?_;rintro e w1 ⟨rfl,K2,hk2,hc2,hs2,-⟩;obtain⟨h,hh⟩:∃h,hd a=h:=⟨_,rfl⟩;rw[hh]at HTK HY ⊢
   have hne:∀(g:Nat) (cs:Array Value) (t:TypeId),wr.heap[g]?=some (.cells cs t (0,0))->w1.heap[g]?=wr.heap[g]?:=λg cs t hg=>hc2.block g (Array.getElem?_eq_some_iff.1 hg).1 (λe=>by
    have e:g=mk:=e;rw[e]at hg
    exact MapK.no HK1.out.mp hg)
   have h41:=zal H4.out (λg hg=>by obtain⟨_,_,cur,hcur⟩:=zab H4.out g hg;exact hne g cur _ hcur);have h51:=zal H5.out (λg hg=>by obtain⟨_,_,cur,hcur⟩:=zab H5.out g hg;exact hne g cur _ hcur);have hI1:FaI b mk c0 c1 c2 c4 G D hd w w1:=⟨HI.out.sb.same (hne _ _ _ HI.out.sb),⟨K2,hk2⟩,HI.out.pd.same λk _ ⟨cs,t,hx⟩=>hne k cs t hx,HI.out.ch.trans hc2⟩;obtain⟨am,mm,cm,hAv⟩:=HA.out h y HY.out;obtain⟨A9,c9,hb9,-⟩:=hI1.pd h y HY.out;have f0:w1.cell? ⟨h,0,none⟩=some (.int .i64 (y.kd:Nat)):=hb9.cell 0;have f1:w1.cell? ⟨h,1,none⟩=some (.string y.nm):=hb9.cell 1;have f2:w1.cell? ⟨h,2,none⟩=some (.int .i64 (y.n:Nat)):=hb9.cell 2;have f3:w1.cell? ⟨h,3,none⟩=some (.slice am mm cm):=by rw[<-hAv];exact hb9.cell 3
   have f7:w1.cell? ⟨h,7,none⟩=some (.bool (D h).fl):=hb9.cell 7;have lh:=hb9.lt;have HTY:Hid (tyCells G D [h]=[.int .i64 (y.kd:Nat),.string y.nm,.int .i64 (y.n:Nat),.slice am mm cm]):=hidE (by
    have hnd:ndOf G h=y:=by unfold ndOf;rw[HY.out];rfl
    rw[tyCells,tyCells,hnd,hAv])
   have HAH:=hidE (ziC D ((x.kids.take i).map hd) h);have HI1:=hidE hI1;have H41:=hidE h41;have H51:=hidE h51;have hle1:=hI1.ch.size;cases hf:(D h).fl with
   |true =>
    rw[hf]at f7
    have HF:=hidE hf;have HO4:=hidE (h41.alloc (.cells #[.int .i64 (y.kd:Nat),.string y.nm,.int .i64 (y.n:Nat),.slice am mm cm] 37));clear hne h41 h51 hI1 hAv hb9 hf e0 hh hk2 hc2 hs2;go_wp2_with (at_builtin;refine wpList_append_own_at _ rfl (.tmp 29) (.tmp 34) 35 rfl w.heap.size 37 i0 _ 4 56 Tryz.underlying35 hi0 hz0 hz1 hz2 rfl (by decide) _ i (tyCells G D ((x.kids.take i).map hd)) rfl HO4.out ⟨w1.heap.size,0,none⟩ 1 1 [.int .i64 (y.kd:Nat),.string y.nm,.int .i64 (y.n:Nat),.slice am mm cm] rfl rfl (zar _ _ _ _ (by simp)) (by intro u hu;simp at hu;rcases hu with rfl|rfl|rfl|rfl <;> rfl) (by unfold maxLen;omega) (by omega) (by simp;omega) ?_;intro v3 w3 hown3 hgrow _ hat3;obtain⟨A3',c3',rfl⟩:=zao hown3;have HO3:=hidE hown3;have HG3:=hidE hgrow;clear hown3 hgrow hat3)
    have HR:Hid (HeadFa b mk c0 c1 c2 c4 G D hd x.kids w n (n-(i+1)) (.slice A3' (i+1) c3') (.slice A5 m5 a5) (.int .i64 ((i+1:Nat):Int)) w3):=hidE (by
     refine⟨i+1,rfl,rfl,by omega,?_,?_,HI1.out.app HLT.out (by decide) (zab H41.out) HG3.out⟩
     ·rw[HTK.out,zdl,HTY.out];exact HO3.out
     ·rw[HTK.out,HAH.out,if_pos HF.out,List.append_nil,HM5.out]
      exact zal H51.out (λk hk=>(HG3.out.block k (by have:=(zab H51.out k hk).2.1;simp;omega) (λe=>own_ne H41.out H51.out (by decide) k e.symm hk)).trans (Below.heap_alloc _ _ _ (zab H51.out k hk).2.1)))
    clear f0 f1 f2 f3 f7 lh;go_roundg (n-(i+1))
    case measure=>omega
    case rel=>exact HR.out
   |false =>
    rw[hf]at f7
    have HF:Hid (¬(D h).fl=true):=hidE (by rw[hf];simp);have HO5:=hidE (h51.alloc (.cells #[.pointer (some ⟨h,0,none⟩)] 75));have HB9:=hidE hb9;clear hne h41 h51 hI1 hAv hb9 hf e0 hh hk2 hc2 hs2;go_wp2_with (first
     |(at_builtin;refine wpList_append_own_at _ rfl (.tmp 25) (.tmp 27) 130 rfl w.heap.size 75 j0 _ 1 8 Tryz.underlying130 hj0 hy0 hy1 hy2 rfl (by decide) _ m5 ((zaK D ((x.kids.take i).map hd)).map PK) rfl HO5.out ⟨w1.heap.size,0,none⟩ 1 1 [.pointer (some ⟨h,0,none⟩)] rfl rfl (zar _ _ _ _ (by simp)) (by intro u hu;simp at hu;subst hu <;> rfl) (by unfold maxLen;omega) (by omega) (by simp <;> omega) ?_;intro v2 w2 hown2 hgrow _ hat2;obtain⟨A2',c2',rfl⟩:=zao hown2;have hb2:w2.heap[h]?=w1.heap[h]?:=(hgrow.block h (by simp <;> omega) (λe=>by obtain⟨_,_,cur,hcur⟩:=zab H51.out h e.symm;exact Blk.ne_ HB9.out (show Blk w1 h _ cur from hcur) (by decide) rfl)).trans (Below.heap_alloc _ _ _ lh);have g0:w2.cell? ⟨h,0,none⟩=some (.int .i64 (y.kd:Nat)):=(World.cell?_of_block (w:=w1) (a:=⟨h,0,none⟩) hb2).trans f0;have g1:w2.cell? ⟨h,1,none⟩=some (.string y.nm):=(World.cell?_of_block (w:=w1) (a:=⟨h,1,none⟩) hb2).trans f1;have g2:w2.cell? ⟨h,2,none⟩=some (.int .i64 (y.n:Nat)):=(World.cell?_of_block (w:=w1) (a:=⟨h,2,none⟩) hb2).trans f2;have g3:w2.cell? ⟨h,3,none⟩=some (.slice am mm cm):=(World.cell?_of_block (w:=w1) (a:=⟨h,3,none⟩) hb2).trans f3;have hsz2:=hgrow.size;simp only[World.size_alloc]at hsz2;have lh2:h<w2.heap.size:=(by omega);have h42:=zal H41.out (w':=w2) (λk hk=>(hgrow.block k (by have:=(zab H41.out k hk).2.1;simp <;> omega) (λe=>own_ne H51.out H41.out (by decide) k e.symm hk)).trans (Below.heap_alloc _ _ _ (zab H41.out k hk).2.1));have H42:=hidE h42;have HO4:=hidE (h42.alloc (.cells #[.int .i64 (y.kd:Nat),.string y.nm,.int .i64 (y.n:Nat),.slice am mm cm] 37));have HI2:=hidE (HI1.out.app HLT.out (by decide) (zab H51.out) hgrow);have hle2:=HI2.out.ch.size;have HO2:=hidE hown2;clear hown2 hgrow hat2 h42 hb2)
     |(at_builtin;refine wpList_append_own_at _ rfl (.tmp 29) (.tmp 34) 35 rfl w.heap.size 37 i0 _ 4 56 Tryz.underlying35 hi0 hz0 hz1 hz2 rfl (by decide) _ i (tyCells G D ((x.kids.take i).map hd)) rfl HO4.out ⟨w2.heap.size,0,none⟩ 1 1 [.int .i64 (y.kd:Nat),.string y.nm,.int .i64 (y.n:Nat),.slice am mm cm] rfl rfl (zar _ _ _ _ (by simp)) (by intro u hu;simp at hu;rcases hu with rfl|rfl|rfl|rfl <;> rfl) (by unfold maxLen;omega) (by omega) (by simp <;> omega) ?_;intro v3 w3 hown3 hgrow _ hat3;obtain⟨A3',c3',rfl⟩:=zao hown3;have HO3:=hidE hown3;have HG3:=hidE hgrow;clear hown3 hgrow hat3))
    have HR:Hid (HeadFa b mk c0 c1 c2 c4 G D hd x.kids w n (n-(i+1)) (.slice A3' (i+1) c3') (.slice A2' (m5+1) c2') (.int .i64 ((i+1:Nat):Int)) w3):=hidE (by
     refine⟨i+1,rfl,rfl,by omega,?_,?_,HI2.out.app HLT.out (by decide) (zab H42.out) HG3.out⟩
     ·rw[HTK.out,zdl,HTY.out];exact HO3.out
     ·rw[HTK.out,HAH.out,if_neg HF.out,List.length_append,HM5.out,List.map_append]
      exact zal HO2.out (λk hk=>(HG3.out.block k (by have:=(zab HO2.out k hk).2.1;simp;omega) (λe=>own_ne H42.out HO2.out (by decide) k e.symm hk)).trans (Below.heap_alloc _ _ _ (zab HO2.out k hk).2.1)))
    clear f0 f1 f2 f3 f7 lh;go_roundg (n-(i+1))
    case measure=>omega
    case rel=>exact HR.out
  ·have him:i=n:=by omega
   subst him;have hend:x.kids.take i=x.kids:=List.take_of_length_le (by rw[HN.out];omega);rw[hend]at h4 h5
   have HF:Hid (FaPost b mk c0 c1 c2 c4 G D hd x.kids w (.returned (.tuple #[.slice A4 i a4,.slice A5 m5 a5])) wr):=hidE ⟨_,_,rfl,by rw[HN.out];exact h4,by rw[hend]at hm5;rw[hm5];exact h5,hI⟩;clear hend h4 h5 hI hm5;go_wp2_with fail
   go_ret2
   exact HF.out
end Go.Proofs.YtfafilmklhnngaaGreatDoor
namespace Go.Proofs.YtfafilmklhnngaaGreatDoor
open Lx Tx
set_option maxRecDepth 100000
theorem zoq(m:Nat)(t:Dt):bad m t=0\/bad m t=41\/bad m t=42\/bad m t=43:=by
 unfold bad;split
 ·simp
 ·split
  ·simp
  ·split <;> simp
theorem zor(f:Nat):∀(E:List (Dt × Dt))(k:Sb)(m:Nat),unF f E k=some (.inl m)->m=40\/m=41\/m=42\/m=43:=by
 induction f with
 |zero=>intro E k m h;rw[unF]at h;cases h
 |succ f ih =>
  intro E k m h;cases E with
  |nil=>rw[unF]at h;injection h with h;cases h
  |cons p r =>
   obtain⟨a,b⟩:=p;rw[unF]at h
   cases hq:act (ap k a) (ap k b) with
   |skip=>rw[hq]at h;exact ih _ _ _ h
   |push l=>rw[hq]at h;exact ih _ _ _ h
   |clash=>rw[hq]at h;injection h with h;injection h with h;exact .inl h.symm
   |learn i t =>
    rw[hq]at h
    simp only at h;by_cases hb:bad i t=0
    ·rw[if_pos hb]at h;exact ih _ _ _ h
    ·rw[if_neg hb]at h
     injection h with h;injection h with h;rcases zoq i t with h1|h1|h1|h1
     ·exact absurd h1 hb
     ·exact .inr (.inl (h▸h1))
     ·exact .inr (.inr (.inl (h▸h1)))
     ·exact .inr (.inr (.inr (h▸h1)))
end Go.Proofs.YtfafilmklhnngaaGreatDoor
namespace Go.Proofs.YtfafilmklhnngaaGreatDoor
open Lx Tx
set_option maxRecDepth 100000
mutual
theorem zc2(env:List Name):(t:Ty)->Tx.polyD (db env t)=t.poly
 |.var x=>by rw[db,Ty.poly];cases idx x env <;> simp[Tx.polyD]
 |.mt n=>by rw[db,Ty.poly];simp[Tx.polyD]
 |.con c l=>by rw[db,Ty.poly,Tx.polyD,zgV env l]
 |.fn a b=>by rw[db,Ty.poly,Tx.polyD,zc2 env a,zc2 env b]
 |.all x t=>by rw[db,Ty.poly,Tx.polyD]
theorem zgV(env:List Name):(l:List Ty)->Tx.polyDL (dbL env l)=za3 l
 |[]=>by rw[dbL,za3,Tx.polyDL]
 |t::r=>by rw[dbL,za3,Tx.polyDL,zc2 env t,zgV env r]
end
theorem ziZ:(l:List Dt)->CloL 0 l->∀d∈l,Clo 0 d
 |[],_,d,h=>by cases h
 |t::r,h,d,hd=>by
  rw[CloL]at h
  rcases List.mem_cons.1 hd with e|hd
  ·rw[e];exact h.1
  ·exact ziZ r h.2 d hd
theorem zlA(d:Dt):Clo 0 d->Tx.polyD d=false->Plain d:=by
 induction d using Dt.ind with
 |hf x=>intro _ _;exact zh5 x
 |hb i=>intro h _;rw[Clo]at h;omega
 |hm n=>intro _ _;exact zaM n
 |hc c l ih =>
  intro h1 h2;rw[Clo]at h1
  rw[Tx.polyD,zb9,List.any_eq_false]at h2
  refine(zb0 c l).2 λd hd=>ih d hd (ziZ l h1 d hd) ?_;simpa using h2 d hd
 |hn a b iha ihb =>
  intro h1 h2;rw[Clo]at h1
  rw[Tx.polyD,Bool.or_eq_false_iff]at h2
  exact(plain_fn a b).2 ⟨iha h1.1 h2.1,ihb h1.2 h2.2⟩
 |ha t ih=>intro _ h;rw[Tx.polyD]at h;cases h
theorem zh3 {t:Ty}(h:t.poly=false):Plain (db [] t):=zlA _ (zdv [] t) ((zc2 [] t).trans h)
theorem zj4 {t:Ty} {n:Nat}(h:db [] t=.mt n):t=.mt n:=by
 cases t with
 |mt m=>rw[db]at h;injection h with h;rw[h]
 |var x=>rw[db]at h;simp[idx]at h
 |con c l=>rw[db]at h;cases h
 |fn a b=>rw[db]at h;cases h
 |all x t=>rw[db]at h;cases h
theorem zgW {f m:Nat} {t:Ty} {o:Nat ⊕ Sb}(h:unF f (dbQ [(.mt m,t)]) .mt=some o):(t=.mt m/\o=.inr .mt) \/
  (∃n k,t=.mt n/\n≠m/\o=.inr k/\∀l,Told k l->l=[(max m n,.mt (min m n))]) \/
  (kd t≠2/\MtOcc m (db [] t)/\o=.inl 41) \/
  (kd t≠2/\¬MtOcc m (db [] t)/\t.poly=true/\o=.inl 42) \/
  (kd t≠2/\¬MtOcc m (db [] t)/\t.poly=false/\∃k u,o=.inr k/\db [] u=db [] t/\∀l,Told k l->l=[(m,u)]):=by
 rcases zom h with⟨h1,h2⟩|⟨n,h1,h2,h3⟩|⟨h1,h2⟩
 ·exact .inl ⟨zj4 h1,h2⟩
 ·refine .inr (.inl ⟨n,_,zj4 h1,h2,h3,λl hl=>?_⟩)
  have:=zh1 (λe=>by injection e with e;omega) hl;rw[this,toTy]
 ·have hk:kd t≠2:=by
   cases t with
   |mt n=>exact absurd (by rw[db]) (h1 n)
   |_=>simp[kd]
  refine .inr (.inr ?_);have hmm:m∈zaD (db [] t) []↔MtOcc m (db [] t):=by rw[zaU];simp
  have hb:bad m (db [] t)=if m∈zaD (db [] t) [] then 41 else if t.poly=true then 42 else 0:=by
   unfold bad;rw[zc2]
   by_cases a:m∈zaD (db [] t) []
   ·rw[if_pos a,if_pos a]
   ·rw[if_neg a,if_neg a]
    by_cases b:t.poly=true
    ·rw[if_pos b,if_pos b]
    ·rw[if_neg b,if_neg b,if_neg]
     have:=(zh3 (t:=t) (by simpa using b)).2;rw[this];simp
  rw[hb]at h2
  by_cases a:m∈zaD (db [] t) []
  ·rw[if_pos a]at h2
   refine .inl ⟨hk,hmm.1 a,?_⟩;rcases h2 with⟨-,h2⟩|⟨h2,-⟩
   ·exact h2
   ·cases h2
  ·rw[if_neg a]at h2
   have a':¬MtOcc m (db [] t):=λh=>a (hmm.2 h);by_cases b:t.poly=true
   ·rw[if_pos b]at h2
    refine .inr (.inl ⟨hk,a',b,?_⟩);rcases h2 with⟨-,h2⟩|⟨h2,-⟩
    ·exact h2
    ·cases h2
   ·rw[if_neg b]at h2
    have b':t.poly=false:=by simpa using b
    rcases h2 with⟨h2,-⟩|⟨-,h2⟩
    ·exact absurd rfl h2
    ·exact .inr (.inr ⟨hk,a',b',_,toTy (db [] t),h2,zow _ (zh3 b'),λl hl=>zh1 (h1 m) hl⟩)
mutual
theorem zcM:(t:Ty)->∀env,t.size=sz (db env t)
 |.var x,env=>by rw[db,Ty.size];cases idx x env <;> simp only[sz]
 |.mt n,env=>by rw[db,Ty.size,sz]
 |.con c l,env=>by rw[db,Ty.size,sz,zh4 l env]
 |.fn a b,env=>by rw[db,Ty.size,sz,zcM a env,zcM b env]
 |.all x t,env=>by rw[db,Ty.size,sz,zcM t (x::env)]
theorem zh4:(l:List Ty)->∀env,zah l=szL (dbL env l)
 |[],env=>by rw[dbL,zah,szL]
 |t::r,env=>by rw[dbL,zah,szL,zcM t env,zh4 r env]
end
end Go.Proofs.YtfafilmklhnngaaGreatDoor
