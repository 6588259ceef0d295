import Derived.Test.YtfafilmklhnngaaGreatDoorBkAK
import Derived.Test.YtfafilmklhnngaaGreatDoorBkD
set_option maxHeartbeats 12800000
namespace Go.Proofs.YtfafilmklhnngaaGreatDoor
open Go.RowKit Go.Shelf Lx Tx Go.Maps Go.WideMaps
set_option maxRecDepth 100000
abbrev KnT:=Nat × Ty × Option Addr × Nat
def encKn(x:KnT):List Value:=knV x.1 x.2.1 x.2.2.1 x.2.2.2
def nthK(ds:List KnT)(i:Nat):KnT:=(ds[i]?).getD (0,.mt 0,none,0)
def encI(ds:List KnT)(i:Nat):List Value:=encKn (nthK ds i)
theorem zmy(x:KnT):∀v∈encKn x,v.oneCell'=true:=λv hv=>by
 unfold encKn knV tyV at hv;simp at hv;rcases hv with rfl|rfl|rfl|rfl|rfl <;> rfl
theorem KnRow.out {S:Nat->Prop} {w:World} :(l:List (Nat × Ty))->∀vs,KnRow S w l vs->∃ds:List KnT,l=ds.map (λx=>(x.1,x.2.1))/\vs=ds.flatMap encKn/\∀x∈ds,Args S w x.2.1 x.2.2.1
 |[],vs,h=>by
  rw[KnRow]at h
  exact⟨[],rfl,h,λ_ h=>by cases h⟩
 |(n,t)::r,vs,h=>by
  rw[KnRow]at h
  obtain⟨A,c,rest,rfl,h2,h3⟩:=h;obtain⟨ds,rfl,rfl,h6⟩:=KnRow.out r rest h3;refine⟨(n,t,A,c)::ds,rfl,rfl,λx hx=>?_⟩;rcases An.1 hx with rfl|hx
  ·exact h2
  ·exact h6 x hx
theorem KnRow.of {S:Nat->Prop} {w:World} :(ds:List KnT)->(∀x∈ds,Args S w x.2.1 x.2.2.1)->KnRow S w (ds.map λx=>(x.1,x.2.1)) (ds.flatMap encKn)
 |[],_=>by rw[CR,KnRow];rfl
 |x::r,h=>by
  rw[AH,KnRow]
  exact⟨x.2.2.1,x.2.2.2,r.flatMap encKn,rfl,h x (by simp),KnRow.of r λy hy=>h y (by simp[hy])⟩
theorem KnRow.snoc {S:Nat->Prop} {w:World} {l:List (Nat × Ty)} {vs:List Value}(h:KnRow S w l vs) {n:Nat} {t:Ty} {A:Option Addr} {c:Nat}(ha:Args S w t A):KnRow S w (l++[(n,t)]) (vs++knV n t A c):=by
 obtain⟨ds,rfl,rfl,h3⟩:=h.out;have:=KnRow.of (S:=S) (w:=w) (ds++[(n,t,A,c)]) (λx hx=>by
  rcases AA.1 hx with hx|hx
  ·exact h3 x hx
  ·rw[AJ.1 hx];exact ha)
 simpa[encKn] using this
theorem flat_get(enc:Nat->List Value)(h5:∀i,(enc i).length=5):(is:List Nat)->∀t,t<is.length*5->(is.flatMap enc)[t]? =(enc ((is[t / 5]?).getD 0))[t % 5]?
 |[],t,h=>by simp at h
 |i::r,t,h=>by
  rw[List.flatMap_cons]
  by_cases ht:t<5
  ·rw[Bm (by rw[h5];exact ht),Nat.div_eq_of_lt ht,Nat.mod_eq_of_lt ht]
   rfl
  ·obtain⟨u,rfl⟩:∃u,t=u+5:=⟨t-5,by omega⟩
   rw[AW (by rw[h5];omega),h5,Nat.add_sub_cancel,flat_get enc h5 r u (by rw[Ao]at h;omega),Nat.add_div_right _ (by omega),Nat.add_mod_right]
   rfl
theorem zdM(enc:Nat->List Value)(h5:∀i,(enc i).length=5):(is:List Nat)->(is.flatMap enc).length=is.length*5
 |[]=>rfl
 |i::r=>by rw[List.flatMap_cons,Ap,h5,zdM enc h5 r,Ao];omega
theorem zgm(enc:Nat->List Value)(h5:∀i,(enc i).length=5)(d:Array Nat):(Go.Sort.flatK enc 5 d).toList=d.toList.flatMap enc:=by
 refine Ck λt=>?_;by_cases ht:t<d.size*5
 ·rw[flat_get enc h5 _ t (by simpa using ht)]
  have h1:=Go.Sort.get_flatK enc 5 d t ht;have hs:t<(Go.Sort.flatK enc 5 d).size:=by rw[Go.Sort.size_flatK];exact ht
  rw[CP _ t hs]at h1
  rw[BC,Array.getElem?_eq_getElem hs,h1]
  have h2:t / 5<d.size:=by omega
  have h3:t % 5<(enc d[t / 5]!).length:=by rw[h5];omega
  rw[CP _ (t % 5) h3,CP d _ h2]at *
  simp[h2]
 ·rw[BI (by rw[CN,Go.Sort.size_flatK];omega),BI (by rw[zdM enc h5];simp;omega)]
theorem zhC(ds:List KnT):(List.range ds.length).map (nthK ds)=ds:=by
 refine Ck λi=>?_;rw[AY]
 by_cases hi:i<ds.length
 ·rw[List.getElem?_range hi]
  simp[nthK,hi]
 ·rw[BI (by simpa using hi),BI (by simpa using hi)]
  rfl
theorem zfL(ds:List KnT)(is:List Nat):is.flatMap (encI ds)=(is.map (nthK ds)).flatMap encKn:=by
 rw[List.flatMap_map]
 rfl
def cmpI(x y:Nat):Int:=if x<y then -1 else if y<x then 1 else 0
theorem zfg(x y:Nat):decide (cmpI x y<0)=decide (x<y):=by
 unfold cmpI;by_cases h:x<y
 ·simp[h]
 ·by_cases h2:y<x <;> simp[h,h2]
theorem swoI(ds:List KnT):Go.Sort.SWO (ltOf λi j:Nat=>cmpI (nthK ds i).1 (nthK ds j).1) where
 irrefl x:=by unfold ltOf;rw[zfg];simp
 trans x y z h1 h2:=by unfold ltOf at *;rw[zfg]at *;simp at *;omega
 ntrans x y z h1 h2:=by unfold ltOf at *;rw[zfg]at *;simp at *;omega
theorem zhX(d c:Array Value)(h:d.size<=c.size):(Go.Sort.putCells id 0 d c).size=c.size/\(Go.Sort.putCells id 0 d c).toList.take d.size=d.toList:=by
 unfold Go.Sort.putCells;refine⟨by simp,Ck λt=>?_⟩;by_cases ht:t<d.size
 ·rw[Cq ht]
  have hc:t<c.size:=by omega
  simp[ht,hc]
 ·rw[BI (by simp;omega),BI (by simpa using ht)]
end Go.Proofs.YtfafilmklhnngaaGreatDoor
namespace Go.Proofs.YtfafilmklhnngaaGreatDoor
open Go.RowKit Go.Shelf Lx Tx Go.Maps Go.WideMaps
set_option maxRecDepth 100000
theorem zmz(x:Int)(w:World):Calls Tryz.prog 124 #[.int .i64 x] w λe w'=>e=.returned (.bool false)/\w'=w:=by
 go_enter Tryz.func124,Tryz.ntmps124
 go_wp2
 go_ret
 exact⟨rfl,rfl⟩
theorem zp1(x y:Nat)(w:World):Calls Tryz.prog 78 #[.int .i64 (x:Nat),.int .i64 (y:Nat)] w λe w'=>e=.returned (.int .i64 (cmpI x y))/\w'=w:=by
 unfold cmpI;go_enter Tryz.func78,Tryz.ntmps78
 go_wp2_with fail
 refine(zmz _ _).mono ?_;rintro e w' ⟨rfl,rfl⟩;go_wp2_with fail
 refine(zmz _ _).mono ?_;rintro e w' ⟨rfl,rfl⟩;go_wp2_with fail
 all_goals go_ret
 all_goals (refine⟨?_,rfl⟩;simp[*])
theorem zpx(x y:KnT)(W:World):Calls Tryz.prog 77 #[.agg (encKn x).toArray,.agg (encKn y).toArray] W λe w'=>e=.returned (.int .i64 (cmpI x.1 y.1))/\∃q os',w'=Go.Sort.grow (W.drewN q) os':=by
 obtain⟨n,t,A,c⟩:=x;obtain⟨m,u,A',c'⟩:=y;show Calls _ _ #[.agg (knV n t A c).toArray,.agg (knV m u A' c').toArray] _ _;unfold knV tyV;have nA:=λW'=>zp1 n m W';show Calls _ _ _ _ λe w'=>e=.returned (.int .i64 (cmpI n m))/\_;generalize cmpI n m=r at nA ⊢;generalize (kd t:Int)=k1;generalize (kd u:Int)=k2;generalize nmB t=n1;generalize nmB u=n2;generalize (nn t:Int)=z1;generalize (nn u:Int)=z2;generalize (kids t).length=l1;generalize (kids u).length=l2;go_enter Tryz.func77,Tryz.ntmps77
 go_wp2_with fail
 refine(nA _).mono ?_;rintro e w' ⟨rfl,rfl⟩;go_wp2_with fail
 go_ret
 exact⟨rfl,0,_,by rw[Go.Sort.alloc_eq_grow,Go.Sort.alloc_eq_grow,Go.Sort.grow_grow];rfl⟩
theorem zk2(p:Option Addr)(cap:Nat)(fv:Value)(w:World):Calls Tryz.prog 160 #[.slice p 0 cap,.int .i64 0,.int .i64 0,fv] w λe w'=>e=.returned (.tuple #[])/\w'=w:=by
 go_enter Tryz.func160,Tryz.ntmps160
 go_wp2
 refine wp_loop_rounds 1 ?_;rw[rounds_succ]
 go_wp2
 go_end0
 exact⟨rfl,rfl⟩
theorem zk3(p:Option Addr)(cap:Nat)(lim:Int)(fv:Value)(w:World):Calls Tryz.prog 122 #[.slice p 0 cap,.int .i64 0,.int .i64 0,.int .i64 lim,fv] w λe w'=>e=.returned (.tuple #[])/\w'=w:=by
 have hi:=λW=>zk2 p cap fv W;go_enter Tryz.func122,Tryz.ntmps122
 go_wp2
 refine wp_loop_rounds 1 ?_;rw[rounds_succ]
 go_wp2_with fail
 refine(hi _).mono ?_;rintro e w' ⟨rfl,rfl⟩;go_wp2_with fail
 (try simp only[Exit.inBlock,Exit.then]);refine bodyPost_ret (results_none rfl _ _ _) rfl ?_
 exact⟨rfl,rfl⟩
theorem zjD(p:Option Addr)(cap:Nat)(fv:Value)(w:World):Calls Tryz.prog 76 #[.slice p 0 cap,fv] w λe w'=>e=.returned (.tuple #[])/\w'=w:=by
 have hp:=λlim W=>zk3 p cap lim fv W;have hl:∀W,Calls Tryz.prog 123 #[.int .u64 0] W λe w'=>e=.returned (.int .i64 (Lib.bitLen 0:Nat))/\w'=W:=λW =>
  Any.bits_Len (SlLaysF0.n15.bits (P:=Tryz.prog) (ρ:=Tryz.sortKnown_ren) { Tryz.sortKnown with }) 0 W (by omega) (by omega)
 go_enter Tryz.func76,Tryz.ntmps76
 go_wp2_with fail
 refine(hl _).mono ?_;rintro e w' ⟨rfl,rfl⟩;go_wp2_with fail
 refine(hp _ _).mono ?_;rintro e w' ⟨rfl,rfl⟩;go_wp2_with fail
 go_end0
 exact⟨rfl,rfl⟩
theorem zk4(enc:Nat->List Value)(w:World)(g n:Nat)(d:Array Nat)(os:Array Obj)(cur:Array Value)(e:TypeId)(hg:w.heap[g]?=some (.cells cur e (0,0))):(sortWorldK enc 5 w g 0 n d os).heap[g]?=some (.cells (Go.Sort.putCells id 0 (Go.Sort.flatK enc 5 d) cur) e (0,0))/\Chg (λz=>z=g) w (sortWorldK enc 5 w g 0 n d os):=by
 have ah:=(Aj.1 hg).1;have hh:(sortWorldK enc 5 w g 0 n d os).heap=w.heap.modify g (Go.Sort.onCells (Go.Sort.putCells id 0 (Go.Sort.flatK enc 5 d)))++os:=rfl;refine⟨?_,rfl,rfl,rfl,?_,λk hk hn=>?_⟩
 ·rw[hh,CO (by simpa using ah),Cz,Aq rfl,hg]
  rfl
 ·rw[hh];simp
 ·have hn:k≠g:=hn
  rw[hh,CO (by simpa using hk),Cz,Am (Cw hn)]
theorem zpy(T:Nat->Prop)(B:Nat)(l:List (Nat × Ty))(vs:List Value)(v:Value)(w:World)(ho:w.ownsRow B 39 5 v l.length vs)(hk:KnRow T w l vs)(hT:∀g,T g->v.ownBlock≠some g/\g<w.heap.size)(hlen:l.length<=1000000):Calls Tryz.prog 76 #[v,.func (.func 77) #[] #[]] w λe w'=>e=.returned (.tuple #[]) /\
   ∃l' vs',l'.Perm l/\(l'.map (·.1)).Pairwise (·<=·)/\w'.ownsRow B 39 5 v l'.length vs'/\KnRow T w' l' vs'/\Chg (λg=>v.ownBlock=some g) w w':=by
 have et:=ho;rcases ho.2 with⟨rfl,h0⟩|⟨g,cap,cur,rfl,hB,hg,xX,hmax,gA,jM⟩
 ·refine(zjD none 0 _ w).mono ?_
  rintro e w' ⟨rfl,rfl⟩;have sV:l=[]:=AD h0;subst sV;exact⟨rfl,[],vs,List.Perm.refl _,List.Pairwise.nil,et,hk,Chg.refl _ _⟩
 ·obtain⟨ds,rfl,rfl,hargs⟩:=hk.out
  rw[AR]at *
  have ah:=(Aj.1 hg).1;obtain⟨d,hd⟩:∃d:Array Nat,d=(List.range ds.length).toArray:=⟨_,rfl⟩;have oI:d.size=ds.length:=by rw[hd];simp
  have xO:(Go.Sort.flatK (encI ds) 5 d).toList=ds.flatMap encKn:=by
   rw[zgm (encI ds) (λ_=>rfl),zfL,hd,zhC]
  have hH:Go.Sort.HoldsK (encI ds) 5 w g 0 d:=λj hj=>by
   rw[Go.Sort.size_flatK,oI]at hj
   have hjc:j<cur.size:=by rw[gA];omega
   have rf:(Go.Sort.flatK (encI ds) 5 d)[j]?=cur[j]?:=by
    rw[<-BC,xO,<-jM,Cq hj,BC]
   have hjs:j<(Go.Sort.flatK (encI ds) 5 d).size:=by rw[Go.Sort.size_flatK,oI];exact hj
   rw[CP _ j hjs]
   rw[Array.getElem?_eq_getElem hjs]at rf
   refine⟨?_,?_⟩
   ·simp only[World.cell?,hg,Bo]
    exact rf.symm
   ·simp[World.frozen?,hg]
  have nA:=AnyQ.slices_SortFunc (α:=Nat) Tryz.sortKnown 5 (λw=>Tryz.isAgg39 w) (λw=>Tryz.sizeOf39 w) (encI ds) (λ_=>rfl) (λi v hv=>zmy _ v hv) (λi j=>cmpI (nthK ds i).1 (nthK ds j).1) (swoI ds) 77 #[] g 0 cap d w
   (enters_of Tryz.func77 (by kernel_rfl) rfl) (λ_ _ _ _ i j=>zpx (nthK ds i) (nthK ds j) _) hH ah (by rw[oI];omega)
  rw[oI]at nA
  refine nA.mono ?_;rintro e w' ⟨rfl,d',n,os,hp,hs,rfl⟩;obtain⟨p1,-,p2⟩:=hp;obtain⟨c1,c2⟩:=zk4 (encI ds) w g n d' os cur _ hg;obtain⟨l',e9⟩:∃l',l'=d'.toList.map (nthK ds):=⟨_,rfl⟩;have aD:d'.size=ds.length:=by rw[p1,oI]
  have gU:l'.Perm ds:=by
   have h1:d'.extract 0 ds.length=d':=by rw[<-aD];exact Array.extract_size
   have h2:d.extract 0 ds.length=d:=by rw[<-oI];exact Array.extract_size
   rw[h1,h2]at p2
   have h3:=p2.map (nthK ds);rw[hd,zhC]at h3
   rw[e9]
   exact h3
  have hll:l'.length=ds.length:=by rw[e9];simpa using aD
  have fF:=zhX (Go.Sort.flatK (encI ds) 5 d') cur (by rw[Go.Sort.size_flatK,aD,gA];omega);refine⟨rfl,l'.map λx=>(x.1,x.2.1),l'.flatMap encKn,gU.map _,?_,?_,?_,?_⟩
  ·rw[Cc,e9,Cc,List.pairwise_map,List.pairwise_iff_getElem]
   intro i j hi hj mZ;have fx:i<d'.size:=by simpa using hi
   have jU:j<d'.size:=by simpa using hj
   have:=hs i j (AV _) mZ (by omega);rw[CP d' i fx,CP d' j jU]at this
   unfold ltOf at this;rw[zfg]at this
   have:=of_decide_eq_false this;simp only[Array.getElem_toList,Function.comp];omega
  ·rw[AR,hll]
   refine⟨by rw[<-hll];simpa[e9,zfL,List.flatMap_map] using zdM (encI ds) (λ_=>rfl) d'.toList,.inr ⟨g,cap,_,rfl,hB,c1,xX,hmax,by rw[fF.1];exact gA,?_⟩⟩;have:=fF.2;rw[Go.Sort.size_flatK,aD]at this
   rw[this,zgm (encI ds) (λ_=>rfl),zfL,e9]
  ·refine KnRow.of l' λx hx=>(hargs x (gU.mem_iff.1 hx)).keep (λ_ h=>h) (λz hz=>?_)
   exact c2.block z (hT z hz).2 (λe=>(hT z hz).1 (by rw[e];rfl))
  ·exact c2.mono λz _ e=>by rw[e];rfl
end Go.Proofs.YtfafilmklhnngaaGreatDoor
