import Derived.Test.YtfafilmklhnngaaGreatDoorBsAM
import Derived.Test.YtfafilmklhnngaaGreatDoorBsD
set_option maxHeartbeats 12800000
set_option maxRecDepth 100000
namespace Go.Proofs.YtfafilmklhnngaaGreatDoor
open Tryz
section
open Go.RowKit Go.Shelf Lx Tx Go.Maps Go.WideMaps
abbrev Mj:=Nat × Ty × Option Addr × Nat
def G0(x:Mj):List Value:=KW x.1 x.2.1 x.2.2.1 x.2.2.2
def I'(ds:List Mj)(i:Nat):Mj:=(ds[i]?).getD (0,.mt 0,none,0)
def encI(ds:List Mj)(i:Nat):List Value:=G0 (I' ds i)
theorem znz(x:Mj):∀v∈G0 x,v.oneCell'=true:=λv hv=>by
 unfold G0 KW Hx at hv;simp at hv;rcases hv with rfl|rfl|rfl|rfl|rfl <;> rfl
theorem m_.o {S:Nat->Prop} {w:World} :(l:List (Nat × Ty))->∀vs,m_ S w l vs->∃ds:List Mj,l=ds.map (λx=>(x.1,x.2.1))/\vs=ds.flatMap G0/\∀x∈ds,j_ S w x.2.1 x.2.2.1
 |[],vs,h=>by
  rw[m_]at h;exact⟨[],rfl,h,λ_ h=>by cases h⟩
 |(n,t)::r,vs,h=>by
  rw[m_]at h;obtain⟨A,c,rest,rfl,h2,h3⟩:=h;obtain⟨ds,rfl,rfl,h6⟩:=m_.o r rest h3;refine⟨(n,t,A,c)::ds,rfl,rfl,λx hx=>?_⟩;rcases Cd.1 hx with rfl|hx
  ·exact h2
  ·exact h6 x hx
theorem m_.of {S:Nat->Prop} {w:World} :(ds:List Mj)->(∀x∈ds,j_ S w x.2.1 x.2.2.1)->m_ S w (ds.map λx=>(x.1,x.2.1)) (ds.flatMap G0)
 |[],_=>by rw[List.map_nil,m_];rfl
 |x::r,h=>by
  rw[CA,m_];exact⟨x.2.2.1,x.2.2.2,r.flatMap G0,rfl,h x (by simp),m_.of r λy hy=>h y (by simp[hy])⟩
theorem m_.snoc {S:Nat->Prop} {w:World} {l:List (Nat × Ty)} {vs:List Value}(h:m_ S w l vs) {n:Nat} {t:Ty} {A:Option Addr} {c:Nat}(ha:j_ S w t A):m_ S w (l++[(n,t)]) (vs++KW n t A c):=by
 obtain⟨ds,rfl,rfl,h3⟩:=h.o;have:=m_.of (S:=S) (w:=w) (ds++[(n,t,A,c)]) (λx hx=>by
  rcases Cr.1 hx with hx|hx
  ·exact h3 x hx
  ·rw[Cx.1 hx];exact ha)
 simpa[G0] using this
theorem Kx(enc:Nat->List Value)(h5:∀i,(enc i).length=5):(is:List Nat)->∀t,t<is.length*5->(is.flatMap enc)[t]? =(enc ((is[t / 5]?).getD 0))[t % 5]?
 |[],t,h=>by simp at h
 |i::r,t,h=>by
  rw[Ei];by_cases ht:t<5
  ·rw[DK (by rw[h5];exact ht),Nat.div_eq_of_lt ht,Nat.mod_eq_of_lt ht]
   rfl
  ·obtain⟨u,rfl⟩:∃u,t=u+5:=⟨t-5,by omega⟩
   rw[Db (by rw[h5];omega),h5,Nat.add_sub_cancel,Kx enc h5 r u (by rw[Ca]at h;omega),Nat.add_div_right _ (by omega),Nat.add_mod_right];rfl
theorem Wl(enc:Nat->List Value)(h5:∀i,(enc i).length=5):(is:List Nat)->(is.flatMap enc).length=is.length*5
 |[]=>rfl
 |i::r=>by rw[Ei,Cb,h5,Wl enc h5 r,Ca];omega
theorem zg8(enc:Nat->List Value)(h5:∀i,(enc i).length=5)(d:Array Nat):(Go.Sort.flatK enc 5 d).toList=d.toList.flatMap enc:=by
 refine Ev λt=>?_;by_cases ht:t<d.size*5
 ·rw[Kx enc h5 _ t (by simpa using ht)]
  have h1:=Go.Sort.get_flatK enc 5 d t ht;have hs:t<(Go.Sort.flatK enc 5 d).size:=by rw[Go.Sort.size_flatK];exact ht
  rw[EL _ t hs]at h1;rw[DG,Array.getElem?_eq_getElem hs,h1];have h2:t / 5<d.size:=by omega
  have h3:t % 5<(enc d[t / 5]!).length:=by rw[h5];omega
  rw[EL _ (t % 5) h3,EL d _ h2]at *;simp[h2]
 ·rw[DQ (by rw[EI,Go.Sort.size_flatK];omega),DQ (by rw[Wl enc h5];simp;omega)]
theorem zik(ds:List Mj):(List.range ds.length).map (I' ds)=ds:=by
 refine Ev λi=>?_;rw[CT]
 by_cases hi:i<ds.length
 ·rw[List.getElem?_range hi]
  simp[I',hi]
 ·rw[DQ (by simpa using hi),DQ (by simpa using hi)]
  rfl
theorem Vj(ds:List Mj)(is:List Nat):is.flatMap (encI ds)=(is.map (I' ds)).flatMap G0:=by
 rw[List.flatMap_map];rfl
def Ka(x y:Nat):Int:=if x<y then -1 else if y<x then 1 else 0
theorem R7(x y:Nat):decide (Ka x y<0)=decide (x<y):=by
 unfold Ka;by_cases h:x<y
 ·simp[h]
 ·by_cases h2:y<x <;> simp[h,h2]
theorem YW(ds:List Mj):Go.Sort.SWO (ltOf λi j:Nat=>Ka (I' ds i).1 (I' ds j).1) where
 irrefl x:=by unfold ltOf;rw[R7];simp
 trans x y z h1 h2:=by unfold ltOf at *;rw[R7]at *;simp at *;omega
 ntrans x y z h1 h2:=by unfold ltOf at *;rw[R7]at *;simp at *;omega
theorem ziJ(d c:Array Value)(h:d.size<=c.size):(Go.Sort.putCells id 0 d c).size=c.size/\(Go.Sort.putCells id 0 d c).toList.take d.size=d.toList:=by
 unfold Go.Sort.putCells;refine⟨by simp,Ev λt=>?_⟩;by_cases ht:t<d.size
 ·rw[List.getElem?_take_of_lt ht]
  have hc:t<c.size:=by omega
  simp[ht,hc]
 ·rw[DQ (by simp;omega),DQ (by simpa using ht)]
end
section
open Go.RowKit Go.Shelf Lx Tx Go.Maps Go.WideMaps
set_option maxRecDepth 100000
theorem znA(x:Int)(w:World):Calls prog 124 #[.int .i64 x] w λe w'=>e=.returned (.bool false)/\w'=w:=by
 go_in;go_wp2
 go_ret
 exact⟨rfl,rfl⟩
theorem zrA(x y:Nat)(w:World):Calls prog 78 #[.int .i64 (x:Nat),.int .i64 (y:Nat)] w λe w'=>e=.returned (.int .i64 (Ka x y))/\w'=w:=by
 unfold Ka;go_in;go_wp2_with fail;refine(znA _ _).mono ?_;rintro e w' ⟨rfl,rfl⟩;go_wp2_with fail;refine(znA _ _).mono ?_;rintro e w' ⟨rfl,rfl⟩;go_wp2_with fail;all_goals go_ret
 all_goals (refine⟨?_,rfl⟩;simp[*])
theorem zq5(x y:Mj)(W:World):Calls prog 77 #[.agg (G0 x).toArray,.agg (G0 y).toArray] W λe w'=>e=.returned (.int .i64 (Ka x.1 y.1))/\∃q os',w'=Go.Sort.grow (W.drewN q) os':=by
 obtain⟨n,t,A,c⟩:=x;obtain⟨m,u,A',c'⟩:=y;show Calls _ _ #[.agg (KW n t A c).toArray,.agg (KW m u A' c').toArray] _ _;unfold KW Hx;have o7:=λW'=>zrA n m W';show Calls _ _ _ _ λe w'=>e=.returned (.int .i64 (Ka n m))/\_;generalize Ka n m=r at o7 ⊢;generalize (kd t:Int)=k1;generalize (kd u:Int)=k2;generalize ER t=n1;generalize ER u=n2;generalize (nn t:Int)=z1;generalize (nn u:Int)=z2;generalize (kids t).length=l1;generalize (kids u).length=l2;go_in
 go_wp2_with fail;refine(o7 _).mono ?_;rintro e w' ⟨rfl,rfl⟩;go_wp2_with fail;go_ret
 exact⟨rfl,0,_,by rw[Go.Sort.alloc_eq_grow,Go.Sort.alloc_eq_grow,Go.Sort.grow_grow];rfl⟩
theorem zlZ(p:Option Addr)(cap:Nat)(fv:Value)(w:World):Calls prog 160 #[.slice p 0 cap,.int .i64 0,.int .i64 0,fv] w λe w'=>e=.returned (.tuple #[])/\w'=w:=by
 go_in;go_wp2
 refine wp_loop_rounds 1 ?_;rw[rounds_succ];go_wp2
 go_end0
 exact⟨rfl,rfl⟩
theorem zl0(p:Option Addr)(cap:Nat)(lim:Int)(fv:Value)(w:World):Calls prog 122 #[.slice p 0 cap,.int .i64 0,.int .i64 0,.int .i64 lim,fv] w λe w'=>e=.returned (.tuple #[])/\w'=w:=by
 have hi:=λW=>zlZ p cap fv W;go_in
 go_wp2
 refine wp_loop_rounds 1 ?_;rw[rounds_succ];go_wp2_with fail;refine(hi _).mono ?_;rintro e w' ⟨rfl,rfl⟩;go_wp2_with fail;(try simp only[Exit.inBlock,Exit.then]);refine Ce (CQ rfl _ _ _) rfl ?_
 exact⟨rfl,rfl⟩
theorem zkn(p:Option Addr)(cap:Nat)(fv:Value)(w:World):Calls prog 76 #[.slice p 0 cap,fv] w λe w'=>e=.returned (.tuple #[])/\w'=w:=by
 have hp:=λlim W=>zl0 p cap lim fv W;have hl:∀W,Calls prog 123 #[.int .u64 0] W λe w'=>e=.returned (.int .i64 (Lib.bitLen 0:Nat))/\w'=W:=λW =>
  Any.bits_Len (SlLaysF0.n15.bits (P:=prog) (ρ:=Tryz.Hv) { Tryz.JW with }) 0 W (by omega) (by omega)
 go_in;go_wp2_with fail;refine(hl _).mono ?_;rintro e w' ⟨rfl,rfl⟩;go_wp2_with fail;refine(hp _ _).mono ?_;rintro e w' ⟨rfl,rfl⟩;go_wp2_with fail;go_end0
 exact⟨rfl,rfl⟩
theorem zl1(enc:Nat->List Value)(w:World)(g n:Nat)(d:Array Nat)(os:Array Obj)(cur:Array Value)(e:TypeId)(hg:w.heap[g]?=some (.cells cur e (0,0))):(sortWorldK enc 5 w g 0 n d os).heap[g]?=some (.cells (Go.Sort.putCells id 0 (Go.Sort.flatK enc 5 d) cur) e (0,0))/\b_ (λz=>z=g) w (sortWorldK enc 5 w g 0 n d os):=by
 have af:=(BV.1 hg).1;have hh:(sortWorldK enc 5 w g 0 n d os).heap=w.heap.modify g (Go.Sort.onCells (Go.Sort.putCells id 0 (Go.Sort.flatK enc 5 d)))++os:=rfl;refine⟨?_,rfl,rfl,rfl,?_,λk hk hn=>?_⟩
 ·rw[hh,EJ (by simpa using af),Ey,Ch rfl,hg]
  rfl
 ·rw[hh];simp
 ·have hn:k≠g:=hn
  rw[hh,EJ (by simpa using hk),Ey,Cg (Et hn)]
theorem zq6(T:Nat->Prop)(B:Nat)(l:List (Nat × Ty))(vs:List Value)(v:Value)(w:World)(ho:w.ownsRow B 39 5 v l.length vs)(hk:m_ T w l vs)(hT:∀g,T g->v.ownBlock≠some g/\g<w.heap.size)(hlen:l.length<=2000000000000):Calls prog 76 #[v,.func (.func 77) #[] #[]] w λe w'=>e=.returned (.tuple #[]) /\
   ∃l' Te,l'.Perm l/\(l'.map (·.1)).Pairwise (·<=·)/\w'.ownsRow B 39 5 v l'.length Te/\m_ T w' l' Te/\b_ (λg=>v.ownBlock=some g) w w':=by
 have eW:=ho;rcases ho.2 with⟨rfl,h0⟩|⟨g,cap,cur,rfl,hB,hg,Zs,Za,gP,lG⟩
 ·refine(zkn none 0 _ w).mono ?_
  rintro e w' ⟨rfl,rfl⟩;have q8:l=[]:=Cn h0;subst q8;exact⟨rfl,[],vs,List.Perm.refl _,List.Pairwise.nil,eW,hk,b_.refl _ _⟩
 ·obtain⟨ds,rfl,rfl,FG⟩:=hk.o
  rw[CE]at *;have af:=(BV.1 hg).1;obtain⟨d,hd⟩:∃d:Array Nat,d=(List.range ds.length).toArray:=⟨_,rfl⟩;have qn:d.size=ds.length:=by rw[hd];simp
  have zE:(Go.Sort.flatK (encI ds) 5 d).toList=ds.flatMap G0:=by
   rw[zg8 (encI ds) (λ_=>rfl),Vj,hd,zik]
  have hH:Go.Sort.HoldsK (encI ds) 5 w g 0 d:=λj hj=>by
   rw[Go.Sort.size_flatK,qn]at hj;have hjc:j<cur.size:=by rw[gP];omega
   have sH:(Go.Sort.flatK (encI ds) 5 d)[j]?=cur[j]?:=by
    rw[<-DG,zE,<-lG,List.getElem?_take_of_lt hj,DG]
   have Tw:j<(Go.Sort.flatK (encI ds) 5 d).size:=by rw[Go.Sort.size_flatK,qn];exact hj
   rw[EL _ j Tw];rw[Array.getElem?_eq_getElem Tw]at sH;refine⟨?_,?_⟩
   ·simp only[World.cell?,hg,Dm]
    exact sH.symm
   ·simp[World.frozen?,hg]
  have o7:=AnyQ.slices_SortFunc (α:=Nat) Tryz.JW 5 (λw=>isAgg39 w) (λw=>sizeOf39 w) (encI ds) (λ_=>rfl) (λi v hv=>znz _ v hv) (λi j=>Ka (I' ds i).1 (I' ds j).1) (YW ds) 77 #[] g 0 cap d w
   (enters_of func77 (by kernel_rfl) rfl) (λ_ _ _ _ i j=>zq5 (I' ds i) (I' ds j) _) hH af (by rw[qn];omega)
  rw[qn]at o7;refine o7.mono ?_;rintro e w' ⟨rfl,d',n,os,hp,hs,rfl⟩;obtain⟨p1,-,p2⟩:=hp;obtain⟨c1,c2⟩:=zl1 (encI ds) w g n d' os cur _ hg;obtain⟨l',fZ⟩:∃l',l'=d'.toList.map (I' ds):=⟨_,rfl⟩;have aA:d'.size=ds.length:=by rw[p1,qn]
  have jq:l'.Perm ds:=by
   have h1:d'.extract 0 ds.length=d':=by rw[<-aA];exact Array.extract_size
   have h2:d.extract 0 ds.length=d:=by rw[<-qn];exact Array.extract_size
   rw[h1,h2]at p2;have h3:=p2.map (I' ds);rw[hd,zik]at h3;rw[fZ];exact h3
  have yW:l'.length=ds.length:=by rw[fZ];simpa using aA
  have cN:=ziJ (Go.Sort.flatK (encI ds) 5 d') cur (by rw[Go.Sort.size_flatK,aA,gP];omega);refine⟨rfl,l'.map λx=>(x.1,x.2.1),l'.flatMap G0,jq.map _,?_,?_,?_,?_⟩
  ·rw[DS,fZ,DS,List.pairwise_map,List.pairwise_iff_getElem]
   intro i j hi hj oR;have fB:i<d'.size:=by simpa using hi
   have kI:j<d'.size:=by simpa using hj
   have:=hs i j (Cw _) oR (by omega);rw[EL d' i fB,EL d' j kI]at this;unfold ltOf at this;rw[R7]at this;have:=EK this;simp only[Array.getElem_toList,Function.comp];omega
  ·rw[CE,yW]
   refine⟨by rw[<-yW];simpa[fZ,Vj,List.flatMap_map] using Wl (encI ds) (λ_=>rfl) d'.toList,.inr ⟨g,cap,_,rfl,hB,c1,Zs,Za,by rw[cN.1];exact gP,?_⟩⟩;have:=cN.2;rw[Go.Sort.size_flatK,aA]at this;rw[this,zg8 (encI ds) (λ_=>rfl),Vj,fZ]
  ·refine m_.of l' λx hx=>(FG x (jq.mem_iff.1 hx)).al (λ_ h=>h) (λz hz=>?_)
   exact c2.block z (hT z hz).2 (λe=>(hT z hz).1 (by rw[e];rfl))
  ·exact c2.mono λz _ e=>by rw[e];rfl
end
end Go.Proofs.YtfafilmklhnngaaGreatDoor
