import Derived.Test.YtaomnlcplmkokaaGreatDoorBiAB
import Derived.Test.YtaomnlcplmkokaaGreatDoorBiZ
set_option maxHeartbeats 12800000
namespace Go.Proofs.YtaomnlcplmkokaaGreatDoor
open Go.RowKit Lx Tx Go.Maps Go.WideMaps Go.Shelf
set_option maxRecDepth 100000
theorem ziL(l m:List Name)(i:Nat)(h:i<l.length):(l++m).getD i []=l.getD i []:=by
 rw[List.getD,List.getD,List.getElem?_append_left h]
theorem ziM(l:List Name)(z:Name):(l++[z]).getD l.length []=z:=by
 rw[List.getD,List.getElem?_append_right (Nat.le_refl _)]
 simp
mutual
theorem zd2(c:UInt8)(but:List Name)(x z:Name):(t:Ty)->∀loc ys k,loc.length=ys.length->zan c but ys (subD x (.fv z) (db loc t)) k=zan c but (ys++[z]) (db (loc++[x]) t) k
 |.var y,loc,ys,k,h=>by
  rw[db,db]
  cases hi:idx y loc with
  |some i =>
   rw[zd0 y loc [x] i hi]
   have hl:=zcz y loc i hi;show zan c but ys (subD x (.fv z) (.bv i)) k=zan c but (ys++[z]) (.bv i) k;unfold subD;rw[repD,zan,zan,ziL _ _ _ (by omega)]
  |none =>
   rw[zd1 y loc [x] hi]
   show zan c but ys (subD x (.fv z) (.fv y)) k=_;unfold subD;rw[repD,sub,idx]
   by_cases e:y=x
   ·rw[if_pos e,if_pos e]
    show zan c but ys (.fv z) k=zan c but (ys++[z]) (.bv (0+loc.length)) k;rw[zan,zan,Nat.zero_add,h,ziM]
   ·rw[if_neg e,if_neg e]
    show zan c but ys (.fv y) k=zan c but (ys++[z]) (.fv y) k;rw[zan,zan]
 |.mt n,loc,ys,k,h=>by rw[db,db];unfold subD;rw[repD,zan,zan]
 |.con d l,loc,ys,k,h=>by
  rw[db,db]
  unfold subD;rw[repD,zan,zan,ziN c but x z l loc ys k h]
 |.fn a b,loc,ys,k,h=>by
  have h1:=zd2 c but x z a loc ys k h;have h2:=λk=>zd2 c but x z b loc ys k h;rw[db,db]
  unfold subD at h1 h2 ⊢;rw[repD,zan,zan,h1,h2]
 |.all y t,loc,ys,k,h=>by
  have h1:=zd2 c but x z t (y::loc) (nm c (zal c but k)::ys) (zal c but k+1) (by simp[h]);rw[db,db]
  unfold subD at h1 ⊢;rw[repD,zan,zan,h1]
  rfl
theorem ziN(c:UInt8)(but:List Name)(x z:Name):(l:List Ty)->∀loc ys k,loc.length=ys.length->zaC c but ys (zax (sub x (.fv z)) .mt (dbL loc l)) k=zaC c but (ys++[z]) (dbL (loc++[x]) l) k
 |[],loc,ys,k,h=>by rw[dbL,dbL,zax,zaC,zaC]
 |t::r,loc,ys,k,h=>by
  have h1:=zd2 c but x z t loc ys k h;unfold subD at h1;rw[dbL,dbL,zax,zaC,zaC,h1,ziN c but x z r loc ys _ h]
end
def putRf(Y:ByteArray)(t u:Ty):Ty:=raw (isPV Y.data.toList) u (numb 121 (butA Y t u) [] [] t 0).1
theorem zfa(Y:ByteArray)(t u:Ty)(ht:t.size<=400000)(hu:u.size<=100000):db [] (putRf Y t u)=subD Y.data.toList (db [] u) (db [] t):=by
 have h1:=zaU t;have h3:=zaU u;have h2:(butA Y t u).length=u.free.length+1+t.free.length:=by unfold butA;simp;omega
 have h4:t.size*((butA Y t u).length+2)<=400000*500003:=Nat.mul_le_mul ht (by omega);have h5:(t.size+1)*((butA Y t u).length+1)<=400001*500003:=Nat.mul_le_mul (by omega) (by omega);unfold putRf;have hb:=zf3 (isPV Y.data.toList) u (butA Y t u) (λx hx=>?_) (λx hx=>?_) (numb 121 (butA Y t u) [] [] t 0).1 [] (λ_ h=>(List.not_mem_nil h).elim) (zdv 121 _ t [] [] 0 (by omega))
 ·rw[hb,zrx 121 _ t (λx hx=>?_) (by omega)]
  ·unfold subD
   congr 1
   funext x
   unfold Fu sub isPV;by_cases e:x=Y.data.toList
   ·rw[if_pos e];simp[e]
   ·rw[if_neg e];simp[e]
  ·unfold butA;simp[hx]
 ·have:=zqa u x hx
  unfold butA;simp[this]
 ·have e:x=Y.data.toList:=by unfold isPV at hx;simpa using hx
  unfold butA;simp[e]
theorem zfb(Y:ByteArray)(t u:Ty):(putRf Y t u).size<=t.size*u.size:=by
 unfold putRf;have:=zd3 (isPV Y.data.toList) u (numb 121 (butA Y t u) [] [] t 0).1;rw[zbP]at this
 exact this
theorem zrp(but:List Name)(x:Name)(t:Ty)(k:Nat)(ht:t.size<=400000):numb 122 but [] [] (.all x t) k=(.all (nm 122 (zal 122 but k)) (numb 122 but [] [] (putRf ⟨x.toArray⟩ t (.var (nm 122 (zal 122 but k)))) (zal 122 but k+1)).1,(numb 122 but [] [] (putRf ⟨x.toArray⟩ t (.var (nm 122 (zal 122 but k)))) (zal 122 but k+1)).2):=by
 have h:=zd2 122 but x (nm 122 (zal 122 but k)) t [] [] (zal 122 but k+1) rfl;have hd:=zfa ⟨x.toArray⟩ t (.var (nm 122 (zal 122 but k))) ht (by rw[Ty.size];omega);have hd:db [] (putRf ⟨x.toArray⟩ t (.var (nm 122 (zal 122 but k))))=subD x (.fv (nm 122 (zal 122 but k))) (db [] t):=hd;rw[numb,zbY 122 but [x] _ t,zbY 122 but [] [] (putRf _ _ _),hd,h]
 rfl
def renO(but:List Name)(t:Ty)(k:Nat):Ty:=match t with|.all x u=>.all (nm 122 (zal 122 but k)) (putRf ⟨x.toArray⟩ u (.var (nm 122 (zal 122 but k))))|t=>t
def renK(but:List Name)(t:Ty)(k:Nat):Nat:=match t with|.all _ _=>zal 122 but k+1|_=>k
theorem zpX(but:List Name)(t:Ty)(k:Nat)(ht:t.size<=400000):(numb 122 but [] [] t k).2=(zat 122 but [] [] (kids (renO but t k)) (renK but t k)).2/\kd (numb 122 but [] [] t k).1=kd (renO but t k)/\nmB (numb 122 but [] [] t k).1=nmB (renO but t k)/\nn (numb 122 but [] [] t k).1=nn (renO but t k) /\
   kids (numb 122 but [] [] t k).1=(zat 122 but [] [] (kids (renO but t k)) (renK but t k)).1:=by
 cases t with
 |all x u =>
  rw[zrp but x u k (by rw[Ty.size]at ht;omega)]
  show _/\_/\_/\_/\[_]=_;rw[renO,renK,kids,zat,zat]
  exact⟨rfl,rfl,rfl,rfl,rfl⟩
 |var x=>rw[numb,idx];show _/\_/\_/\_/\[]=(zat 122 but [] [] [] k).1;rw[zat];exact⟨by show k=(zat 122 but [] [] [] k).2;rw[zat],rfl,rfl,rfl,rfl⟩
 |mt n=>rw[numb];show _/\_/\_/\_/\[]=(zat 122 but [] [] [] k).1;rw[zat];exact⟨by show k=(zat 122 but [] [] [] k).2;rw[zat],rfl,rfl,rfl,rfl⟩
 |con d l=>rw[numb];exact⟨rfl,rfl,rfl,rfl,rfl⟩
 |fn a b=>rw[numb];show _/\_/\_/\_/\[_,_]=(zat 122 but [] [] [a,b] k).1;rw[zat,zat,zat];exact⟨by show _=(zat 122 but [] [] [a,b] k).2;rw[zat,zat,zat],rfl,rfl,rfl,rfl⟩
mutual
def tyD:Dt->Ty
 |.fv x=>.var x
 |.bv _=>.var []
 |.mt n=>.mt n
 |.con c l=>.con c (tyDL l)
 |.fn a b=>.fn (tyD a) (tyD b)
 |.all _=>.var []
def tyDL:List Dt->List Ty
 |[]=>[]
 |t::r=>tyD t::tyDL r
end
mutual
theorem zen(c:UInt8)(but ys:List Name):(d:Dt)->∀k,Clo 0 d->zaH d=false->zan c but ys d k=(tyD d,k)
 |.fv x,k,_,_=>by rw[zan,tyD]
 |.bv i,k,h,_=>by rw[Clo]at h;omega
 |.mt n,k,_,_=>by rw[zan,tyD]
 |.con d l,k,h,hp=>by rw[Clo]at h;rw[zaH]at hp;rw[zan,tyD,zhw c but ys l k h hp]
 |.fn a b,k,h,hp=>by
  rw[Clo]at h
  rw[zaH,Bool.or_eq_false_iff]at hp
  rw[zan,tyD,zen c but ys a k h.1 hp.1]
  simp only;rw[zen c but ys b k h.2 hp.2]
 |.all t,k,_,hp=>by rw[zaH]at hp;cases hp
theorem zhw(c:UInt8)(but ys:List Name):(l:List Dt)->∀k,CloL 0 l->zbV l=false->zaC c but ys l k=(tyDL l,k)
 |[],k,_,_=>by rw[zaC,tyDL]
 |t::r,k,h,hp=>by
  rw[CloL]at h
  rw[zbV,Bool.or_eq_false_iff]at hp
  rw[zaC,tyDL,zen c but ys t k h.1 hp.1]
  simp only;rw[zhw c but ys r k h.2 hp.2]
end
mutual
theorem zeP:(d:Dt)->Clo 0 d->zaH d=false->db [] (tyD d)=d
 |.fv x,_,_=>by rw[tyD,db,idx]
 |.bv i,h,_=>by rw[Clo]at h;omega
 |.mt n,_,_=>by rw[tyD,db]
 |.con d l,h,hp=>by rw[Clo]at h;rw[zaH]at hp;rw[tyD,db,zlS l h hp]
 |.fn a b,h,hp=>by
  rw[Clo]at h
  rw[zaH,Bool.or_eq_false_iff]at hp
  rw[tyD,db,zeP a h.1 hp.1,zeP b h.2 hp.2]
 |.all t,_,hp=>by rw[zaH]at hp;cases hp
theorem zlS:(l:List Dt)->CloL 0 l->zbV l=false->dbL [] (tyDL l)=l
 |[],_,_=>by rw[tyDL,dbL]
 |t::r,h,hp=>by
  rw[CloL]at h
  rw[zbV,Bool.or_eq_false_iff]at hp
  rw[tyDL,dbL,zeP t h.1 hp.1,zlS r h.2 hp.2]
end
mutual
theorem zeQ(f:Name->Dt)(g:Nat->Dt)(x z:Name)(hz:FvOcc z (f x)):(d:Dt)->FvOcc x d->FvOcc z (repD f g d)
 |.fv y,h=>by rw[FvOcc]at h;rw[repD,<-h];exact hz
 |.bv i,h=>by rw[FvOcc]at h;exact h.elim
 |.mt n,h=>by rw[FvOcc]at h;exact h.elim
 |.con c l,h=>by rw[FvOcc]at h;rw[repD,FvOcc];exact zj8 f g x z hz l h
 |.fn a b,h=>by
  rw[FvOcc]at h
  rw[repD,FvOcc]
  exact h.elim (λh=>.inl (zeQ f g x z hz a h)) (λh=>.inr (zeQ f g x z hz b h))
 |.all t,h=>by rw[FvOcc]at h;rw[repD,FvOcc];exact zeQ f g x z hz t h
theorem zj8(f:Name->Dt)(g:Nat->Dt)(x z:Name)(hz:FvOcc z (f x)):(l:List Dt)->zaT x l->zaT z (zax f g l)
 |[],h=>by rw[zaT]at h;exact h.elim
 |t::r,h=>by
  rw[zaT]at h
  rw[zax,zaT]
  exact h.elim (λh=>.inl (zeQ f g x z hz t h)) (λh=>.inr (zj8 f g x z hz r h))
end
def zbM(p t:Ty):Bool:=kd p==kd t&&nn p==nn t &&(kids p).length ==(kids t).length &&(kd p != 3 ||(nmB p).toList ==(nmB t).toList)
mutual
def colT(own:List Name):Ty->Ty->List (Name × Ty)->Option (List (Name × Ty))
 |.var x,t,out=>if x∈own then some (if(look x out).isSome then out else out++[(x,t)]) else if zbM (.var x) t then some out else none
 |.mt n,t,out=>if zbM (.mt n) t then some out else none
 |.con c l,t,out=>if zbM (.con c l) t then colL own l (kids t) out else none
 |.fn a b,t,out=>if zbM (.fn a b) t then(match kids t with|u::v::_=>(match colT own a u out with|some o=>colT own b v o|none=>none)|_=>none) else none
 |.all x p,t,out=>if zbM (.all x p) t then(match kids t with|u::_=>colT own p u out|_=>none) else none
def colL(own:List Name):List Ty->List Ty->List (Name × Ty)->Option (List (Name × Ty))
 |[],_,out=>some out
 |_::_,[],_=>none
 |p::l,u::m,out=>match colT own p u out with|some o=>colL own l m o|none=>none
end
theorem zj9 {p t:Ty}(h:zbM p t=true):(kids p).length=(kids t).length:=by
 unfold zbM at h;simp at h;exact h.1.2
theorem zpY(own:List Name)(p t:Ty)(out:List (Name × Ty))(h:∀x,p=.var x->x∉own):colT own p t out=if zbM p t then colL own (kids p) (kids t) out else none:=by
 cases p with
 |var x=>rw[colT,if_neg (h x rfl)];show _=if _ then colL own [] _ out else none;rw[colL]
 |mt n=>rw[colT];show _=if _ then colL own [] _ out else none;rw[colL]
 |con c l=>rw[colT];rfl
 |fn a b =>
  rw[colT]
  by_cases hl:zbM (.fn a b) t=true
  ·have hn:=zj9 hl
   rw[if_pos hl,if_pos hl]
   show _=colL own [a,b] (kids t) out;rcases hk:kids t with - |⟨u,- |⟨v,l⟩⟩
   ·rw[hk]at hn;simp[kids]at hn
   ·rw[hk]at hn;simp[kids]at hn
   ·rw[colL]
    show(match colT own a u out with|some o=>colT own b v o|none=>none)=_;cases colT own a u out with
    |none=>rfl
    |some o =>
     show colT own b v o=colL own [b] (v::l) o;rw[colL]
     cases colT own b v o with
     |none=>rfl
     |some o2=>show _=colL own [] l o2;rw[colL]
  ·rw[if_neg hl,if_neg hl]
 |all x p =>
  rw[colT]
  by_cases hl:zbM (.all x p) t=true
  ·have hn:=zj9 hl
   rw[if_pos hl,if_pos hl]
   show _=colL own [p] (kids t) out;rcases hk:kids t with - |⟨u,l⟩
   ·rw[hk]at hn;simp[kids]at hn
   ·rw[colL]
    show colT own p u out=_;cases colT own p u out with
    |none=>rfl
    |some o=>show _=colL own [] l o;rw[colL]
  ·rw[if_neg hl,if_neg hl]
def mkB(own:List Name)(s:Name->Dt)(l:List Name):List (Name × Ty):=(l.filter λx=>decide (x∈own)).map λx=>(x,tyD (s x))
theorem zn0(f:Name->Ty)(x:Name)(l:List Name):look x (l.map λy=>(y,f y))=if x∈l then some (f x) else none:=by
 induction l with
 |nil=>simp[look]
 |cons y r ih =>
  rw[List.map_cons,look]
  by_cases e:y=x
  ·rw[if_pos (show(y,f y).1=x from e)];simp[e]
  ·rw[if_neg (show ¬(y,f y).1=x from e),ih]
   have:(x∈y::r)↔x∈r:=by simp;exact λh=>absurd h.symm e
   simp only[this]
theorem zka(own:List Name)(s:Name->Dt)(x:Name)(l:List Name)(hx:x∈own):look x (mkB own s l)=if x∈l then some (tyD (s x)) else none:=by
 unfold mkB;rw[zn0 (λy=>tyD (s y))]
 have:(x∈l.filter λx=>decide (x∈own))↔x∈l:=by simp[hx]
 simp only[this]
theorem zrq(own:List Name)(s:Name->Dt)(x:Name)(l:List Name)(hx:x∈own):(if(look x (mkB own s l)).isSome then mkB own s l else mkB own s l++[(x,tyD (s x))])=mkB own s (addN x l):=by
 rw[zka own s x l hx,addN]
 by_cases h:x∈l
 ·rw[if_pos h,if_pos h];rfl
 ·rw[if_neg h,if_neg h]
  show mkB own s l++_=_;unfold mkB;rw[List.filter_append,List.map_append]
  simp[hx]
theorem zrr(own:List Name)(s:Name->Dt)(x:Name)(l:List Name)(hx:x∉own):mkB own s (addN x l)=mkB own s l:=by
 rw[addN]
 split
 ·rfl
 ·unfold mkB;rw[List.filter_append,List.map_append];simp[hx]
theorem zcf(p t:Ty)(h1:kd p=kd t)(h2:nn p=nn t)(h3:(kids p).length=(kids t).length)(h4:kd p=3->nmB p=nmB t):zbM p t=true:=by
 unfold zbM;by_cases h:kd p=3
 ·simp[h1,h2,h3,h4 h]
 ·have:¬kd t=3:=by rw[<-h1];exact h
  simp[h1,h2,h3,this]
theorem zfc(c:UInt8)(but:List Name):(l:List Dt)->∀ys k,(zaC c but ys l k).1.length=l.length
 |[],ys,k=>by rw[zaC];rfl
 |t::r,ys,k=>by rw[zaC,List.length_cons,List.length_cons,zfc c but r]
theorem ziO(f:Name->Dt)(g:Nat->Dt):(l:List Dt)->(zax f g l).length=l.length
 |[]=>by rw[zax]
 |t::r=>by rw[zax,List.length_cons,List.length_cons,ziO f g r]
def ColG(c:UInt8)(but own vars:List Name)(s:Name->Dt)(ys:List Name)(d:Dt)(k:Nat)(l:List Name):Prop :=
 (zan c but ys (repD (tau vars s) .mt d) k).2=(zan c but ys d k).2/\colT own (zan c but ys d k).1 (zan c but ys (repD (tau vars s) .mt d) k).1 (mkB own s l)=some (mkB own s (zaA d l))
def zmz(c:UInt8)(but own vars:List Name)(s:Name->Dt)(ys:List Name)(d:List Dt)(k:Nat)(l:List Name):Prop :=
 (zaC c but ys (zax (tau vars s) .mt d) k).2=(zaC c but ys d k).2/\colL own (zaC c but ys d k).1 (zaC c but ys (zax (tau vars s) .mt d) k).1 (mkB own s l)=some (mkB own s (zbg d l))
mutual
theorem zfY(c:UInt8)(but own vars:List Name)(s:Name->Dt)(hs:∀x∈vars,Clo 0 (s x)/\zaH (s x)=false)(hob:∀x∈own,x∈but):(d:Dt)->∀ys k l,(∀y∈ys,y∉own)->Clo ys.length d->(∀x,FvOcc x d->(x∈own↔x∈vars)) ->
  k+(zai d+1)*(but.length+1)<10 ^ 20->ColG c but own vars s ys d k l
 |.fv x,ys,k,l,hy,hc,ho,hb=>by
  have ho:=ho x (by rw[FvOcc]);unfold ColG;rw[repD,tau,zan,zaA]
  by_cases hx:x∈own
  ·have hv:=ho.1 hx
   rw[if_pos hv,zen c but ys (s x) k (hs x hv).1 (hs x hv).2]
   refine⟨rfl,?_⟩;show colT own (.var x) (tyD (s x)) _=_;rw[colT,if_pos hx,zrq own s x l hx]
  ·have hv:x∉vars:=λh=>hx (ho.2 h)
   rw[if_neg hv,zan]
   refine⟨rfl,?_⟩;show colT own (.var x) (.var x) _=_;rw[colT,if_neg hx,if_pos (zcf _ _ rfl rfl rfl (λ_=>rfl)),zrr own s x l hx]
 |.bv i,ys,k,l,hy,hc,ho,hb=>by
  rw[Clo]at hc
  unfold ColG;rw[repD,zan,zaA]
  refine⟨rfl,?_⟩;show colT own (.var (ys.getD i [])) (.var (ys.getD i [])) _=_;rw[colT,if_neg (hy _ (zbT ys i hc)),if_pos (zcf _ _ rfl rfl rfl (λ_=>rfl))]
 |.mt n,ys,k,l,hy,hc,ho,hb=>by
  unfold ColG;rw[repD,zan,zaA]
  refine⟨rfl,?_⟩;show colT own (.mt n) (.mt n) _=_;rw[colT,if_pos (zcf _ _ rfl rfl rfl (λ_=>rfl))]
 |.con e m,ys,k,l,hy,hc,ho,hb=>by
  rw[Clo]at hc
  rw[zai]at hb
  obtain⟨h1,h2⟩:=zlT c but own vars s hs hob m ys k l hy hc (λx hx=>ho x (by rw[FvOcc];exact hx)) hb;unfold ColG;rw[repD,zan,zan,zaA]
  refine⟨h1,?_⟩;show colT own (.con e _) (.con e _) _=_;have hl:zbM (.con e (zaC c but ys m k).1) (.con e (zaC c but ys (zax (tau vars s) .mt m) k).1)=true:=zcf _ _ rfl rfl (by show(zaC c but ys m k).1.length=(zaC c but ys _ k).1.length;rw[zfc,zfc,ziO]) (λ_=>rfl);rw[colT,if_pos hl]
  exact h2
 |.fn a b,ys,k,l,hy,hc,ho,hb=>by
  rw[Clo]at hc
  rw[zai]at hb
  have e:(zai a+zai b+1)*(but.length+1)=zai a*(but.length+1)+(zai b+1)*(but.length+1):=by rw[<-Nat.add_mul,Nat.add_assoc]
  have e3:(zai b+1)*(but.length+1)=zai b*(but.length+1)+(but.length+1):=by rw[Nat.add_mul,Nat.one_mul]
  have e4:(zai a+1)*(but.length+1)=zai a*(but.length+1)+(but.length+1):=by rw[Nat.add_mul,Nat.one_mul]
  obtain⟨a1,a2⟩:=zbz c but a ys k (by omega);obtain⟨h1,h2⟩:=zfY c but own vars s hs hob a ys k l hy hc.1 (λx hx=>ho x (by rw[FvOcc];exact .inl hx)) (by omega);obtain⟨j1,j2⟩:=zfY c but own vars s hs hob b ys (zan c but ys a k).2 (zaA a l) hy hc.2 (λx hx=>ho x (by rw[FvOcc];exact .inr hx)) (by omega);unfold ColG;rw[repD,zan,zan,zaA,h1]
  refine⟨j1,?_⟩;show colT own (.fn _ _) (.fn _ _) _=_;have hl:zbM (.fn (zan c but ys a k).1 (zan c but ys b (zan c but ys a k).2).1) (.fn (zan c but ys (repD (tau vars s) .mt a) k).1 (zan c but ys (repD (tau vars s) .mt b) (zan c but ys a k).2).1)=true:=zcf _ _ rfl rfl rfl (λh=>by cases h);rw[colT,if_pos hl]
  show(match colT own _ _ _ with|some o=>colT own _ _ o|none=>none)=_;rw[h2]
  exact j2
 |.all t,ys,k,l,hy,hc,ho,hb=>by
  rw[Clo]at hc
  rw[zai]at hb
  have e4:(zai t+1+1)*(but.length+1)=zai t*(but.length+1)+(but.length+1)+(but.length+1):=by rw[Nat.add_mul,Nat.add_mul,Nat.one_mul]
  have e5:(zai t+1)*(but.length+1)=zai t*(but.length+1)+(but.length+1):=by rw[Nat.add_mul,Nat.one_mul]
  obtain⟨n0,n1,n2⟩:=zaw c but k (by omega);obtain⟨h1,h2⟩:=zfY c but own vars s hs hob t (nm c (zal c but k)::ys) (zal c but k+1) l (λy hm=>by
   rcases List.mem_cons.1 hm with rfl|hm
   ·exact λh=>n0 (hob _ h)
   ·exact hy y hm) hc (λx hx=>ho x (by rw[FvOcc];exact hx)) (by omega)
  unfold ColG;rw[repD,zan,zan,zaA]
  refine⟨h1,?_⟩;show colT own (.all _ _) (.all _ _) _=_;have hl:zbM (.all (nm c (zal c but k)) (zan c but (nm c (zal c but k)::ys) t (zal c but k+1)).1) (.all (nm c (zal c but k)) (zan c but (nm c (zal c but k)::ys) (repD (tau vars s) .mt t) (zal c but k+1)).1)=true:=zcf _ _ rfl rfl rfl (λh=>by cases h);rw[colT,if_pos hl]
  exact h2
theorem zlT(c:UInt8)(but own vars:List Name)(s:Name->Dt)(hs:∀x∈vars,Clo 0 (s x)/\zaH (s x)=false)(hob:∀x∈own,x∈but):(d:List Dt)->∀ys k l,(∀y∈ys,y∉own)->CloL ys.length d->(∀x,zaT x d->(x∈own↔x∈vars)) ->
  k+(zaF d+1)*(but.length+1)<10 ^ 20->zmz c but own vars s ys d k l
 |[],ys,k,l,hy,hc,ho,hb=>by
  unfold zmz;rw[zax,zaC,zbg]
  exact⟨rfl,by show colL own [] [] _=_;rw[colL]⟩
 |a::b,ys,k,l,hy,hc,ho,hb=>by
  rw[CloL]at hc
  rw[zaF]at hb
  have e:(zai a+zaF b+1)*(but.length+1)=zai a*(but.length+1)+(zaF b+1)*(but.length+1):=by rw[<-Nat.add_mul,Nat.add_assoc]
  have e3:(zaF b+1)*(but.length+1)=zaF b*(but.length+1)+(but.length+1):=by rw[Nat.add_mul,Nat.one_mul]
  have e4:(zai a+1)*(but.length+1)=zai a*(but.length+1)+(but.length+1):=by rw[Nat.add_mul,Nat.one_mul]
  obtain⟨a1,a2⟩:=zbz c but a ys k (by omega);obtain⟨h1,h2⟩:=zfY c but own vars s hs hob a ys k l hy hc.1 (λx hx=>ho x (by rw[zaT];exact .inl hx)) (by omega);obtain⟨j1,j2⟩:=zlT c but own vars s hs hob b ys (zan c but ys a k).2 (zaA a l) hy hc.2 (λx hx=>ho x (by rw[zaT];exact .inr hx)) (by omega);unfold zmz;rw[zax,zaC,zaC,zbg,h1]
  refine⟨j1,?_⟩;show colL own (_::_) (_::_) _=_;rw[colL,h2]
  exact j2
end
mutual
theorem zfZ(own:List Name):(p:Ty)->∀(t:Ty)(out o:List (Name × Ty)),colT own p t out=some o->(∀e∈out,e.1∈own)->∀e∈o,e.1∈own
 |.var x,t,out,o,h,ho=>by
  rw[colT]at h
  by_cases hx:x∈own
  ·rw[if_pos hx]at h
   injection h with h;subst h;split
   ·exact ho
   ·intro e he
    rcases List.mem_append.1 he with he|he
    ·exact ho e he
    ·rw[List.mem_singleton.1 he];exact hx
  ·rw[if_neg hx]at h
   split at h
   ·injection h with h;subst h;exact ho
   ·cases h
 |.mt n,t,out,o,h,ho=>by
  rw[colT]at h
  split at h
  ·injection h with h;subst h;exact ho
  ·cases h
 |.con c l,t,out,o,h,ho=>by
  rw[colT]at h
  split at h
  ·exact zlU own l _ out o h ho
  ·cases h
 |.fn a b,t,out,o,h,ho=>by
  rw[colT]at h
  split at h
  ·rcases hk:kids t with - |⟨u,- |⟨v,l⟩⟩
   ·rw[hk]at h;cases h
   ·rw[hk]at h;cases h
   ·rw[hk]at h
    have h:(match colT own a u out with|some o=>colT own b v o|none=>none)=some o:=h;cases h1:colT own a u out with
    |none=>rw[h1]at h;cases h
    |some o1=>rw[h1]at h;exact zfZ own b v o1 o h (zfZ own a u out o1 h1 ho)
  ·cases h
 |.all x p,t,out,o,h,ho=>by
  rw[colT]at h
  split at h
  ·rcases hk:kids t with - |⟨u,l⟩
   ·rw[hk]at h;cases h
   ·rw[hk]at h;exact zfZ own p u out o h ho
  ·cases h
theorem zlU(own:List Name):(p:List Ty)->∀(t:List Ty)(out o:List (Name × Ty)),colL own p t out=some o->(∀e∈out,e.1∈own)->∀e∈o,e.1∈own
 |[],t,out,o,h,ho=>by rw[colL]at h;injection h with h;subst h;exact ho
 |p::l,[],out,o,h,ho=>by rw[colL]at h;cases h
 |p::l,u::m,out,o,h,ho=>by
  rw[colL]at h
  cases h1:colT own p u out with
  |none=>rw[h1]at h;cases h
  |some o1=>rw[h1]at h;exact zlU own l m o1 o h (zfZ own p u out o1 h1 ho)
end
def sig(l:List (Name × Ty))(x:Name):Dt:=match look x l with|some u=>db [] u|none=>.fv x
def ownN(vars:List Name)(p:Ty):List Name:=p.free.filter λx=>decide (x∈vars)
def butM(vars:List Name)(p t:Ty):List Name:=vars++p.free++t.free
theorem zcD(u:Ty)(x:Name):x∈u.free↔FvOcc x (db [] u):=by rw[<-zbH];exact zeA u x
theorem zcI(vars:List Name)(p:Ty)(x:Name):x∈ownN vars p↔x∈vars/\FvOcc x (db [] p):=by
 unfold ownN;rw[List.mem_filter,zcD]
 simp;exact And.comm
def zbU(vars:List Name)(p t:Ty)(l:List (Name × Ty)):Prop :=
 colT (ownN vars p) (numb 122 (butM vars p t) [] [] p 0).1 (numb 122 (butM vars p t) [] [] t 0).1 []=some l/\(∀e∈l,e.2.poly=false/\∀z∈e.2.free,z∈t.free)/\repD (sig l) .mt (db [] p)=db [] t
theorem zgC {vars:List Name} {p t:Ty} {l:List (Name × Ty)}(h:zbU vars p t l):zco vars p t:=by
 obtain⟨h1,h2,h3⟩:=h;have hin:=zfZ _ _ _ [] l h1 (λ_ h=>(List.not_mem_nil h).elim);refine⟨sig l,λx hx=>?_,?_⟩
 ·unfold sig
  cases hl:look x l with
  |none=>exact⟨by rw[Clo];trivial,by rw[zaH]⟩
  |some u=>exact⟨zhr u,by show zaH (db [] u)=false;rw[<-zcH];exact(h2 _ (zbF x u l hl)).1⟩
 ·rw[<-h3]
  refine zb2 _ _ _ _ (λx _=>?_);rw[tau]
  split
  ·rfl
  ·rename_i hv
   unfold sig;cases hl:look x l with
   |none=>rfl
   |some u=>exact absurd ((zcI vars p x).1 (hin _ (zbF x u l hl))).1 hv
theorem zgD(vars:List Name)(p t:Ty)(s:Name->Dt)(h1:∀x∈vars,Clo 0 (s x)/\zaH (s x)=false)(h2:db [] t=repD (tau vars s) .mt (db [] p))(hb:(p.size+1)*((butM vars p t).length+1)<10 ^ 20):zbU vars p t (mkB (ownN vars p) s p.free):=by
 have hal:=zbv [] p;have hb2:0+(zai (db [] p)+1)*((butM vars p t).length+1)<10 ^ 20:=by
  have:=Nat.mul_le_mul (show zai (db [] p)+1<=p.size+1 by omega) (Nat.le_refl ((butM vars p t).length+1));omega
 obtain⟨-,hc⟩:=zfY 122 (butM vars p t) (ownN vars p) vars s h1 (λx hx=>by
  have:=(zcI vars p x).1 hx;unfold butM;exact List.mem_append_left _ (List.mem_append_left _ this.1)) (db [] p) [] 0 [] (λ_ h=>(List.not_mem_nil h).elim) (zbI [] p) (λx hx=>by rw[zcI];exact⟨λh=>h.1,λh=>⟨h,hx⟩⟩) hb2
 have hf:zaA (db [] p) []=p.free:=by
  unfold Ty.free;rw[zbZ [] [] (λ_=>Iff.rfl)]
 have hmem:∀e∈mkB (ownN vars p) s p.free,e.1∈ownN vars p/\e.2=tyD (s e.1):=by
  intro e he;unfold mkB at he;obtain⟨x,hx,rfl⟩:=List.mem_map.1 he;have:=(List.mem_filter.1 hx).2;exact⟨by simpa using this,rfl⟩
 refine⟨?_,λe he=>?_,?_⟩
 ·rw[zbY,zbY,h2,<-hf]
  exact hc
 ·obtain⟨hx,e2⟩:=hmem e he
  obtain⟨hv,hoc⟩:=(zcI vars p e.1).1 hx;have hd:=zeP _ (h1 e.1 hv).1 (h1 e.1 hv).2;rw[e2]
  refine⟨by rw[zcH [],hd];exact(h1 e.1 hv).2,λz hz=>?_⟩;rw[zcD,hd]at hz
  rw[zcD,h2]
  exact zeQ _ _ e.1 z (by rw[tau,if_pos hv];exact hz) _ hoc
 ·rw[h2]
  refine zb2 _ _ _ _ (λx hx=>?_);rw[tau]
  unfold sig;by_cases hv:x∈vars
  ·rw[if_pos hv,zka _ s x _ ((zcI vars p x).2 ⟨hv,hx⟩),if_pos ((zcD p x).2 hx)]
   exact zeP _ (h1 x hv).1 (h1 x hv).2
  ·rw[if_neg hv]
   cases hl:look x (mkB (ownN vars p) s p.free) with
   |none=>rfl
   |some u=>exact absurd ((zcI vars p x).1 (hmem _ (zbF x u _ hl)).1).1 hv
theorem zn1(vars:List Name)(p t:Ty)(l:List (Name × Ty))(h:zbU vars p t l)(hb:(p.size+1)*((butM vars p t).length+1)<10 ^ 20):(za7 (zau vars p t) (zam p)).map (λe=>(e.1,db [] e.2))=l.map λe=>(e.1,db [] e.2):=by
 obtain⟨s,h1,h2⟩:=zgC h;have hl:l=mkB (ownN vars p) s p.free:=by
  have h3:=(zgD vars p t s h1 h2 hb).1;rw[h.1]at h3
  injection h3
 have hf:=find_ok vars s (λx hx=>(h1 x hx).1) p [] [] t [] h2 (λ_ h=>(List.not_mem_nil h).elim);have key:∀m:List Name,(∀x∈m,FvOcc x (db [] p))->(za7 (zau vars p t) m).map (λe=>(e.1,db [] e.2))=(mkB (ownN vars p) s m).map λe=>(e.1,db [] e.2):=by
  intro m;induction m with
  |nil=>intro _;rfl
  |cons x r ih =>
   intro hm;have hx:=hm x (List.mem_cons_self ..);have ih:=ih (λy hy=>hm y (List.mem_cons_of_mem _ hy));rw[za7]
   by_cases hv:x∈vars
   ·obtain⟨u,hu⟩:=zg0 x _ (hf.got x hv hx)
    have hu':look x (zau vars p t)=some u:=hu;have hd:=(hf.all _ (zbF x u _ hu)).2;have ho:=(zcI vars p x).2 ⟨hv,hx⟩;rw[hu']
    show(x,db [] u)::_=_;rw[ih]
    unfold mkB;rw[List.filter_cons_of_pos (by simpa using ho),List.map_cons,List.map_cons]
    show _=(x,db [] (tyD (s x)))::_;rw[zeP _ (h1 x hv).1 (h1 x hv).2]
    have hd:db [] u=s x:=hd;rw[hd]
   ·have hn:look x (zau vars p t)=none:=by
     cases hq:look x (zau vars p t) with
     |none=>rfl
     |some u=>exact absurd (zc7 vars p [] t [] (λ_ h=>(List.not_mem_nil h).elim) _ (zbF x u _ hq)) hv
    rw[hn]
    show(za7 (zau vars p t) r).map _=_;rw[ih]
    unfold mkB;rw[List.filter_cons_of_neg (by simp;exact λh=>hv ((zcI vars p x).1 h).1)]
 rw[hl,zbH]
 exact key p.free (λx hx=>(zcD p x).1 hx)
def fstF(K W:List Name)(x:Name):Dt:=match idx x K with|some i=>.fv (W.getD i [])|none=>.fv x
theorem zpZ(K W:List Name)(x w:Name)(D:Dt)(hl:K.length=W.length)(hw:∀y∈W,y≠x):subD x (.fv w) (repD (fstF K W) .mt D)=repD (fstF (K++[x]) (W++[w])) .mt D:=by
 unfold subD;rw[zcS]
 congr 1
 ·funext y
  unfold fstF;cases hi:idx y K with
  |some i =>
   have hlt:=zcz y K i hi;rw[zd0 y K [x] i hi]
   show repD _ _ (.fv (W.getD i []))=.fv ((W++[w]).getD i []);rw[repD,sub,if_neg (hw _ (zbT W i (by omega))),ziL _ _ _ (by omega)]
  |none =>
   rw[zd1 y K [x] hi,idx]
   show repD _ _ (.fv y)=_;rw[repD,sub]
   by_cases e:y=x
   ·rw[if_pos e,if_pos e]
    show Dt.fv w=.fv ((W++[w]).getD (0+K.length) []);rw[Nat.zero_add,hl,ziM]
   ·rw[if_neg e,if_neg e];rfl
def sndF(K W:List Name)(T:List Ty)(x:Name):Dt:=match idx x K with|some i=>(match T[i]? with|some u=>db [] u|none=>.fv (W.getD i []))|none=>.fv x
theorem zrs(K W:List Name):sndF K W []=fstF K W:=by
 funext x
 unfold sndF fstF;cases idx x K with
 |none=>rfl
 |some i=>simp
theorem zp0(K W:List Name)(T:List Ty)(u:Ty)(D:Dt)(hl:K.length=W.length)(hn:W.Nodup)(hi:T.length<W.length)(hT:∀v∈T,¬FvOcc (W.getD T.length []) (db [] v))(hD:¬FvOcc (W.getD T.length []) D):subD (W.getD T.length []) (db [] u) (repD (sndF K W T) .mt D)=repD (sndF K W (T++[u])) .mt D:=by
 unfold subD;rw[zcS]
 have hg:(λn=>repD (sub (W.getD T.length []) (db [] u)) .mt (.mt n))=.mt:=by funext n;rw[repD]
 rw[hg]
 refine zb2 _ _ _ _ (λy hy=>?_);unfold sndF;cases hk:idx y K with
 |some i =>
  have hlt:=zcz y K i hk;show repD _ _ (match T[i]? with|some u=>db [] u|none=>.fv (W.getD i []))=(match (T++[u])[i]? with|some u=>db [] u|none=>.fv (W.getD i []));rcases Nat.lt_trichotomy i T.length with h|h|h
  ·rw[List.getElem?_append_left h,List.getElem?_eq_getElem h]
   exact zpl _ _ _ (hT _ (List.getElem_mem h))
  ·subst h
   rw[List.getElem?_append_right (Nat.le_refl _),List.getElem?_eq_none (Nat.le_refl _)]
   simp;rw[repD,sub,if_pos rfl]
  ·rw[List.getElem?_eq_none (by omega),List.getElem?_eq_none (by simp;omega)]
   show repD _ _ (.fv (W.getD i []))=.fv (W.getD i []);rw[repD,sub,if_neg]
   intro e;have h1:=zfy W hn i (by omega);have h2:=zfy W hn T.length hi;rw[e,h2]at h1
   injection h1 with h1;omega
 |none =>
  show repD _ _ (.fv y)=.fv y;rw[repD,sub,if_neg]
  rintro rfl;exact hD hy
theorem zkb(x:Name):(l:List (Name × Ty))->look x l=(idx x (keysOf l)).bind λi=>(l.map Prod.snd)[i]?
 |[]=>rfl
 |e::r=>by
  rw[show keysOf (e::r)=e.1::keysOf r from rfl,idx,look]
  by_cases h:x=e.1
  ·rw[if_pos h,if_pos h.symm];rfl
  ·rw[if_neg h,if_neg (λh'=>h h'.symm),zkb x r]
   cases idx x (keysOf r) with
   |none=>rfl
   |some i=>simp
theorem zrt(l:List (Name × Ty))(W:List Name):sndF (keysOf l) W (l.map Prod.snd)=sig l:=by
 funext x
 unfold sndF sig;have h:=zkb x l;cases hi:idx x (keysOf l) with
 |none=>rw[hi]at h;rw[h];rfl
 |some i =>
  have hlt:=zcz x _ i hi;rw[hi]at h
  have h:look x l=(l.map Prod.snd)[i]?:=h;have hlt':i<(l.map Prod.snd).length:=by unfold keysOf at hlt;simpa using hlt
  rw[h]
  show(match (l.map Prod.snd)[i]? with|some u=>db [] u|none=>.fv (W.getD i []))=_;rw[List.getElem?_eq_getElem hlt']
mutual
theorem zdr(n:Name)(ys:List Name):(d:Dt)->∀k,inst (fvs [n]) k (inst (fvs ys) (k+1) d)=inst (fvs (n::ys)) k d
 |.fv x,k=>by rw[inst,inst,inst]
 |.bv i,k=>by
  rw[inst,inst]
  by_cases h1:i<k+1
  ·rw[if_pos h1,inst]
   by_cases h2:i<k
   ·rw[if_pos h2,if_pos h2]
   ·have e:i-k=0:=by omega
    rw[if_neg h2,if_neg h2,e];rfl
  ·have h2:¬i<k:=by omega
   have e:i-k=(i-(k+1))+1:=by omega
   rw[if_neg h1,if_neg h2,e]
   unfold fvs;rw[inst,List.getD_cons_succ]
 |.mt n,k=>by rw[inst,inst,inst]
 |.con c l,k=>by rw[inst,inst,inst,zhx n ys l k]
 |.fn a b,k=>by rw[inst,inst,inst,zdr n ys a k,zdr n ys b k]
 |.all t,k=>by rw[inst,inst,inst,zdr n ys t (k+1)]
theorem zhx(n:Name)(ys:List Name):(l:List Dt)->∀k,zaY (fvs [n]) k (zaY (fvs ys) (k+1) l)=zaY (fvs (n::ys)) k l
 |[],k=>by rw[zaY,zaY,zaY]
 |t::r,k=>by rw[zaY,zaY,zaY,zdr n ys t k,zhx n ys r k]
end
mutual
theorem zds(s:Nat->Dt):(d:Dt)->∀k,Clo k d->inst s k d=d
 |.fv x,k,_=>by rw[inst]
 |.bv i,k,h=>by rw[Clo]at h;rw[inst,if_pos h]
 |.mt n,k,_=>by rw[inst]
 |.con c l,k,h=>by rw[Clo]at h;rw[inst,zhy s l k h]
 |.fn a b,k,h=>by rw[Clo]at h;rw[inst,zds s a k h.1,zds s b k h.2]
 |.all t,k,h=>by rw[Clo]at h;rw[inst,zds s t (k+1) h]
theorem zhy(s:Nat->Dt):(l:List Dt)->∀k,CloL k l->zaY s k l=l
 |[],k,_=>by rw[zaY]
 |t::r,k,h=>by rw[CloL]at h;rw[zaY,zds s t k h.1,zhy s r k h.2]
end
def PeelI(c:UInt8)(but:List Name)(t:Ty)(names:List Name)(k:Nat)(cur:Ty):Prop :=
 ∃xs rest,db [] cur=inst (fvs names.reverse) 0 (db xs rest)/\zaG c but t 0=names++zaG c but rest k/\begN t=xs.reverse++begN rest/\zbA t=zbA rest
theorem PeelI.start(c:UInt8)(but:List Name)(t:Ty):PeelI c but t [] 0 t:=⟨[],t,(zds _ _ 0 (zhr t)).symm,rfl,rfl,rfl⟩
theorem zmA {s:Nat->Dt} {xs:List Name} {rest:Ty} {d:Dt}(hs:∀i,∃x,s i=.fv x)(h:.all d=inst s 0 (db xs rest)):∃x u,rest=.all x u:=by
 cases rest with
 |all x u=>exact⟨x,u,rfl⟩
 |var y =>
  rw[db]at h
  cases hi:idx y xs with
  |none=>rw[hi]at h;have h:_=inst s 0 (.fv y):=h;rw[inst]at h;cases h
  |some i =>
   rw[hi]at h
   have h:_=inst s 0 (.bv i):=h;obtain⟨x,hx⟩:=hs (i-0);rw[inst,if_neg (by omega),hx]at h
   cases h
 |mt n=>rw[db,inst]at h;cases h
 |con c l=>rw[db,inst]at h;cases h
 |fn a b=>rw[db,inst]at h;cases h
theorem PeelI.step {c:UInt8} {but:List Name} {t b cur':Ty} {z:Name} {names:List Name} {k:Nat}(h:PeelI c but t names k (.all z b))(hd:db [] cur'=subD z (.fv (nm c (zal c but k))) (db [] b)):PeelI c but t (names++[nm c (zal c but k)]) (zal c but k+1) cur':=by
 obtain⟨xs,rest,h1,h2,h3,h4⟩:=h;rw[db]at h1
 obtain⟨x,u,rfl⟩:=zmA (λi=>⟨_,rfl⟩) h1;rw[db,inst]at h1
 injection h1 with h1;refine⟨x::xs,u,?_,?_,?_,?_⟩
 ·rw[hd]
  unfold subD;have hr:=zc8 [z] (fvs [nm c (zal c but k)]) (sub z (.fv (nm c (zal c but k)))) (λy=>by
   rw[sub,idx]
   by_cases e:y=z
   ·rw[if_pos e,if_pos e];rfl
   ·rw[if_neg e,if_neg e];rfl) b []
  rw[hr]
  show inst _ 0 (db [z] b)=_;rw[h1,List.reverse_append]
  exact zdr _ _ _ 0
 ·rw[h2,zaG,List.append_assoc];rfl
 ·rw[h3,begN,List.reverse_cons,List.append_assoc];rfl
 ·rw[h4,zbA]
theorem zn2 {c:UInt8} {but:List Name} {t cur:Ty} {names:List Name} {k:Nat}(h:PeelI c but t names k cur)(hk:kd cur≠5):names=zaG c but t 0/\db [] cur=inst (fvs (newY c but t)) 0 (core t):=by
 obtain⟨xs,rest,h1,h2,h3,h4⟩:=h;have hr:∀x u,rest≠.all x u:=by
  rintro x u rfl;rw[db,inst]at h1
  cases cur with
  |all y v=>exact hk rfl
  |var y=>rw[db,idx]at h1;cases h1
  |mt n=>rw[db]at h1;cases h1
  |con d l=>rw[db]at h1;cases h1
  |fn a b=>rw[db]at h1;cases h1
 have hp:zaG c but rest k=[]/\begN rest=[]/\zbA rest=rest:=by
  cases rest with
  |all x u=>exact absurd rfl (hr x u)
  |var y=>exact⟨rfl,rfl,rfl⟩
  |mt n=>exact⟨rfl,rfl,rfl⟩
  |con d l=>exact⟨rfl,rfl,rfl⟩
  |fn a b=>exact⟨rfl,rfl,rfl⟩
 rw[hp.1,List.append_nil]at h2
 rw[hp.2.1,List.append_nil]at h3
 rw[hp.2.2]at h4
 refine⟨h2.symm,?_⟩;unfold newY core;rw[h2,h3,List.reverse_reverse,h4]
 exact h1
end Go.Proofs.YtaomnlcplmkokaaGreatDoor
