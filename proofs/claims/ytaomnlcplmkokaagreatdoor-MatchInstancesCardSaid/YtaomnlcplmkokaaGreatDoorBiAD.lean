import Derived.Test.YtaomnlcplmkokaaGreatDoorBiAB
import Derived.Sort.MapsRangeIn
set_option maxHeartbeats 12800000
namespace Go.Proofs.YtaomnlcplmkokaaGreatDoor
open Go.RowKit Lx Tx Go.Maps Go.WideMaps Go.Shelf
set_option maxRecDepth 100000
theorem zmy(free but:List Name)(x:Name)(s:Nat):(za5 free but x s).1=x/\(za5 free but x s).2=s\/(za5 free but x s).1=nm 120 (zal 120 but s)/\(za5 free but x s).2=zal 120 but s+1:=by
 unfold za5;split
 ·exact .inr ⟨rfl,rfl⟩
 ·exact .inl ⟨rfl,rfl⟩
mutual
theorem zeO(free but:List Name)(leaf:Ty->Ty)(hl:∀t,kd t=1\/kd t=2->Nm t->Nm (leaf t)):(t:Ty)->∀(env:List (Name × Name))(s:Nat),(∀p∈env,Gd 1 p.2)->Nm t->s+(t.fas+1)*(but.length+1)<10 ^ 15 ->
  Nm (chg (za5 free but) leaf env t s).1/\(chg (za5 free but) leaf env t s).2<=s+t.fas*(but.length+1)
 |.var x,env,s,he,hn,hb=>by
  rw[chg]
  refine⟨?_,Nat.le_add_right _ _⟩;cases h:look x env with
  |none=>exact hl _ (.inl rfl) hn
  |some y =>
   obtain⟨p,hp,rfl⟩:=zhb x y env h;exact .var _ (he p hp)
 |.mt n,env,s,he,hn,hb=>by rw[chg];exact⟨hl _ (.inr rfl) hn,Nat.le_add_right _ _⟩
 |.con c l,env,s,he,hn,hb=>by
  rw[chg]
  rw[Ty.fas]at hb ⊢
  cases hn with
  |con _ _ hc hk =>
   obtain⟨h1,h2⟩:=zj7 free but leaf hl l env s he hk hb;exact⟨.con c _ hc h1,h2⟩
 |.fn a b,env,s,he,hn,hb=>by
  rw[chg]
  rw[Ty.fas]at hb ⊢
  have e:(a.fas+b.fas+1)*(but.length+1)=a.fas*(but.length+1)+(b.fas+1)*(but.length+1):=by rw[<-Nat.add_mul,Nat.add_assoc]
  have e3:(b.fas+1)*(but.length+1)=b.fas*(but.length+1)+(but.length+1):=by rw[Nat.add_mul,Nat.one_mul]
  have e4:(a.fas+1)*(but.length+1)=a.fas*(but.length+1)+(but.length+1):=by rw[Nat.add_mul,Nat.one_mul]
  cases hn with
  |fn _ _ ha hb2 =>
   obtain⟨h1,h2⟩:=zeO free but leaf hl a env s he ha (by omega);obtain⟨j1,j2⟩:=zeO free but leaf hl b env (chg (za5 free but) leaf env a s).2 he hb2 (by omega);exact⟨.fn _ _ h1 j1,Nat.le_trans j2 (by rw[Nat.add_mul];omega)⟩
 |.all x t,env,s,he,hn,hb=>by
  rw[chg]
  rw[Ty.fas]at hb ⊢
  have e4:(t.fas+1+1)*(but.length+1)=t.fas*(but.length+1)+(but.length+1)+(but.length+1):=by rw[Nat.add_mul,Nat.add_mul,Nat.one_mul]
  have e5:(t.fas+1)*(but.length+1)=t.fas*(but.length+1)+(but.length+1):=by rw[Nat.add_mul,Nat.one_mul]
  obtain⟨_,n1,n2⟩:=zaw 120 but s (by omega);cases hn with
  |all _ _ hx ht =>
   have hg:Gd 1 (za5 free but x s).1/\(za5 free but x s).2<=s+(but.length+1):=by
    rcases zmy free but x s with⟨e1,e2⟩|⟨e1,e2⟩
    ·exact⟨by rw[e1];exact hx,by omega⟩
    ·exact⟨by rw[e1];exact znB _ (by omega),by omega⟩
   obtain⟨h1,h2⟩:=zeO free but leaf hl t ((x,(za5 free but x s).1)::env) (za5 free but x s).2 (λp hp=>by
    rcases List.mem_cons.1 hp with rfl|hp
    ·exact hg.1
    ·exact he p hp) ht (by omega)
   exact⟨.all _ _ hg.1 h1,Nat.le_trans h2 (by omega)⟩
theorem zj7(free but:List Name)(leaf:Ty->Ty)(hl:∀t,kd t=1\/kd t=2->Nm t->Nm (leaf t)):(l:List Ty)->∀(env:List (Name × Name))(s:Nat),(∀p∈env,Gd 1 p.2)->(∀t∈l,Nm t)->s+(fasL l+1)*(but.length+1)<10 ^ 15 ->
  (∀t∈(chgL (za5 free but) leaf env l s).1,Nm t)/\(chgL (za5 free but) leaf env l s).2<=s+fasL l*(but.length+1)
 |[],env,s,he,hn,hb=>by rw[chgL];exact⟨λt ht=>(List.not_mem_nil ht).elim,Nat.le_add_right _ _⟩
 |a::b,env,s,he,hn,hb=>by
  rw[chgL]
  rw[fasL]at hb ⊢
  have e:(a.fas+fasL b+1)*(but.length+1)=a.fas*(but.length+1)+(fasL b+1)*(but.length+1):=by rw[<-Nat.add_mul,Nat.add_assoc]
  have e3:(fasL b+1)*(but.length+1)=fasL b*(but.length+1)+(but.length+1):=by rw[Nat.add_mul,Nat.one_mul]
  have e4:(a.fas+1)*(but.length+1)=a.fas*(but.length+1)+(but.length+1):=by rw[Nat.add_mul,Nat.one_mul]
  obtain⟨h1,h2⟩:=zeO free but leaf hl a env s he (hn a List.mem_cons_self) (by omega);obtain⟨j1,j2⟩:=zj7 free but leaf hl b env (chg (za5 free but) leaf env a s).2 he (λt ht=>hn t (List.mem_cons_of_mem _ ht)) (by omega);refine⟨λt ht=>?_,Nat.le_trans j2 (by rw[Nat.add_mul];omega)⟩;rcases List.mem_cons.1 ht with rfl|ht
  ·exact h1
  ·exact j1 t ht
end
theorem zlR(place:Ty->Option Ty)(t:Ty)(ht:t.size<=1000000)(hr:(freeIn place t).length<=90000000)(hn:Nm t)(hp:∀t u,place t=some u->Nm u):Nm (putP place t):=by
 unfold putP;refine(zeO _ _ _ (λl _ hl=>?_) t [] 0 (λ_ h=>(List.not_mem_nil h).elim) hn ?_).1
 ·unfold lfP
  cases h:place l with
  |none=>exact hl
  |some u=>exact hp l u h
 ·have h1:=zb6 t
  have h2:=zc3 t;have h3:(t.fas+1)*((freeIn place t++nts t).length+1)<=1000001*91000001:=Nat.mul_le_mul (by omega) (by rw[List.length_append];omega);omega
theorem znY(l:Ty)(hk:kd l=1\/kd l=2):l.size=1:=by
 cases l with
 |var x=>rw[zak];simp[kids,zab]
 |mt n=>rw[zak];simp[kids,zab]
 |con c l=>simp[kd]at hk
 |fn a b=>simp[kd]at hk
 |all x t=>simp[kd]at hk
theorem ziJ(place:Ty->Option Ty)(t:Ty)(B:Nat)(hB:1<=B)(hp:∀t u,place t=some u->u.size<=B):(putP place t).size<=t.size*B:=by
 unfold putP;refine zcy _ _ B hB (λl hk=>?_) t [] 0;unfold lfP;cases h:place l with
 |none=>have:=znY l hk;show l.size<=B;omega
 |some u=>exact hp l u h
theorem znZ {α:Type}(f:α->List Name)(B:Nat)(h:∀a,(f a).length<=B)(l:List α):(l.flatMap f).length<=l.length*B:=by
 induction l with
 |nil=>simp
 |cons a r ih=>rw[List.flatMap_cons,List.length_append,List.length_cons,Nat.add_mul,Nat.one_mul];have:=h a;omega
theorem zdC(r:List (Name × Ty))(t:Ty)(B:Nat)(h:∀t u,zay r t=some u->u.size<=B):(freeIn (zay r) t).length<=t.size*B:=by
 have h1:∀t,(addF (zay r) t).length<=B:=λt=>by
  unfold addF;cases e:zay r t with
  |none=>exact Nat.zero_le _
  |some u=>exact Nat.le_trans (za4 u) (h t u e)
 have h2:∀n:Nat,addF (zay r) (.mt n)=[]:=λn=>rfl;unfold freeIn;rw[List.length_append]
 have h3:=znZ (λx=>addF (zay r) (.var x)) B (λx=>h1 _) (zam t);have h4:((zaX t).flatMap λn=>addF (zay r) (.mt n)).length=0:=by
  generalize zaX t=l;induction l with
  |nil=>rfl
  |cons a r ih=>rw[List.flatMap_cons,h2,List.nil_append];exact ih
 have h5:=Nat.mul_le_mul_right B (za4 t);omega
def zdl(B:Nat)(r:List (Name × Ty)):Prop:=∀e∈r,Nm e.2/\e.2.size<=B
theorem zda {t:Ty} {B:Nat}(hn:Nm t)(hs:t.size<=B):∀u∈kids t,Nm u/\u.size<=B:=by
 intro u hu;obtain⟨i,hi,rfl⟩:=List.mem_iff_getElem.1 hu;refine⟨zbu hn i hi,?_⟩;have h1:=zfo (kids t) i hi;have h2:=zak t;omega
mutual
theorem zdb(vars:List Name)(B:Nat):(p:Ty)->∀(bd:List Name)(t:Ty)(r:List (Name × Ty)),Nm t->t.size<=B->zdl B r->zdl B (zaN vars bd p t r)
 |.var x,bd,t,r,hn,hs,h=>by
  rw[zaN]
  split
  ·intro e he
   rcases List.mem_cons.1 he with rfl|he
   ·exact⟨hn,hs⟩
   ·exact h e he
  ·exact h
 |.mt n,bd,t,r,hn,hs,h=>by rw[zaN];exact h
 |.con c l,bd,t,r,hn,hs,h=>by rw[zaN];exact ziK vars B l bd (kids t) r (zda hn hs) h
 |.fn a b,bd,t,r,hn,hs,h=>by
  have hk:=zda hn hs;rw[zaN]
  generalize kids t=L at hk ⊢;rcases L with - |⟨u,- |⟨v,l⟩⟩
  ·exact h
  ·exact zdb vars B a bd u r (hk u List.mem_cons_self).1 (hk u List.mem_cons_self).2 h
  ·have h1:=hk u List.mem_cons_self
   have h2:=hk v (List.mem_cons_of_mem _ List.mem_cons_self);exact zdb vars B b bd v _ h2.1 h2.2 (zdb vars B a bd u r h1.1 h1.2 h)
 |.all x p,bd,t,r,hn,hs,h=>by
  have hk:=zda hn hs;rw[zaN]
  generalize kids t=L at hk ⊢;rcases L with - |⟨u,l⟩
  ·exact h
  ·exact zdb vars B p (x::bd) u r (hk u List.mem_cons_self).1 (hk u List.mem_cons_self).2 h
theorem ziK(vars:List Name)(B:Nat):(l:List Ty)->∀(bd:List Name)(m:List Ty)(r:List (Name × Ty)),(∀u∈m,Nm u/\u.size<=B)->zdl B r->zdl B (zaM vars bd l m r)
 |[],bd,m,r,hm,h=>by rw[zaM];exact h
 |p::l,bd,[],r,hm,h=>by rw[zaM];exact h
 |p::l,bd,u::m,r,hm,h=>by
  rw[zaM]
  exact ziK vars B l bd m _ (λv hv=>hm v (List.mem_cons_of_mem _ hv)) (zdb vars B p bd u r (hm u List.mem_cons_self).1 (hm u List.mem_cons_self).2 h)
end
theorem zdq(vars:List Name)(B:Nat)(p t:Ty)(hn:Nm t)(hs:t.size<=B):∀x u,look x (zau vars p t)=some u->Nm u/\u.size<=B :=
 λx u h=>zdb vars B p [] t [] hn hs (λ_ h=>(List.not_mem_nil h).elim) _ (zbF x u _ h)
theorem zfX {r:List (Name × Ty)} {B:Nat}(h:∀x u,look x r=some u->Nm u/\u.size<=B)(t u:Ty)(hp:zay r t=some u):Nm u/\u.size<=B:=by
 cases t with
 |var x=>exact h x u hp
 |mt n=>cases hp
 |con c l=>cases hp
 |fn a b=>cases hp
 |all x t=>cases hp
theorem keyStr {key:Value} {kl:Lit}(h:keyOf Tryz.prog 9 key=some kl):∃s:ByteArray,key=.string s/\kl=.string s.data.toList/\s.size<=maxLen:=by
 obtain⟨s,rfl⟩:=Maps.keyOf_string_inv Tryz.underlying9 h;by_cases hs:s.size<=maxLen
 ·rw[strKey s hs]at h
  injection h with h;exact⟨s,rfl,h.symm,hs⟩
 ·simp[keyOf,Tryz.underlying9,mapKey,hs]at h
end Go.Proofs.YtaomnlcplmkokaaGreatDoor
