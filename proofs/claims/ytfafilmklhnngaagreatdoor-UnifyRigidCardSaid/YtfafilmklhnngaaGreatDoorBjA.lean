import Derived.Test.YtfafilmklhnngaaGreatDoorBsJ
import Derived.Test.YtfafilmklhnngaaGreatDoorBsL
import Derived.Test.YtfafilmklhnngaaGreatDoorBsO
import Derived.Test.YtfafilmklhnngaaGreatDoorBsAL
import Derived.Test.YtfafilmklhnngaaGreatDoorBsAB
import Derived.Test.YtfafilmklhnngaaGreatDoorBsAE
import Derived.Test.YtfafilmklhnngaaGreatDoorBsAC
import Derived.Test.YtfafilmklhnngaaGreatDoorBsAT
set_option maxHeartbeats 12800000
set_option maxRecDepth 100000
namespace Go.Proofs.YtfafilmklhnngaaGreatDoor.Tx
open Go.Proofs.Tryz
open Lx
def K(k:Nat)(s:List UInt8):Tok:=⟨k,s,0⟩
def filD(m:Nat)(U:Dt)(d:Dt):Dt:=Bx .fv (IF m U) d
end Go.Proofs.YtfafilmklhnngaaGreatDoor.Tx
namespace Go.Proofs.YtfafilmklhnngaaGreatDoor
open Tryz
section
open Go.RowKit Lx Tx
set_option maxRecDepth 100000
theorem intV_len(l:List Nat):(Jo l).length=l.length:=by simp[Jo]
set_option maxRecDepth 100000
theorem one_intV(l:List Nat):∀u∈Jo l,u.oneCell'=true:=by
 intro u hu;obtain⟨x,_,rfl⟩:=Ct.1 hu;rfl
end
section
open Lx Tx
def Rig(d:Dt):Prop:=∀n,¬a_ n d
theorem Rig.ap {d:Dt}(h:Rig d)(k:Sb):ap k d=d:=UN k d λn hn=>absurd hn (h n)
theorem rig_push {x y:Dt} {q:List (Dt × Dt)}(h:act x y=.push q)(hx:Rig x)(hy:Rig y):(∀p∈q,Rig p.1/\Rig p.2)/\(x=y↔∀p∈q,p.1=p.2):=by
 rcases N4 h with⟨c,u,v,rfl,rfl,hl,rfl⟩|⟨a,b,c,d,rfl,rfl,rfl⟩|⟨a,b,rfl,rfl,rfl⟩
 ·have kx:∀d∈u,Rig d:=λd hd n hn=>hx n (by rw[a_,J2];exact⟨d,hd,hn⟩)
  have ky:∀d∈v,Rig d:=λd hd n hn=>hy n (by rw[a_,J2];exact⟨d,hd,hn⟩);refine⟨λp hp=>⟨kx _ (DA hp).1,ky _ (DA hp).2⟩,?_⟩;constructor
  ·intro h p hp;injection h with _ h;subst h;obtain⟨i,hi,rfl⟩:=CN.1 hp;simp
  ·intro h;congr 1
   refine List.ext_getElem hl λi h1 h2=>?_;have:=h (u[i],v[i]) (CN.2 ⟨i,by simp;omega,by simp⟩);exact this
 ·refine⟨λp hp=>?_,?_⟩
  ·simp at hp;rcases hp with rfl|rfl
   ·exact⟨λn hn=>hx n (by rw[a_];exact .inl hn),λn hn=>hy n (by rw[a_];exact .inl hn)⟩
   ·exact⟨λn hn=>hx n (by rw[a_];exact .inr hn),λn hn=>hy n (by rw[a_];exact .inr hn)⟩
  ·simp
 ·refine⟨λp hp=>?_,?_⟩
  ·simp at hp;rw[hp];exact⟨λn hn=>hx n (by rw[a_];exact hn),λn hn=>hy n (by rw[a_];exact hn)⟩
  ·simp
theorem act_clash_ne {x y:Dt}(h:act x y=.FA):x≠y:=by
 intro e;subst e;rcases zpO x with h1|⟨l,h1,_⟩ <;> rw[h1]at h <;> cases h
theorem unF_rig(f:Nat):∀(E:List (Dt × Dt))(k:Sb)(o:Nat ⊕ Sb),Fc f E k=some o->(∀p∈E,Rig p.1/\Rig p.2)->(o=.inl 40/\¬ ∀p∈E,p.1=p.2)\/(o=.inr k/\∀p∈E,p.1=p.2):=by
 induction f with
 |zero=>intro E k o h;rw[Fc]at h;cases h
 |succ f ih =>
  intro E k o h hE;cases E with
  |nil=>rw[Fc]at h;injection h with h;exact .inr ⟨h.symm,λp hp=>by cases hp⟩
  |cons p r =>
   obtain⟨a,b⟩:=p;obtain⟨raQ9,rb⟩:=hE (a,b) Cs;have hr:∀p∈r,Rig p.1/\Rig p.2:=λp hp=>hE p (Cf _ hp);rw[Fc]at h
   simp only at raQ9 rb;rw[raQ9.ap,rb.ap]at h;cases hq:act a b with
   |skip =>
    rw[hq]at h;have e:=zpN hq;rcases ih r k o h hr with⟨h1,h2⟩|⟨h1,h2⟩
    ·exact .inl ⟨h1,λh3=>h2 λp hp=>h3 p (Cf _ hp)⟩
    ·refine .inr ⟨h1,λp hp=>?_⟩;rcases Cd.1 hp with rfl|hp
     ·exact e
     ·exact h2 p hp
   |FA =>
    rw[hq]at h;injection h with h;exact .inl ⟨h.symm,λh3=>act_clash_ne hq (h3 (a,b) Cs)⟩
   |push q =>
    rw[hq]at h;obtain⟨h1,h2⟩:=rig_push hq raQ9 rb;rcases ih (q++r) k o h (λp hp=>(Cr.1 hp).elim (h1 p) (hr p)) with⟨h3,h4⟩|⟨h3,h4⟩
    ·refine .inl ⟨h3,λh5=>h4 λp hp=>?_⟩;rcases Cr.1 hp with hp|hp
     ·exact h2.1 (h5 (a,b) Cs) p hp
     ·exact h5 p (Cf _ hp)
    ·refine .inr ⟨h3,λp hp=>?_⟩;rcases Cd.1 hp with rfl|hp
     ·exact h2.2 λp hp=>h4 p (Cr.2 (.inl hp))
     ·exact h4 p (Cr.2 (.inr hp))
   |Fs m t =>
    rcases(OH hq).1 with⟨e,_⟩|⟨e,_⟩
    ·exact absurd (by rw[e,a_]) (raQ9 m)
    ·exact absurd (by rw[e,a_]) (rb m)
theorem Told.none {l:List (Nat × Ty)}(h:Told .mt l):l=[]:=by
 cases l with
 |nil=>rfl
 |cons e r =>
  obtain⟨n,t⟩:=e;exact absurd rfl ((h.mem n t).1 Cs).1
def conC(m:Nat):Ty:=.h_ (67::dec m) []
theorem gd_C(m:Nat)(h:m<=999999):Gd 2 (67::dec m):=by
 have hl:(dec m).length<=6:=Sl 20 6 m (by omega) (by omega);have hd:∀d∈(67:UInt8)::dec m,G7 d=true:=by
  intro d hd;rcases Cd.1 hd with rfl|hd
  ·decide
  ·simp[G7,zpo 20 m d hd]
 have hsp:=zoj G7 _ hd;refine⟨by simp,?_,by omega⟩;rw[first,Ch (by decide),word,hsp,Cg (by simp;omega),List.take_length];have hk:o_ (67::dec m)=2:=by
  unfold o_;rw[Cg (by simp[keys]),Ch (by simp only[List.headD_cons];decide)]
 rw[hk]
theorem nm_conC(m:Nat)(h:m<=999999):Nm (conC m):=.h_ _ _ (gd_C m h) λt ht=>by cases ht
theorem size_conC(m:Nat):(conC m).size=1:=rfl
theorem db_conC(m:Nat):db [] (conC m)=.h_ (67::dec m) []:=by unfold conC;rw[db,Fz]
theorem occ_conC(m n:Nat):¬a_ n (db [] (conC m)):=by rw[db_conC,a_,Lm];exact id
theorem occ_filC(m n:Nat)(d:Dt):a_ n (filD m (db [] (conC m)) d)↔a_ n d/\n≠m:=by
 have e:filD m (db [] (conC m)) d=ap (IF m (db [] (conC m))) d:=rfl;rw[e,Pu];constructor
 ·rintro⟨i,h1,h2⟩;by_cases eB:i=m
  ·rw[eB,KG]at h2;exact absurd h2 (occ_conC m n)
  ·rw[KH _ _ _ eB,a_]at h2;rw[h2];exact⟨h1,eB⟩
 ·rintro⟨h1,h2⟩;exact⟨n,h1,by rw[KH _ _ _ h2,a_]⟩
end
section
open Go.RowKit Lx Tx Go.Maps Go.WideMaps Go.Shelf
set_option maxRecDepth 100000
theorem own_cell {w:World} {B:Nat} {e:TypeId} {n c:Nat} {A:Option Addr} {xs:List Value}(h:w.ownsRow B e 1 (.slice A n c) n xs) {i:Nat}(hi:i<n) {u:Value}(hu:xs[i]?=some u):∃g,A=some ⟨g,0,none⟩/\B<=g/\g<w.heap.size/\∀w':World,w'.heap[g]?=w.heap[g]?->w'.cell? ⟨g,i,none⟩=some u:=by
 obtain⟨h0,h⟩:=h;rcases h with⟨_,h⟩|⟨g,cap,cur,hv,hg,hb,h1,h2,h3,h4⟩
 ·omega
 ·injection hv with hv
  refine⟨g,hv,hg,lt_of_block hb,λw' hk=>?_⟩;rw[cell_of_row w' g i cur e (0,0) (hk.trans hb),<-hu,<-h4,List.getElem?_take_of_lt (by omega)];simp
end
section
open Go.RowKit Lx Tx Go.Maps Go.WideMaps Go.Shelf
def noteName:Ty->List Name->List Name
 |.var x,s=>FJ x s
 |.all x _,s=>FJ x s
 |_,s=>s
theorem noteName_ways(t:Ty)(s:List Name):((kd t:Int)==1)=true/\noteName t s=FJ (ER t).data.toList s\/((kd t:Int)==1)=false/\((kd t:Int)==5)=true/\noteName t s=FJ (ER t).data.toList s\/((kd t:Int)==1)=false/\((kd t:Int)==5)=false/\noteName t s=s:=by
 cases t with
 |var x=>exact .inl ⟨rfl,rfl⟩
 |mt n=>exact .inr (.inr ⟨rfl,rfl,rfl⟩)
 |h_ c l=>exact .inr (.inr ⟨rfl,rfl,rfl⟩)
 |fn a b=>exact .inr (.inr ⟨rfl,rfl,rfl⟩)
 |all x t=>exact .inr (.inl ⟨rfl,rfl,rfl⟩)
def atName(_:List Name)(t:Ty)(s:List Name):List Name:=noteName t s
theorem vis_names1(b mb:Nat):Oa 155 #[.pointer (some ⟨b+4,0,none⟩)] mb (Io b) atName:=by
 intro c s M env t S v w hi _ _ hv hS aw _ hc;obtain⟨M0,hM,bK,ai,aq⟩:=hi;obtain⟨K,X,Z,A,m,cp,rfl,hK,hX,-,-,-⟩:=hv.parts;have hw:=noteName_ways t s;rw[<-hK,<-hX]at hw;have bA:X.size<=24:=by have:=J4 aw;rw[<-hX]at this;exact this
 have ef:Hid (Below w.heap.size w (w.alloc (.cells #[.int .i64 K,.string X,.int .i64 Z,.slice A m cp] 37))):=EP ((Cc _ w).alloc (BU _) _);obtain⟨y0,-,l0⟩:=GG aq;have H1:=EP ((F6.inv b).al _ _ _ _ (w.alloc (.cells #[.int .i64 K,.string X,.int .i64 Z,.slice A m cp] 37)) bK (by simp) (λg hg=>BX _ _ _ (bK.all g hg)));have ek:∀args w,(callFunc 132 args).run prog w=.ok (.enter 132 args) w:=enters_of func132 (by kernel_rfl) rfl;have HM:=EP hM;have eH:=EP ai;have iu:=EP (aq.below ef.o l0);obtain⟨s',gJ⟩:∃s',noteName t s=s':=⟨_,rfl⟩;rw[gJ]at hw;rw[show atName env t s=noteName t s from rfl,gJ];clear hK hX hv aw bK hM ai aq gJ hS;unfold NO at y0;rcases hw with⟨d1,hr⟩|⟨d1,d5,hr⟩|⟨d1,d5,rfl⟩
 ·have HR:=EP hr;clear hr;go_in;go_wp2_with fail;refine(zqR b c s M0 X _ H1.o bA hc).mono ?_;rintro e w' ⟨rfl,M',i',kW,c'⟩;have HF:=EP (Io.next HM.o eH.o iu.o i' kW c' ef.o);clear i' kW c';go_wp2_with fail;first|go_end0|refine Ce (CQ rfl _ _ _) rfl ?_
  rw[HR.o];exact⟨rfl,HF.o⟩
 ·have HR:=EP hr;clear hr;go_in;go_wp2_with fail;refine(zqR b c s M0 X _ H1.o bA hc).mono ?_;rintro e w' ⟨rfl,M',i',kW,c'⟩;have HF:=EP (Io.next HM.o eH.o iu.o i' kW c' ef.o);clear i' kW c';go_wp2_with fail;first|go_end0|refine Ce (CQ rfl _ _ _) rfl ?_
  rw[HR.o];exact⟨rfl,HF.o⟩
 ·go_in;go_wp2_with fail;first|go_end0|refine Ce (CQ rfl _ _ _) rfl ?_
  exact⟨rfl,Io.next HM.o eH.o iu.o ((F6.inv b).mono _ _ _ _ _ H1.o (by omega)) (λg hg=>.inl hg) (b_.refl M0 _) ef.o⟩
theorem tc_names2(K:Int)(X:ByteArray)(Z:Int)(A:Option Addr)(m c:Nat)(w:World):Calls prog 156 #[.agg #[.int .i64 K,.string X,.int .i64 Z,.slice A m c]] w λe w'=>e=.returned (.tuple #[])/\Below w.heap.size w w':=by
 go_in;go_wp2
 first|go_end0|refine Ce (CQ rfl _ _ _) rfl ?_
 exact⟨rfl,(Cc _ w).alloc (BU _) _⟩
def namesL(t:Ty):List Name:=Hp atName (λ_ _ s=>s) [] t []
theorem tc_names(t:Ty)(S:Nat->Prop)(v:Value)(w:World)(hv:nc S w t v)(hS:∀g,S g->g<w.heap.size)(aw:Nm t)(aA:t.size<=1000000):Calls prog 113 #[v] w λe w'=>∃A cp,e=.returned (.slice A (namesL t).length cp)/\w'.ownsRow w.heap.size 9 1 (.slice A (namesL t).length cp) (namesL t).length (FQ (namesL t))/\(namesL t).length<=2000000/\Below w.heap.size w w':=by
 obtain⟨K,X,Z,A,m,cp,rfl,-,-,-,-,-⟩:=hv.parts;have iZ:∀(fn:Fn) (first cap:Array Value) (w:World),(Instr.makeFunc fn first cap).run prog w=.ok (.func fn first cap) w:=λ_ _ _ _=>rfl;have dU:∀w,(Instr.makeMap 116 none).run prog w=.ok (.map (some w.heap.size)) (w.alloc (.map #[] 0)):=λ_=>rfl;have HV:=EP hv;have HS:=EP hS;have bQ:=EP aw;clear hv hS aw;go_in
 go_wp2_with fail;obtain⟨h1,h2,aZ,a8⟩:=IC w (.cells #[.int .i64 K,.string X,.int .i64 Z,.slice A m cp] 37) (.cells #[.slice none 0 0] 95);refine(zlE (w.heap.size+1) _ aZ h2).mono ?_;rintro e w1 ⟨rfl,ho,aH,b1⟩;have cR:=a8.trans (b1.mono (by omega));have mz:ar w1 w.heap.size 37 #[.int .i64 K,.string X,.int .i64 Z,.slice A m cp]:=ar.below h1 b1 (by omega);obtain⟨p0,p1,p2,p3,s0,s1,s2,s3,dp⟩:=n_ mz;have HO:=EP ho;have fP:=EP aH;have iq:=EP cR;clear h1 h2 aZ a8 ho aH b1 cR mz;unfold NO;go_wp2_with fail;have aH:=fP.o;obtain⟨k1,k2,ks,kb⟩:=IC w1 (.cells #[NO (w.heap.size+1)] 156) (.map #[] 0);have ez:Below w.heap.size w ((w1.alloc (.cells #[NO (w.heap.size+1)] 156)).alloc (.map #[] 0)):=iq.o.trans (kb.mono (by have:=iq.o.size;omega));have dW:ar ((w1.alloc (.cells #[NO (w.heap.size+1)] 156)).alloc (.map #[] 0)) (w.heap.size+1+4) 156 #[NO (w.heap.size+1)]:=by rw[<-aH];exact k1
 have hle:=zqQ t.size 155 156 #[.pointer (some ⟨w.heap.size+1+4,0,none⟩)] #[] (w1.heap.size+1) (Io (w.heap.size+1)) atName (λ_ _ s=>s) (Io.inv _)
  (enters_of func155 (by kernel_rfl) rfl) (enters_of func156 (by kernel_rfl) rfl) (vis_names1 _ _) (zo4 156 _ _ (Io.inv _) tc_names2)
  0 [] (λg=>(w.heap.size+1<=g/\g<=w.heap.size+1+3)\/g=w.heap.size+1+4) [] t S _ _ (BU _) (by omega)
  ⟨_,λg=>Iff.rfl,(F6.inv _).al _ _ _ _ _ HO.o kb.size (λg hg=>kb.block g (HO.o.all g hg)),by omega,dW⟩ (iT.laid mkInt k2) (by omega)
  (HV.o.al (λ_ h=>h) (λg hg=>ez.block g (HS.o g hg))) (λg hg=>⟨by have:=HS.o g hg;have:=ez.size;omega,by have:=HS.o g hg;omega,by have:=HS.o g hg;omega⟩) bQ.o (by omega) (by simp;omega) trivial
 unfold FL at hle;rw[<-aH]at hle;refine hle.mono ?_;rintro e w3 ⟨rfl,M',⟨M0,-,kJ,-,-⟩,-,kW,c3⟩;obtain⟨A3,s9,pq,an,-⟩:=kJ.row;obtain⟨q0,q1,q2⟩:=GG pq;have hlen:=kJ.len;have HB:=EP (ez.trans (c3.toBelow (B:=w.heap.size) (by have:=ez.size;omega) (λk hk h=>by omega)));have az:=EP (Vq an (show w.heap.size<=w.heap.size+1+4 by omega));have gU:=EP (show(namesL t).length<=2000000 by unfold namesL;omega);clear hle ez dW aH kJ pq kW c3 an hlen HO k1 k2 ks kb;replace q0:w3.cell? ⟨w.heap.size+1,0,none⟩=some (.slice A3 (namesL t).length s9):=q0;go_wp2_with fail;go_ret
 exact⟨A3,s9,rfl,az.o,gU.o,HB.o⟩
section
variable {σ:Type}
end
section
variable {σ:Type}
end
theorem short_name {t:Ty} {s:List Name}(h:Nm t)(hs:JV s):JV (noteName t s):=by
 rcases noteName_ways t s with⟨_,e⟩|⟨_,_,e⟩|⟨_,_,e⟩ <;> rw[e]
 ·exact zlK h hs
 ·exact zlK h hs
 ·exact hs
theorem short_namesL(t:Ty)(h:Nm t):JV (namesL t) :=
 Ox JV _ _ (λ_ _ _ hu hs=>short_name hu hs) (λ_ _ _ _ hs=>hs) t [] [] h (λ_ hx=>(CI hx).elim)
section
variable {σ:Type}
end
def IsPl(kp:Nat)(cp:Array Value)(J:World->Prop)(qd:Ty->Bool):Prop :=
 ∀(t:Ty) (S:Nat->Prop) (v:Value) (w:World),J w->nc S w t v->(∀g,S g->g<w.heap.size)->kd t=1\/kd t=2->Nm t ->
  Calls prog kp (#[v]++cp) w λe w'=>e=.returned (.bool (qd t))/\Below w.heap.size w w'
structure PlQ9 where
 arQ9:List Nat
 wi:List Nat
 alQ9:Nat
def plCome(qd:Ty->Bool)(env:List Name)(t:Ty)(s:PlQ9):PlQ9 :=
 if kd t=5 then⟨s.arQ9++[s.wi.length],s.wi++[s.alQ9],s.alQ9⟩ else if K7 env t=true/\qd t=true then⟨s.arQ9,s.wi,s.alQ9+1⟩ else s
def plLeave(_:List Name)(t:Ty)(s:PlQ9):PlQ9 :=
 if kd t=5 then⟨s.arQ9.take (s.arQ9.length-1),s.wi.set (s.arQ9.getD (s.arQ9.length-1) 0) (s.alQ9-s.wi.getD (s.arQ9.getD (s.arQ9.length-1) 0) 0),s.alQ9⟩ else s
def plOK(_:List Name)(t:Ty)(s:PlQ9):Prop:=kd t=5->s.arQ9≠[]/\s.arQ9.getD (s.arQ9.length-1) 0<s.wi.length/\s.wi.getD (s.arQ9.getD (s.arQ9.length-1) 0) 0<=s.alQ9
theorem plCome_all(qd:Ty->Bool)(env:List Name)(t:Ty)(s:PlQ9)(h:kd t=5):plCome qd env t s=⟨s.arQ9++[s.wi.length],s.wi++[s.alQ9],s.alQ9⟩:=Ch h
theorem wf_places(qd:Ty->Bool)(n:Nat):∀(t:Ty)(env:List Name)(s:PlQ9),t.size<=n->(∀a∈s.arQ9,a<s.wi.length/\s.wi.getD a 0<=s.alQ9) ->
  Mi plOK (plCome qd) plLeave env t s/\(Hp (plCome qd) plLeave env t s).arQ9=s.arQ9/\s.wi.length<=(Hp (plCome qd) plLeave env t s).wi.length/\s.alQ9<=(Hp (plCome qd) plLeave env t s).alQ9/\∀a,a<s.wi.length->(Hp (plCome qd) plLeave env t s).wi.getD a 0=s.wi.getD a 0:=by
 induction n with
 |zero=>intro t env s h;rw[Gv]at h;omega
 |succ n ih =>
  intro t env s h hs;have ga:∀i (hi:i<(kids t).length),(kids t)[i].size<=n:=λi hi=>by have:=Vu t i hi;omega
  have hL:∀(l:List Ty) (ng:List Name) (s':PlQ9),(∀u∈l,u.size<=n)->(∀a∈s'.arQ9,a<s'.wi.length/\s'.wi.getD a 0<=s'.alQ9) ->
    (∀i u,(∃hi:i<l.length,l[i]=u)->Mi plOK (plCome qd) plLeave ng u (Fm (plCome qd) plLeave ng (l.take i) s'))/\(Fm (plCome qd) plLeave ng l s').arQ9=s'.arQ9/\s'.wi.length<=(Fm (plCome qd) plLeave ng l s').wi.length/\s'.alQ9<=(Fm (plCome qd) plLeave ng l s').alQ9 /\
     ∀a,a<s'.wi.length->(Fm (plCome qd) plLeave ng l s').wi.getD a 0=s'.wi.getD a 0:=by
   intro l;induction l with
   |nil =>
    intro ng s' _ _;refine⟨λi u hu=>?_,by rw[Fm],by rw[Fm];exact BU _,by rw[Fm];exact BU _,λa _=>by rw[Fm]⟩;obtain⟨hi,_⟩:=hu;exact absurd hi (Nat.not_lt_zero _)
   |cons u r Wz =>
    intro ng s' aA iD;obtain⟨k1,k2,k3,k4,k5⟩:=ih u ng s' (aA u Cs) iD;have hok2:∀a∈(Hp (plCome qd) plLeave ng u s').arQ9,a<(Hp (plCome qd) plLeave ng u s').wi.length/\(Hp (plCome qd) plLeave ng u s').wi.getD a 0<=(Hp (plCome qd) plLeave ng u s').alQ9:=λa ha=>by
     rw[k2]at ha;have:=iD a ha;exact⟨by omega,by rw[k5 a this.1];omega⟩
    obtain⟨j1,j2,j3,j4,j5Q9⟩:=Wz ng (Hp (plCome qd) plLeave ng u s') (λx hx=>aA x (Cf _ hx)) hok2;rw[Fm];refine⟨λi x hx=>?_,by rw[j2,k2],by omega,by omega,λa ha=>by rw[j5Q9 a (by omega),k5 a ha]⟩;obtain⟨hi,hx⟩:=hx;cases i with
    |zero =>
     rw[CK,Fm];rw[<-hx];exact k1
    |succ i =>
     rw[CX,Fm];exact j1 i x ⟨by simpa using hi,by rw[<-hx];rfl⟩
  have dH:∀u∈kids t,u.size<=n:=λu hu=>by
   obtain⟨i,hi,rfl⟩:=CN.1 hu;exact ga i hi
  by_cases h5:kd t=5
  ·have hc:=plCome_all qd env t s h5;have hok1:∀a∈(plCome qd env t s).arQ9,a<(plCome qd env t s).wi.length/\(plCome qd env t s).wi.getD a 0<=(plCome qd env t s).alQ9:=by
    rw[hc];intro a ha;simp only[Cb,List.length_singleton];rcases Cr.1 ha with ha|ha
    ·have:=hs a ha;refine⟨by omega,?_⟩;rw[Du,DK this.1,<-Du];exact this.2
    ·have ha:a=s.wi.length:=by simpa using ha
     subst ha;refine⟨by omega,?_⟩;simp
   obtain⟨j1,j2,j3,j4,j5Q9⟩:=hL (kids t) (Gx env t) (plCome qd env t s) dH hok1;rw[zo2];generalize hq:Fm (plCome qd) plLeave (Gx env t) (kids t) (plCome qd env t s)=q at *;rw[hc]at j2 j3 j4 j5Q9;simp only[Cb,List.length_singleton]at j2 j3 j4 j5Q9;have hlast:q.arQ9.getD (q.arQ9.length-1) 0=s.wi.length:=by rw[j2];simp
   have hv:=j5Q9 s.wi.length (by omega);have fg:q.wi.getD s.wi.length 0=s.alQ9:=by rw[hv];simp
   refine⟨.mk _ _ _ (λi u hu=>j1 i u hu) ?_,?_,?_,?_,?_⟩
   ·rw[hq];intro _;exact⟨by rw[j2];simp,by rw[hlast];omega,by rw[hlast,fg];omega⟩
   ·rw[plLeave,Ch h5,j2];simp
   ·rw[plLeave,Ch h5];simp only[List.length_set];omega
   ·rw[plLeave,Ch h5];exact j4
   ·intro a ha;rw[plLeave,Ch h5,hlast];show(q.wi.set s.wi.length _).getD a 0=_;rw[Du,List.getElem?_set_ne (by omega),<-Du,j5Q9 a (by omega),Du,DK ha,<-Du]
  ·have hc:(plCome qd env t s).arQ9=s.arQ9/\(plCome qd env t s).wi=s.wi/\s.alQ9<=(plCome qd env t s).alQ9:=by
    rw[plCome,Cg h5];split
    ·exact⟨rfl,rfl,DZ _⟩
    ·exact⟨rfl,rfl,BU _⟩
   obtain⟨c1,c2,c3⟩:=hc;obtain⟨j1,j2,j3,j4,j5Q9⟩:=hL (kids t) (Gx env t) (plCome qd env t s) dH (λa ha=>by rw[c1]at ha;rw[c2];have:=hs a ha;exact⟨this.1,by omega⟩);rw[zo2];have hl:∀q:PlQ9,plLeave env t q=q:=λq=>by rw[plLeave,Cg h5]
   rw[hl];rw[c2]at j3 j5Q9;exact⟨.mk _ _ _ (λi u hu=>j1 i u hu) (λh=>absurd h h5),by rw[j2,c1],j3,by omega,j5Q9⟩
def NumsAt(w:World)(B q:Nat)(l:List Nat)(A:Option Addr)(c:Nat):Prop :=
 ar w q 61 #[.slice A l.length c]/\w.ownsRow B 3 1 (.slice A l.length c) l.length (Jo l)
theorem NumsAt.al {w w':World} {B q:Nat} {l:List Nat} {A:Option Addr} {c:Nat}(h:NumsAt w B q l A c)(h1:w'.heap[q]?=w.heap[q]?)(h2:∀a,A=some a->w'.heap[a.block]?=w.heap[a.block]?):NumsAt w' B q l A c :=
 ⟨h.1.same h1,PL h.2 h2⟩
structure PlI (b kp:Nat) (cp:Array Value) (J:World->Prop) (KJ:Nat->Prop) (c:Nat) (s:PlQ9) (M:Nat->Prop) (w:World):Prop where
 isp:ar w b 58 #[FL kp cp]
 num:ar w (b+1) 3 #[.int .i64 (s.alQ9:Nat)]
 LH:ar w (b+4) 116 #[.map (some (b+3))]
 nums:∃A1 c1 A2 c2,NumsAt w (b+6) (b+5) s.arQ9 A1 c1/\NumsAt w (b+6) (b+2) s.wi A2 c2/\(∀a,A1=some a->M a.block)/\(∀a,A2=some a->M a.block)/\∀a a',A1=some a->A2=some a'->a.block≠a'.block
 low:M b/\M (b+1)/\M (b+2)/\M (b+4)/\M (b+5)
 jj:J w
 kjQ9:∀g,KJ g->M g/\g<b
 all:∀g,M g->g<w.heap.size
 len:s.arQ9.length<=c/\s.wi.length<=c/\s.alQ9<=c
theorem PlI.inv(b kp:Nat)(cp:Array Value)(J:World->Prop)(KJ:Nat->Prop)(hJ:∀w w',J w->(∀g,KJ g->w'.heap[g]?=w.heap[g]?)->J w'):Inv (PlI b kp cp J KJ) where
 mono c c' s M w h hc:={ h with len:=by have:=h.len;omega }
 lt c s M w h:=h.all
 al c s M w w' h hs hk :=
  {isp:=h.isp.same (hk _ h.low.1)
   num:=h.num.same (hk _ h.low.2.1)
   LH:=h.LH.same (hk _ h.low.2.2.2.1)
   nums:=by
    obtain⟨A1,c1,A2,c2,h1,h2,h3,h4,h5⟩:=h.nums;exact⟨A1,c1,A2,c2,h1.al (hk _ h.low.2.2.2.2) (λa ha=>hk _ (h3 a ha)),h2.al (hk _ h.low.2.2.1) (λa ha=>hk _ (h4 a ha)),h3,h4,h5⟩
   low:=h.low
   jj:=hJ w w' h.jj (λg hg=>hk g (h.kjQ9 g hg).1)
   kjQ9:=h.kjQ9
   all:=λg hg=>Ci (h.all g hg) hs
   len:=h.len }
end
section
open Go.RowKit Lx Tx Go.Maps Go.WideMaps Go.Shelf
set_option maxRecDepth 100000
theorem leafy_of(t:Ty)(env:List Name)(h:K7 env t=true):kd t=1\/kd t=2:=by
 cases t with
 |var x=>exact .inl rfl
 |mt n=>exact .inr rfl
 |h_ c l=>cases h
 |fn a b=>cases h
 |all x t=>cases h
theorem tc_placesAll(b kp:Nat)(cp:Array Value)(J:World->Prop)(KJ:Nat->Prop)(c:Nat)(s:PlQ9)(M:Nat->Prop)(K Z:Int)(X:ByteArray)(A:Option Addr)(m cq:Nat)(w:World)(d5:((K:Int)==5)=true)(hJ:∀w w',J w->(∀g,KJ g->w'.heap[g]?=w.heap[g]?)->J w')(hi:PlI b kp cp J KJ c s M w)(hc:c<8000000000000):Calls prog 153 #[.agg #[.int .i64 K,.string X,.int .i64 Z,.slice A m cq],.pointer (some ⟨b+5,0,none⟩),.pointer (some ⟨b+2,0,none⟩),.pointer (some ⟨b+1,0,none⟩),.pointer (some ⟨b+4,0,none⟩),.pointer (some ⟨b,0,none⟩)] w λe w' =>
   e=.returned (.tuple #[])/\∃M',PlI b kp cp J KJ (c+1) ⟨s.arQ9++[s.wi.length],s.wi++[s.alQ9],s.alQ9⟩ M' w'/\(∀g,M' g->M g\/w.heap.size<=g)/\b_ M w w':=by
 obtain⟨hip,mI,uL,⟨A1,c1,A2,c2,⟨ha,hao⟩,⟨hw,bR⟩,hA1,hA2,ai⟩,bO,hjj,sG,aK,cR,ez,iH⟩:=hi;obtain⟨arQ9,wi,alQ9⟩:=s;obtain⟨i0,bK,cj,bS,bC⟩:=Dx zo8;simp only at mI ha hao hw bR cR ez iH ⊢;obtain⟨n1,iY⟩:∃n1,arQ9.length=n1:=⟨_,rfl⟩;obtain⟨n2,lM⟩:∃n2,wi.length=n2:=⟨_,rfl⟩;rw[iY]at ha hao cR;rw[lM]at hw bR ez;obtain⟨x0,x1,x2⟩:=GG mI;obtain⟨y0,y1,y2⟩:=GG ha;obtain⟨z0,z1,z2⟩:=GG hw;have HIP:=EP hip;have HNUM:=EP mI;have HCEL:=EP uL;have HAR:=EP ha;have HAO:=EP ((hao.alloc (.cells #[.int .i64 K,.string X,.int .i64 Z,.slice A m cq] 37)).alloc (.cells #[.int .i64 (n2:Nat)] 3));have HWI:=EP hw;have jS:=EP bR;have HA1:=EP hA1;have HA2:=EP hA2;have eH:=EP ai;have pV:=EP bO;have HJ:=EP hjj;have Us:=EP sG;have gy:=EP aK;have Yt:=EP iY;have rU:=EP lM;clear hip mI uL ha hao hw bR hA1 hA2 ai bO hjj sG aK iY lM;go_in;go_wp2_with (first
  |(at_builtin;refine C7 _ rfl (.tmp 10) (.tmp 13) 61 rfl (b+6) 3 i0 _ 1 8 underlying61 bK cj bS bC rfl (by decide) _ n1 (Jo arQ9) rfl HAO.o ⟨w.heap.size+1,0,none⟩ 1 1 [.int .i64 (n2:Nat)] rfl rfl (Iz _ _ _ _ (by simp)) (by intro u hu;simp at hu;subst hu;rfl) (by unfold maxLen;omega) (by omega) (by simp;omega) ?_;intro v3 w3 an hgrow3 _ bF;obtain⟨A3,c3,rfl⟩:=GS an;have dZ:=EP an;have bk:=EP hgrow3;have gu:=EP bF;have dy:w.heap.size+2<=w3.heap.size:=(by have:=hgrow3.size;simp at this;omega);have fK:∀k,k<w.heap.size->some k≠(Value.slice A1 n1 c1).ownBlock->w3.heap[k]?=w.heap[k]?:=(λk hk ai=>(hgrow3.block k (by simp;omega) ai).trans ((BX _ _ _ (by simp;omega)).trans (BX _ _ _ hk)));have kG:∀k,k<w.heap.size->k<b+6->w3.heap[k]?=w.heap[k]?:=(λk hk hb=>fK k hk (λe=>by have:=(HAO.o.lt k e.symm).1;omega));have eh:=HAR.o.same (kG (b+5) y2 (by omega));have h32:=HWI.o.same (kG (b+2) z2 (by omega));have h31:=HNUM.o.same (kG (b+1) x2 (by omega));obtain⟨r0,r1,r2⟩:=GG eh;obtain⟨s0,s1,s2⟩:=GG h32;obtain⟨t0,t1,t2⟩:=GG h31;have H35:=EP eh;have H32:=EP h32;have H31:=EP h31;have r6:=EP fK;have HK6:=EP kG;have HWO3:Hid (((w3.setCell ⟨b+5,0,none⟩ (.slice A3 (n1+1) c3)).alloc (.cells #[.int .i64 (alQ9:Nat)] 3)).ownsRow (b+6) 3 1 (.slice A2 n2 c2) n2 (Jo wi)):=EP (PL jS.o (λa ha=>by
    have q1:=(jS.o.lt a.block (by rw[ha];rfl)).1;have q2:=gy.o _ (HA2.o a ha);exact(BX _ _ _ (by simp;omega)).trans ((B8 w3 ⟨b+5,0,none⟩ _ a.block (by show a.block≠b+5;omega)).trans (fK a.block q2 (λe=>by
     cases hA:A1 with
     |none=>rw[hA]at e;cases e
     |some a1=>rw[hA]at e;injection e with e;exact eH.o a1 a hA ha e.symm)))));clear an hgrow3 bF fK kG eh h32 h31)|(at_builtin;refine C7 _ rfl (.tmp 15) (.tmp 17) 61 rfl (b+6) 3 i0 _ 1 8 underlying61 bK cj bS bC rfl (by decide) _ n2 (Jo wi) rfl HWO3.o ⟨w3.heap.size,0,none⟩ 1 1 [.int .i64 (alQ9:Nat)] rfl rfl (Iz _ _ _ _ (by simp)) (by intro u hu;simp at hu;subst hu;rfl) (by unfold maxLen;omega) (by omega) (by simp;omega) ?_;intro v5 w5 eO hgrow5 _ Zv;obtain⟨A5,c5,rfl⟩:=GS eO;have pR:=EP eO;have xA:=EP hgrow5;have xk:=EP Zv;have kG:∀k,k<w.heap.size->k<b+6->k≠b+5->w5.heap[k]?=w.heap[k]?:=(λk hk hb ai=>(hgrow5.block k (by simp;omega) (λe=>by have:=(HWO3.o.lt k e.symm).1;omega)).trans ((BX _ _ _ (by simp;omega)).trans ((B8 w3 ⟨b+5,0,none⟩ _ k ai).trans (HK6.o k hk hb))));have h52:=HWI.o.same (kG (b+2) z2 (by omega) (by omega));obtain⟨k0,k1,k2⟩:=GG h52;have H52:=EP h52;have HK56:=EP kG;clear eO hgrow5 Zv kG h52))
 first|go_end0|refine Ce (CQ rfl _ _ _) rfl ?_
 obtain⟨g3,q3,e3,fL,hgl3⟩:=dZ.o.form (by omega);injection e3 with e3 _ e3';subst e3 e3';obtain⟨g5,q5,e5,wL,hgl5⟩:=pR.o.form (by omega);injection e5 with e5 _ e5';subst e5 e5';have hA1:∀q,some q=(Value.slice A1 n1 c1).ownBlock->M q/\b+6<=q:=λq hq=>by
  refine⟨?_,(HAO.o.lt q hq.symm).1⟩;cases hA:A1 with
  |none=>rw[hA]at hq;cases hq
  |some a=>rw[hA]at hq;injection hq with hq;rw[hq];exact HA1.o a hA
 have hA2:∀q,some q=(Value.slice A2 n2 c2).ownBlock->M q/\b+6<=q:=λq hq=>by
  refine⟨?_,(jS.o.lt q hq.symm).1⟩;cases hA:A2 with
  |none=>rw[hA]at hq;cases hq
  |some a=>rw[hA]at hq;injection hq with hq;rw[hq];exact HA2.o a hA
 have hA12:∀q,some q=(Value.slice A1 n1 c1).ownBlock->some q≠(Value.slice A2 n2 c2).ownBlock:=λq h1 h2=>by
  cases hA:A1 with
  |none=>rw[hA]at h1;cases h1
  |some a =>
   cases hB:A2 with
   |none=>rw[hB]at h2;cases h2
   |some a' =>
    rw[hA]at h1;rw[hB]at h2;injection h1 with h1;injection h2 with h2;exact eH.o a a' hA hB (by omega)
 have mX:some g3=(Value.slice A1 n1 c1).ownBlock\/g3=w.heap.size+2:=by
  rcases gu.o with h|h
  ·exact .inl h
  ·right
   have:(some g3:Option Nat)=some _:=h;injection this with this;rw[this];simp
 have hT5:some g5=(Value.slice A2 n2 c2).ownBlock\/g5=w3.heap.size+1:=by
  rcases xk.o with h|h
  ·exact .inl h
  ·right
   have:(some g5:Option Nat)=some _:=h;injection this with this;rw[this];simp
 have hg3A:some g3≠(Value.slice A2 n2 c2).ownBlock:=λh=>by
  rcases mX with h3|h3
  ·exact hA12 g3 h3 h
  ·have:=gy.o g3 (hA2 g3 h).1;omega
 have hne35:g3≠g5:=λe=>by
  rcases hT5 with h5|h5
  ·exact hg3A (e▸h5)
  ·omega
 have aM:∀k,k<w3.heap.size->k≠b+5->some k≠(Value.slice A2 n2 c2).ownBlock->w5.heap[k]?=w3.heap[k]?:=λk h1 h2 h3=>(xA.o.block k (by simp;omega) h3).trans ((BX _ _ _ (by simp;exact h1)).trans (B8 w3 ⟨b+5,0,none⟩ _ k h2));have hf:∀k,k≠b+2->(w5.setCell ⟨b+2,0,none⟩ (.slice (some ⟨g5,0,none⟩) (n2+1) c5)).heap[k]?=w5.heap[k]?:=λk hk=>B8 w5 ⟨b+2,0,none⟩ _ k hk;have aA:(w5.setCell ⟨b+2,0,none⟩ (.slice (some ⟨g5,0,none⟩) (n2+1) c5)).heap.size=w5.heap.size:=by simp
 have eI:w3.heap.size+1<=w5.heap.size:=by have:=xA.o.size;simp at this;exact this
 have aQ:ar w5 (b+5) 61 #[.slice (some ⟨g3,0,none⟩) (n1+1) c3]:=(xA.o.block (b+5) (by simp;omega) (λh=>by have:=(hA2 _ h).2;omega)).trans ((BX _ _ _ (by simp;omega)).trans (one_setCell H35.o));have aI:=HK56.o;refine⟨rfl,λg=>M g\/g=g3\/g=g5,⟨HIP.o.same ((hf b (by omega)).trans (aI b (by omega) (by omega) (by omega))),HNUM.o.same ((hf _ (by omega)).trans (aI _ x2 (by omega) (by omega))),HCEL.o.same ((hf _ (by omega)).trans (aI _ HCEL.o.lt (by omega) (by omega))),⟨some ⟨g3,0,none⟩,c3,some ⟨g5,0,none⟩,c5,⟨?_,?_⟩,⟨?_,?_⟩,?_,?_,?_⟩,?_,?_,?_,?_,?_⟩,?_,?_⟩
 ·rw[Cb,Yt.o];exact(hf _ (by omega)).trans aQ
 ·rw[Cb,Yt.o,rU.o,show Jo (arQ9++[n2])=Jo arQ9++[.int .i64 (n2:Nat)] by simp[Jo]];refine PL dZ.o (λa ha=>?_);injection ha with ha;rw[<-ha]
  exact(hf g3 (by omega)).trans (aM g3 hgl3 (by omega) hg3A)
 ·rw[Cb,rU.o];exact one_setCell H52.o
 ·rw[Cb,rU.o,show Jo (wi++[alQ9])=Jo wi++[.int .i64 (alQ9:Nat)] by simp[Jo]];refine PL pR.o (λa ha=>?_);injection ha with ha;rw[<-ha]
  exact hf g5 (by omega)
 ·intro a ha;injection ha with ha;rw[<-ha];exact .inr (.inl rfl)
 ·intro a ha;injection ha with ha;rw[<-ha];exact .inr (.inr rfl)
 ·intro a a' ha cB;injection ha with ha;injection cB with cB;rw[<-ha,<-cB];exact hne35
 ·exact⟨.inl pV.o.1,.inl pV.o.2.1,.inl pV.o.2.2.1,.inl pV.o.2.2.2.1,.inl pV.o.2.2.2.2⟩
 ·exact hJ w _ HJ.o (λg hg=>(hf g (by have:=(Us.o g hg).2;omega)).trans (aI g (gy.o g (Us.o g hg).1) (by have:=(Us.o g hg).2;omega) (by have:=(Us.o g hg).2;omega)))
 ·exact λg hg=>⟨.inl (Us.o g hg).1,(Us.o g hg).2⟩
 ·intro g hg;rw[aA];rcases hg with hg|rfl|rfl
  ·have:=gy.o g hg;omega
  ·omega
  ·omega
 ·simp only[Cb,List.length_singleton];rw[Yt.o,rU.o];omega
 ·intro g hg;rcases hg with hg|rfl|rfl
  ·exact .inl hg
  ·rcases mX with h|h
   ·exact .inl (hA1 _ h).1
   ·exact .inr (by omega)
  ·rcases hT5 with h|h
   ·exact .inl (hA2 _ h).1
   ·exact .inr (by omega)
 ·refine b_.setCell ?_ (p:=⟨b+2,0,none⟩) (.inr pV.o.2.2.1) _;refine b_.grown ?_ xA.o (λk hk=>.inr (hA2 k hk.symm).1);refine b_.alloc ?_ _;refine b_.setCell ?_ (p:=⟨b+5,0,none⟩) (.inr pV.o.2.2.2.2) _;exact((((b_.refl M w).alloc _).alloc _).grown bk.o (λk hk=>.inr (hA1 k hk.symm).1))
set_option maxRecDepth 100000
theorem PlI.step {b kp:Nat} {cp:Array Value} {J:World->Prop} {KJ:Nat->Prop} {c:Nat} {s:PlQ9} {M:Nat->Prop} {w w':World}(hJ:∀w w',J w->(∀g,KJ g->w'.heap[g]?=w.heap[g]?)->J w')(h:PlI b kp cp J KJ c s M w)(hb:Below w.heap.size w w'):PlI b kp cp J KJ (c+1) s M w' :=
 (PlI.inv b kp cp J KJ hJ).mono _ _ _ _ _ ((PlI.inv b kp cp J KJ hJ).al _ _ _ _ _ h hb.size (λg hg=>hb.block g (h.all g hg))) (DZ _)
theorem tc_placesOther(b kp:Nat)(cp:Array Value)(J:World->Prop)(KJ:Nat->Prop)(qd:Ty->Bool)(hJ:∀w w',J w->(∀g,KJ g->w'.heap[g]?=w.heap[g]?)->J w')(epQ9:∀args w,(callFunc kp args).run prog w=.ok (.enter kp args) w)(HP:IsPl kp cp J qd)
  (c:Nat)(s:PlQ9)(M:Nat->Prop)(env:List Name)(t:Ty)(S:Nat->Prop)(v:Value)(w:World)(h5:kd t≠5)(hi:PlI b kp cp J KJ c s M w)(hm:iT mkInt w (b+3) (I_ env))(hv:nc S w t v)(hS:∀g,S g->g<w.heap.size/\¬M g)(aw:Nm t)(hc:c<8000000000000):Calls prog 153 #[v,.pointer (some ⟨b+5,0,none⟩),.pointer (some ⟨b+2,0,none⟩),.pointer (some ⟨b+1,0,none⟩),.pointer (some ⟨b+4,0,none⟩),.pointer (some ⟨b,0,none⟩)] w λe w' =>
   e=.returned (.tuple #[])/\∃M',PlI b kp cp J KJ (c+1) (plCome qd env t s) M' w'/\(∀g,M' g->M g\/w.heap.size<=g)/\b_ M w w':=by
 obtain⟨K,X,Z,A,m,cq,rfl,hK,-,-,-,-⟩:=hv.parts;have d5:((K:Int)==5)=false:=by rw[hK];exact kF _ 5 h5
 have ef:Below w.heap.size w (w.alloc (.cells #[.int .i64 K,.string X,.int .i64 Z,.slice A m cq] 37)):=(Cc _ w).alloc (BU _) _;have hL:=zmX (b+3) env t S _ _ (hv.al (λ_ h=>h) (λg hg=>ef.block g (hS g hg).1)) (hm.al (ef.block _ hm.lt)) aw;have aW:plCome qd env t s=if K7 env t=true/\qd t=true then⟨s.arQ9,s.wi,s.alQ9+1⟩ else s:=Cg h5
 obtain⟨s',gJ⟩:∃s',plCome qd env t s=s':=⟨_,rfl⟩;rw[gJ]at aW;rw[gJ];obtain⟨y0,-,l4⟩:=GG hi.LH;have hleaf:=leafy_of t env;obtain⟨q,hq⟩:∃q,K7 env t=q:=⟨_,rfl⟩;rw[hq]at hL hleaf aW;have dv:=EP aW;have HL:=EP hL;have HI:=EP hi;have HV:=EP hv;have HS:=EP hS;have bQ:=EP aw;have Uy:=EP ef;clear hq aW gJ hK hL hi hm hv hS aw ef h5;go_in;go_wp2_with fail;refine HL.o.mono ?_;rintro e w1 ⟨rfl,b1⟩;have av:=Uy.o.trans (b1.mono (by simp));have aH:=b1.size;simp at aH;have aq:=ar.below (BZ w (.cells #[.int .i64 K,.string X,.int .i64 Z,.slice A m cq] 37)) b1 (by simp);obtain⟨p0,p1,p2,p3,u0,u1,u2,u3,dp⟩:=n_ aq;have bc:=EP av;have I1:=EP (PlI.step hJ HI.o av);obtain⟨i0,-,ilQ9⟩:=GG I1.o.isp;unfold FL at i0;clear av b1 aq HL;cases q with
 |false =>
  go_wp2_with fail;first|go_end0|refine Ce (CQ rfl _ _ _) rfl ?_
  have aW:=dv.o;rw[Cg (λh=>absurd h.1 (by decide))]at aW;rw[aW];exact⟨rfl,M,I1.o,λg hg=>.inl hg,b_.c_ bc.o⟩
 |true =>
  have cL:=HP t S _ w1 I1.o.jj (HV.o.al (λ_ h=>h) (λg hg=>bc.o.block g (HS.o g hg).1)) (λg hg=>by have:=(HS.o g hg).1;omega) (hleaf rfl) bQ.o;obtain⟨r,hr⟩:∃r,qd t=r:=⟨_,rfl⟩;have aW:=dv.o;rw[hr]at cL aW;have vw:=EP aW;clear aW;have HPL:=EP cL;clear cL hr hleaf;go_wp2_with fail;refine HPL.o.mono ?_;rintro e w2 ⟨rfl,b2⟩;have cC:=EP (bc.o.trans (b2.mono bc.o.size));have I2:=EP (PlI.step hJ HI.o cC.o);clear b2 HPL;cases r with
  |false =>
   go_wp2_with fail;first|go_end0|refine Ce (CQ rfl _ _ _) rfl ?_
   have aW:=vw.o;rw[Cg (λh=>absurd h.2 (by decide))]at aW;rw[aW];exact⟨rfl,M,I2.o,λg hg=>.inl hg,b_.c_ cC.o⟩
  |true =>
   have hlen:=HI.o.len;obtain⟨x0,x1,x2⟩:=GG I2.o.num;have hal3:s.alQ9<8000000000000:=by omega
   go_wp2_with fail;first|go_end0|refine Ce (CQ rfl _ _ _) rfl ?_
   have aW:=vw.o;rw[Ch (by simp)]at aW;rw[aW];have mR:=I2.o;have bO:=mR.low;have hf:∀k,k≠b+1->(w2.setCell ⟨b+1,0,none⟩ (.int .i64 ((s.alQ9:Int)+1))).heap[k]?=w2.heap[k]?:=λk hk=>B8 w2 ⟨b+1,0,none⟩ _ k hk;obtain⟨A1,c1,A2,c2,h1,h2,h3,h4,h5⟩:=mR.nums;refine⟨rfl,M,{ isp:=mR.isp.same (hf b (by omega)),num:=?_,LH:=mR.LH.same (hf _ (by omega)),nums:=⟨A1,c1,A2,c2,h1.al (hf _ (by omega)) (λa ha=>hf _ ?_),h2.al (hf _ (by omega)) (λa ha=>hf _ ?_),h3,h4,h5⟩,low:=bO,jj:=hJ _ _ mR.jj (λg hg=>hf g (by have:=(mR.kjQ9 g hg).2;omega)),kjQ9:=mR.kjQ9,all:=λg hg=>by have:=mR.all g hg;simp;exact this,len:=?_ },λg hg=>.inl hg,(b_.c_ cC.o).setCell (p:=⟨b+1,0,none⟩) (.inr bO.2.1) _⟩
   ·have:=one_setCell (u:=.int .i64 ((s.alQ9:Int)+1)) mR.num;exact this
   ·have:=(h1.2.lt a.block (by rw[ha];rfl)).1;omega
   ·have:=(h2.2.lt a.block (by rw[ha];rfl)).1;omega
   ·show s.arQ9.length<=c+1/\s.wi.length<=c+1/\s.alQ9+1<=c+1;omega
theorem vis_places1(b kp:Nat)(cp:Array Value)(J:World->Prop)(KJ:Nat->Prop)(qd:Ty->Bool)(hJ:∀w w',J w->(∀g,KJ g->w'.heap[g]?=w.heap[g]?)->J w')(epQ9:∀args w,(callFunc kp args).run prog w=.ok (.enter kp args) w)(HP:IsPl kp cp J qd):Oa 153 #[.pointer (some ⟨b+5,0,none⟩),.pointer (some ⟨b+2,0,none⟩),.pointer (some ⟨b+1,0,none⟩),.pointer (some ⟨b+4,0,none⟩),.pointer (some ⟨b,0,none⟩)] (b+3) (PlI b kp cp J KJ) (plCome qd):=by
 intro c s M env t S v w hi hm _ hv hS aw _ hc;by_cases h5:kd t=5
 ·rw[plCome_all qd env t s h5];obtain⟨K,X,Z,A,m,cq,rfl,hK,-,-,-,-⟩:=hv.parts;exact tc_placesAll b kp cp J KJ c s M K Z X A m cq w (by rw[hK,h5];rfl) hJ hi hc
 ·exact tc_placesOther b kp cp J KJ qd hJ epQ9 HP c s M env t S v w h5 hi hm hv hS aw hc
set_option maxRecDepth 100000
theorem intV_get(l:List Nat)(i:Nat)(hi:i<l.length):(Jo l)[i]?=some (.int .i64 ((l.getD i 0:Nat):Int)):=by
 simp[Jo,BY hi]
theorem own_take {w:World} {B:Nat} {e:TypeId} {g n c k:Nat} {xs:List Value}(h:w.ownsRow B e 1 (.slice (some ⟨g,0,none⟩) n c) n xs)(hk:k<=n):w.ownsRow B e 1 (.slice (some ⟨g,0,none⟩) k c) k (xs.take k):=by
 obtain⟨h0,h⟩:=h;refine⟨by rw[DH];omega,?_⟩;rcases h with⟨h,_⟩|⟨g',cap,cur,hv,hg,hb,h1,h2,h3,h4⟩
 ·cases h
 ·injection hv with hv _ hc
  injection hv with hv;injection hv with hv;subst hv hc;refine .inr ⟨g,c,cur,rfl,hg,hb,by omega,h2,h3,?_⟩;rw[<-h4,List.take_take,Nat.mul_one,Nat.mul_one,Nat.min_eq_left hk]
theorem tc_placesOut(b kp:Nat)(cp:Array Value)(J:World->Prop)(KJ:Nat->Prop)(c:Nat)(s:PlQ9)(M:Nat->Prop)(K Z:Int)(X:ByteArray)(A:Option Addr)(m cq:Nat)(w:World)(d5:((K:Int)==5)=true)(hJ:∀w w',J w->(∀g,KJ g->w'.heap[g]?=w.heap[g]?)->J w')(hi:PlI b kp cp J KJ c s M w)(hc:c<8000000000000)
  (h1:s.arQ9≠[])(h2:s.arQ9.getD (s.arQ9.length-1) 0<s.wi.length)(h3:s.wi.getD (s.arQ9.getD (s.arQ9.length-1) 0) 0<=s.alQ9):Calls prog 154 #[.agg #[.int .i64 K,.string X,.int .i64 Z,.slice A m cq],.pointer (some ⟨b+5,0,none⟩),.pointer (some ⟨b+1,0,none⟩),.pointer (some ⟨b+2,0,none⟩)] w λe w' =>
   e=.returned (.tuple #[])/\∃M',PlI b kp cp J KJ (c+1) ⟨s.arQ9.take (s.arQ9.length-1),s.wi.set (s.arQ9.getD (s.arQ9.length-1) 0) (s.alQ9-s.wi.getD (s.arQ9.getD (s.arQ9.length-1) 0) 0),s.alQ9⟩ M' w'/\(∀g,M' g->M g\/w.heap.size<=g)/\b_ M w w':=by
 obtain⟨A1,c1,A2,c2,⟨ha,hao⟩,⟨hw,bR⟩,hA1,hA2,ai⟩:=hi.nums;have mI:=hi.num;have hl:=hi.len;have HI:=EP hi;clear hi;obtain⟨arQ9,wi,alQ9⟩:=s;simp only at mI ha hao hw bR hl h1 h2 h3 ⊢;obtain⟨k,hk⟩:∃k,arQ9.length=k+1:=⟨arQ9.length-1,by have:=List.length_pos_iff.2 h1;omega⟩;obtain⟨n2,lM⟩:∃n2,wi.length=n2:=⟨_,rfl⟩;rw[hk,Nat.add_sub_cancel]at h2 h3 ⊢;rw[hk]at ha hao hl;rw[lM]at hw bR hl h2;obtain⟨p,hp⟩:∃p,arQ9.getD k 0=p:=⟨_,rfl⟩;obtain⟨x,hx⟩:∃x,wi.getD p 0=x:=⟨_,rfl⟩;rw[hp]at h2 h3 ⊢;rw[hx]at h3 ⊢;have gaQ9:=intV_get arQ9 k (by omega);rw[hp]at gaQ9;have gwQ9:=intV_get wi p (by omega);rw[hx]at gwQ9;obtain⟨g1,rfl,q1,q2,q3⟩:=own_cell hao (Nat.lt_succ_self k) gaQ9;obtain⟨g2,rfl,r1,r2,r3⟩:=own_cell bR h2 gwQ9;obtain⟨x0,x1,x2⟩:=GG mI;obtain⟨y0,y1,y2⟩:=GG ha;obtain⟨z0,z1,z2⟩:=GG hw;have u0:=q3 w rfl;have v0:=r3 w rfl;have ef:∀q,q<w.heap.size->(w.alloc (.cells #[.int .i64 K,.string X,.int .i64 Z,.slice A m cq] 37)).heap[q]?=w.heap[q]?:=λq hq=>BX _ _ _ hq;have v1:w.frozen? ⟨g2,p,none⟩=false:=by
  rcases bR.2 with⟨_,h0⟩|⟨g,cap,cur,hv,hg,hb,_⟩
  ·omega
  ·injection hv with hv
   injection hv with hv;injection hv with hv;subst hv;exact frozen_of_row w g2 p cur _ hb
 have Zs:k+1<=c1:=by
  rcases hao.2 with⟨_,h0⟩|⟨g,cap,cur,hv,hg,hb,h4,_⟩
  ·omega
  ·injection hv with _ _ hv
   omega
 have HAR:=EP ha;have HAO:=EP hao;have HWI:=EP hw;have jS:=EP bR;have HA1:=EP hA1;have HA2:=EP hA2;have eH:=EP (ai _ _ rfl rfl);have HNUM:=EP mI;have HP:=EP hp;have HX:=EP hx;have HK:=EP hk;have rU:=EP lM;clear mI ha hao hw bR hA1 hA2 ai gaQ9 gwQ9 q3 r3 ef hp hx hk lM h1;go_in;go_wp2_with fail;go_region
 all_goals
  go_wp2_with fail
 first|go_end0|refine Ce (CQ rfl _ _ _) rfl ?_
 have hi:=HI.o;have gM:g2<w.heap.size:=r2;have hf:∀q,q<w.heap.size->q≠g2->q≠b+5->((((w.setCell ⟨g2,p,none⟩ (.int .i64 ((alQ9:Int)-(x:Int)))).setCell ⟨b+5,0,none⟩ (.slice (some ⟨g1,0,none⟩) k c1)).alloc (.cells #[.int .i64 K,.string X,.int .i64 Z,.slice A m cq] 37)).drew).heap[q]?=w.heap[q]?:=λq h1 h2 h3 =>
  (BX _ _ q (by simp;exact h1)).trans ((B8 _ ⟨b+5,0,none⟩ _ q h3).trans (B8 w ⟨g2,p,none⟩ _ q h2))
 have hne12:g1≠g2:=eH.o;refine⟨rfl,M,{ isp:=hi.isp.same (hf b hi.isp.lt (by omega) (by omega)),num:=hi.num.same (hf _ x2 (by omega) (by omega)),LH:=hi.LH.same (hf _ hi.LH.lt (by omega) (by omega)),nums:=⟨some ⟨g1,0,none⟩,c1,some ⟨g2,0,none⟩,c2,⟨?_,?_⟩,⟨?_,?_⟩,HA1.o,HA2.o,λa a' h h'=>by injection h with h;injection h' with h';rw[<-h,<-h'];exact hne12⟩,low:=hi.low,jj:=hJ w _ hi.jj (λg hg=>hf g (hi.all g (hi.kjQ9 g hg).1) (by have:=(hi.kjQ9 g hg).2;omega) (by have:=(hi.kjQ9 g hg).2;omega)),kjQ9:=hi.kjQ9,all:=λg hg=>by have:=hi.all g hg;show g<(World.alloc _ _).heap.size;simp;omega,len:=?_ },λg hg=>.inl hg,?_⟩
 ·rw[DH,HK.o,Nat.min_eq_left (DZ k)];have h1:ar (w.setCell ⟨g2,p,none⟩ (.int .i64 ((alQ9:Int)-(x:Int)))) (b+5) 61 #[.slice (some ⟨g1,0,none⟩) (k+1) c1]:=HAR.o.I8 (p:=⟨g2,p,none⟩) (by show b+5≠g2;omega) _;exact(BX _ _ _ (by simp;exact y2)).trans (one_setCell h1)
 ·rw[DH,HK.o,Nat.min_eq_left (DZ k)];have h1:=own_take HAO.o (DZ k);rw[show(Jo arQ9).take k=Jo (arQ9.take k) by simp[Jo,List.map_take]]at h1;exact PL h1 (λa h=>by injection h with h;rw[<-h];exact hf g1 q2 hne12 (by show g1≠b+5;omega))
 ·rw[List.length_set,rU.o];exact HWI.o.same (hf _ z2 (by omega) (by omega))
 ·rw[List.length_set,rU.o];have h1:=(jS.o.stored p (.int .i64 ((alQ9:Int)-(x:Int)))).1;rw[show(Jo wi).set p (.int .i64 ((alQ9:Int)-(x:Int)))=Jo (wi.set p (alQ9-x)) by unfold Jo;rw[List.map_set,Int.ofNat_sub h3]]at h1;refine PL h1 (λa h=>?_);injection h with h;rw[<-h]
  exact(BX _ _ _ (by simp;exact gM)).trans (B8 _ ⟨b+5,0,none⟩ _ g2 (by show g2≠b+5;omega))
 ·show(arQ9.take k).length<=c+1/\(wi.set p (alQ9-x)).length<=c+1/\alQ9<=c+1;rw[DH,List.length_set,HK.o,rU.o];omega
 ·exact((((b_.refl M w).setCell (p:=⟨g2,p,none⟩) (.inr (HA2.o ⟨g2,0,none⟩ rfl)) _).setCell (p:=⟨b+5,0,none⟩) (.inr hi.low.2.2.2.2) _).alloc _).drew
set_option maxRecDepth 100000
theorem tc_placesStay(K:Int)(X:ByteArray)(Z:Int)(A:Option Addr)(m c:Nat)(x y z:Value)(w:World)(d5:((K:Int)==5)=false):Calls prog 154 #[.agg #[.int .i64 K,.string X,.int .i64 Z,.slice A m c],x,y,z] w λe w'=>e=.returned (.tuple #[])/\Below w.heap.size w w':=by
 go_in;go_wp2
 first|go_end0|refine Ce (CQ rfl _ _ _) rfl ?_
 exact⟨rfl,(Cc _ w).alloc (BU _) _⟩
theorem vis_places2(b kp:Nat)(cp:Array Value)(J:World->Prop)(KJ:Nat->Prop)(hJ:∀w w',J w->(∀g,KJ g->w'.heap[g]?=w.heap[g]?)->J w'):OU 154 #[.pointer (some ⟨b+5,0,none⟩),.pointer (some ⟨b+1,0,none⟩),.pointer (some ⟨b+2,0,none⟩)] (b+3) (PlI b kp cp J KJ) plOK plLeave:=by
 intro c s M env t S v w hi _ _ hv _ _ _ hc hp;obtain⟨K,X,Z,A,m,cq,rfl,hK,-,-,-,-⟩:=hv.parts;by_cases h5:kd t=5
 ·obtain⟨h1,h2,h3⟩:=hp h5;rw[show plLeave env t s=⟨s.arQ9.take (s.arQ9.length-1),s.wi.set (s.arQ9.getD (s.arQ9.length-1) 0) (s.alQ9-s.wi.getD (s.arQ9.getD (s.arQ9.length-1) 0) 0),s.alQ9⟩ from Ch h5];exact tc_placesOut b kp cp J KJ c s M K Z X A m cq w (by rw[hK,h5];rfl) hJ hi hc h1 h2 h3
 ·rw[show plLeave env t s=s from Cg h5];refine(tc_placesStay K X Z A m cq _ _ _ w (by rw[hK];exact kF _ 5 h5)).mono ?_;rintro e w' ⟨rfl,hb⟩;exact⟨rfl,M,hi.step hJ hb,λg hg=>.inl hg,b_.c_ hb⟩
end
section
open Go.RowKit Lx Tx Go.Maps Go.WideMaps Go.Shelf
def placesOf(qd:Ty->Bool)(t:Ty):PlQ9:=Hp (plCome qd) plLeave [] t ⟨[],[],0⟩
theorem tc_places(kp:Nat)(cp:Array Value)(J:World->Prop)(KJ:Nat->Prop)(qd:Ty->Bool)(hJ:∀w w',J w->(∀g,KJ g->w'.heap[g]?=w.heap[g]?)->J w')(epQ9:∀args w,(callFunc kp args).run prog w=.ok (.enter kp args) w)(HP:IsPl kp cp J qd)
  (t:Ty)(S:Nat->Prop)(v:Value)(w:World)(hj:J w)(hKJ:∀g,KJ g->g<w.heap.size)(hv:nc S w t v)(hS:∀g,S g->g<w.heap.size/\¬KJ g)(aw:Nm t)(aA:t.size<=1000000):Calls prog 112 #[v,FL kp cp] w λe w'=>∃A c,e=.returned (.tuple #[.int .i64 ((placesOf qd t).alQ9:Nat),.slice A (placesOf qd t).wi.length c])/\w'.ownsRow w.heap.size 3 1 (.slice A (placesOf qd t).wi.length c) (placesOf qd t).wi.length (Jo (placesOf qd t).wi) /\
   (placesOf qd t).alQ9<=2*t.size/\J w'/\b_ KJ w w':=by
 obtain⟨K,X,Z,A,m,cq,rfl,-,-,-,-,-⟩:=hv.parts;have iZ:∀(fn:Fn) (first cap:Array Value) (w:World),(Instr.makeFunc fn first cap).run prog w=.ok (.func fn first cap) w:=λ_ _ _ _=>rfl;have dU:∀w,(Instr.makeMap 116 none).run prog w=.ok (.map (some w.heap.size)) (w.alloc (.map #[] 0)):=λ_=>rfl;obtain⟨W4,jB⟩:∃W,W=(((w.alloc (.cells #[.int .i64 K,.string X,.int .i64 Z,.slice A m cq] 37)).alloc (.cells #[FL kp cp] 58)).alloc (.cells #[.int .i64 0] 3)).alloc (.cells #[.slice none 0 0] 61):=⟨_,rfl⟩;obtain⟨W7,TI⟩:∃W,W=((W4.alloc (.map #[] 0)).alloc (.cells #[.map (some (w.heap.size+4))] 116)).alloc (.cells #[.slice none 0 0] 61):=⟨_,rfl⟩;obtain⟨l0,l1,l2,l3,ls,lb⟩:=MS w (.cells #[.int .i64 K,.string X,.int .i64 Z,.slice A m cq] 37) (.cells #[FL kp cp] 58) (.cells #[.int .i64 0] 3) (.cells #[.slice none 0 0] 61);obtain⟨m0,m1,m2,ms,mb⟩:=MU W4 (.map #[] 0) (.cells #[.map (some (w.heap.size+4))] 116) (.cells #[.slice none 0 0] 61);rw[<-jB]at l0 l1 l2 l3 ls lb
 rw[<-TI]at m0 m1 m2 ms mb;rw[ls]at m0 m1 m2 ms mb;have fk:Below w.heap.size w W7:=lb.trans (mb.mono (by omega));have hlift:∀q,q<w.heap.size+4->W7.heap[q]?=W4.heap[q]?:=mb.block;obtain⟨wf1,-,-,-,-⟩:=wf_places qd t.size t [] ⟨[],[],0⟩ (BU _) (λa ha=>absurd ha (by simp));have hT:=zrs t.size 153 154 #[.pointer (some ⟨w.heap.size+1+5,0,none⟩),.pointer (some ⟨w.heap.size+1+2,0,none⟩),.pointer (some ⟨w.heap.size+1+1,0,none⟩),.pointer (some ⟨w.heap.size+1+4,0,none⟩),.pointer (some ⟨w.heap.size+1,0,none⟩)]
  #[.pointer (some ⟨w.heap.size+1+5,0,none⟩),.pointer (some ⟨w.heap.size+1+1,0,none⟩),.pointer (some ⟨w.heap.size+1+2,0,none⟩)] (w.heap.size+1+3) (PlI (w.heap.size+1) kp cp J KJ) plOK (plCome qd) plLeave (PlI.inv _ kp cp J KJ hJ)
  (enters_of func153 (by kernel_rfl) rfl) (enters_of func154 (by kernel_rfl) rfl) (vis_places1 _ kp cp J KJ qd hJ epQ9 HP) (vis_places2 _ kp cp J KJ hJ)
  0 ⟨[],[],0⟩ (λg=>KJ g\/g=w.heap.size+1\/g=w.heap.size+1+1\/g=w.heap.size+1+2\/g=w.heap.size+1+4\/g=w.heap.size+1+5) [] t S _ W7 (BU _) (by omega)
  {isp:=(hlift _ (by omega)).trans l1
   num:=(hlift _ (by omega)).trans l2
   LH:=m1
   nums:=⟨none,0,none,0,⟨m2,CM _ _ _ _⟩,⟨(hlift _ (by omega)).trans l3,CM _ _ _ _⟩,λa h=>(by cases h),λa h=>(by cases h),λa a' h=>(by cases h)⟩
   low:=⟨.inr (.inl rfl),.inr (.inr (.inl rfl)),.inr (.inr (.inr (.inl rfl))),.inr (.inr (.inr (.inr (.inl rfl)))),.inr (.inr (.inr (.inr (.inr rfl))))⟩
   jj:=hJ w _ hj (λg hg=>fk.block g (hKJ g hg))
   kjQ9:=λg hg=>⟨.inl hg,by have:=hKJ g hg;omega⟩
   all:=λg hg=>by rcases hg with h|h|h|h|h|h;have:=hKJ g h;omega;all_goals omega
   len:=⟨BU _,BU _,BU _⟩ }
  (iT.laid mkInt m0) (λh=>by rcases h with h|h|h|h|h|h;have:=hKJ _ h;omega;all_goals omega)
  (hv.al (λ_ h=>h) (λg hg=>fk.block g (hS g hg).1)) (λg hg=>by
   obtain⟨x1,x2⟩:=hS g hg;refine⟨by omega,λh=>?_,by omega⟩;rcases h with h|h|h|h|h|h
   ·exact x2 h
   all_goals omega) aw (by omega) (by simp;omega) wf1
 unfold FL at hT;have HT:=EP hT;have HB7:=EP fk;have Us:=EP hKJ;obtain⟨⟨arQ9,wi,alQ9⟩,hP⟩:∃P,placesOf qd t=P:=⟨_,rfl⟩;obtain⟨n,hn⟩:∃n,wi.length=n:=⟨_,rfl⟩;have nT:=EP hP;have HN:=EP hn;rw[hP];simp only[hn];clear hT fk hv hj hKJ hS aw l0 l1 l2 l3 ls lb m0 m1 m2 ms mb hlift wf1 hP hn;unfold FL at jB ⊢;go_in;go_wp2_with fail;rw[TI,jB]at HT HB7;refine HT.o.mono ?_;rintro e w1 ⟨rfl,M1,i1,-,jC,b1⟩;change PlI (w.heap.size+1) kp cp J KJ (0+2*t.size-0) (placesOf qd t) M1 w1 at i1;rw[nT.o]at i1;obtain⟨A1,c1,A2,c2,h1,h2,h3,h4,h5⟩:=i1.nums;have hlen:=i1.len.2.2;have mI:=i1.num;have hwi:=h2.1;have aE:=h2.2;rw[HN.o]at hwi aE;obtain⟨x0,x1,x2⟩:=GG mI;obtain⟨y0,y1,y2⟩:=GG hwi;have HNUM:=EP mI;have HWI:=EP hwi;have fH:=EP i1;have eG:=EP aE;have gU:=EP hlen;have B1:=EP b1;have dP:=EP jC;have H4:=EP h4;clear mI hwi i1 h1 h2 h3 h4 h5 aE HT b1 jC TI jB hlen;go_wp2_with fail;go_region
 all_goals
  go_wp2_with fail
 have hi:=fH.o;have e1:∀q,q≠w.heap.size+1+1->q≠w.heap.size+1+1+1->(((w1.setCell ⟨w.heap.size+1+1,0,none⟩ (.int .i64 (alQ9:Nat))).setCell ⟨w.heap.size+1+1+1,0,none⟩ (.slice A2 n c2)).drew).heap[q]?=w1.heap[q]?:=λq h1 h2 =>
  (B8 _ ⟨w.heap.size+1+1+1,0,none⟩ _ q h2).trans (B8 w1 ⟨w.heap.size+1+1,0,none⟩ _ q h1)
 have k1:ar (((w1.setCell ⟨w.heap.size+1+1,0,none⟩ (.int .i64 (alQ9:Nat))).setCell ⟨w.heap.size+1+1+1,0,none⟩ (.slice A2 n c2)).drew) (w.heap.size+1+1) 3 #[.int .i64 (alQ9:Nat)] :=
  ar.I8 (one_setCell (u:=.int .i64 (alQ9:Nat)) HNUM.o) (p:=⟨w.heap.size+1+1+1,0,none⟩) (by show w.heap.size+1+1≠w.heap.size+1+1+1;omega) _
 have k2:ar (((w1.setCell ⟨w.heap.size+1+1,0,none⟩ (.int .i64 (alQ9:Nat))).setCell ⟨w.heap.size+1+1+1,0,none⟩ (.slice A2 n c2)).drew) (w.heap.size+1+1+1) 61 #[.slice A2 n c2] :=
  one_setCell (u:=.slice A2 n c2) (HWI.o.I8 (p:=⟨w.heap.size+1+1,0,none⟩) (by show w.heap.size+1+1+1≠w.heap.size+1+1;omega) (.int .i64 (alQ9:Nat)))
 refine Ce (zgV rfl _ _ (w.heap.size+1+1) (w.heap.size+1+1+1) 3 61 _ _ _ _ rfl rfl k1 k2 underlying3 rfl underlying61 rfl) rfl ⟨A2,c2,rfl,?_,?_,?_,?_⟩
 ·refine PL (Vq eG.o (by omega)) (λa ha=>e1 _ ?_ ?_)
  ·have:=(eG.o.lt a.block (by rw[ha];rfl)).1;omega
  ·have:=(eG.o.lt a.block (by rw[ha];rfl)).1;omega
 ·have:=gU.o;have h2:alQ9<=0+2*t.size-0:=this;omega
 ·exact hJ w1 _ hi.jj (λg hg=>e1 g (by have:=(hi.kjQ9 g hg).2;omega) (by have:=(hi.kjQ9 g hg).2;omega))
 ·refine b_.drew (b_.setCell (b_.setCell ((b_.c_ (M:=KJ) HB7.o).trans' B1.o (λq hq h=>?_)) (p:=⟨w.heap.size+1+1,0,none⟩) (.inl (by show w.heap.size<=w.heap.size+1+1;omega)) _) (p:=⟨w.heap.size+1+1+1,0,none⟩) (.inl (by show w.heap.size<=w.heap.size+1+1+1;omega)) _);rcases h with(h|h|h|h|h|h)|h
  ·exact h
  all_goals omega
def bindP(free but:List Name)(x:Name)(s:List Nat × Nat):Name ×(List Nat × Nat) :=
 if x∈free/\0<s.1.headD 0 then(nm 120 (FY 120 but s.2),(s.1.tail,FY 120 but s.2+1)) else(x,(s.1.tail,s.2))
def LeftAt(w:World)(q rg:Nat)(l:List Nat):Prop :=
 ∃A c,ar w q 61 #[.slice A l.length c]/\l.length<=c/\(0<l.length->∃o,A=some ⟨rg,o,none⟩/\∀(j:Nat) (hj:j<l.length),w.cell? ⟨rg,o+j,none⟩=some (.int .i64 (l[j]:Nat)))
theorem LeftAt.al {w w':World} {q rg:Nat} {l:List Nat}(h:LeftAt w q rg l)(h1:w'.heap[q]?=w.heap[q]?)(h2:w'.heap[rg]?=w.heap[rg]?):LeftAt w' q rg l:=by
 obtain⟨A,c,hb,hc,hp⟩:=h;refine⟨A,c,hb.same h1,hc,λh0=>?_⟩;obtain⟨o,hA,ay⟩:=hp h0;exact⟨o,hA,λj hj=>(Ck (w:=w) (a:=⟨rg,o+j,none⟩) h2).trans (ay j hj)⟩
structure PutB where
 lb:Nat
 nb:Nat
 sb:Nat
 mb:Nat
 pwQ9:Nat
 rg:Nat
 pfQ9:Nat
 mf:Nat
 pn:Nat
 bi:Nat
 bu:Nat
def PutB.K(b:PutB)(KJ Su:Nat->Prop)(g:Nat):Prop :=
 g=b.lb\/g=b.nb\/g=b.sb\/g=b.mb\/g=b.pwQ9\/g=b.rg\/g=b.pfQ9\/g=b.mf\/g=b.pn\/g=b.bi\/g=b.bu\/g=0\/KJ g\/Su g
def PutB.M(b:PutB)(g:Nat):Prop:=g=b.nb\/g=b.pwQ9
structure PutI (b:PutB) (kp:Nat) (cp:Array Value) (J:World->Prop) (KJ Su:Nat->Prop) (u:Ty) (uv:Array Value) (free but:List Name) (c:Nat) (s:List Nat × Nat) (w:World):Prop where
 new:Hs 120 b.lb b.nb b.sb b.mb but s.2 w
 left:LeftAt w b.pwQ9 b.rg s.1
 rgl:b.rg<w.heap.size
 fc:ar w b.pfQ9 93 #[.map (some b.mf)]
 fsQ9:iT mkSet w b.mf (kj free)
 ncQ9:ar w b.pn 40 #[G4 b.lb b.nb b.sb]
 isp:ar w b.bi 58 #[FL kp cp]
 ubQ9:ar w b.bu 37 uv
 urQ9:nc Su w u (.agg uv)
 jj:J w
 kjQ9:∀g,KJ g->g<w.heap.size
 su:∀g,Su g->g<w.heap.size
 tab:FO w
 len:s.2<=c*(but.length+1)
 full:10000000<=s.1.length+c
theorem PutI.inv(b:PutB)(kp:Nat)(cp:Array Value)(J:World->Prop)(KJ Su:Nat->Prop)(u:Ty)(uv:Array Value)(free but:List Name)(hJ:∀w w',J w->(∀g,KJ g->w'.heap[g]?=w.heap[g]?)->J w'):Gt (PutI b kp cp J KJ Su u uv free but) (b.K KJ Su) where
 mono c c' s w h hc:={ h with len:=Cm h.len (Nat.mul_le_mul_right _ hc),full:=by have:=h.full;omega }
 lt c s w h g hg:=by
  rcases hg with rfl|rfl|rfl|rfl|rfl|rfl|rfl|rfl|rfl|rfl|rfl|rfl|hg|hg
  ·exact h.new.let_.lt
  ·exact h.new.num.lt
  ·exact h.new.LH.lt
  ·exact h.new.set.lt
  ·obtain⟨_,_,hb,_⟩:=h.left;exact hb.lt
  ·exact h.rgl
  ·exact h.fc.lt
  ·exact h.fsQ9.lt
  ·exact h.ncQ9.lt
  ·exact h.isp.lt
  ·exact h.ubQ9.lt
  ·exact h.tab.lt
  ·exact h.kjQ9 g hg
  ·exact h.su g hg
 al c s w w' h hs hk:=by
  have k:∀g,b.K KJ Su g->w'.heap[g]?=w.heap[g]?:=hk;unfold PutB.K at k;exact{
   new:=h.new.al (k _ (by simp)) (k _ (by simp)) (k _ (by simp)) (k _ (by simp))
   left:=h.left.al (k _ (by simp)) (k _ (by simp))
   rgl:=Ci h.rgl hs
   fc:=h.fc.same (k _ (by simp))
   fsQ9:=h.fsQ9.al (k _ (by simp))
   ncQ9:=h.ncQ9.same (k _ (by simp))
   isp:=h.isp.same (k _ (by simp))
   ubQ9:=h.ubQ9.same (k _ (by simp))
   urQ9:=h.urQ9.al (λ_ h=>h) (λg hg=>k g (by simp[hg]))
   jj:=hJ w w' h.jj (λg hg=>k g (by simp[hg]))
   kjQ9:=λg hg=>Ci (h.kjQ9 g hg) hs
   su:=λg hg=>Ci (h.su g hg) hs
   tab:=h.tab.al (k _ (by simp))
   len:=h.len
   full:=h.full }
structure PutB.Apart (b:PutB) (KJ Su:Nat->Prop):Prop where
 nb:b.nb≠b.lb/\b.nb≠b.sb/\b.nb≠b.mb/\b.nb≠b.pwQ9/\b.nb≠b.rg/\b.nb≠b.pfQ9/\b.nb≠b.mf/\b.nb≠b.pn/\b.nb≠b.bi/\b.nb≠b.bu/\b.nb≠0/\¬KJ b.nb/\¬Su b.nb
 pwQ9:b.pwQ9≠b.lb/\b.pwQ9≠b.sb/\b.pwQ9≠b.mb/\b.pwQ9≠b.nb/\b.pwQ9≠b.rg/\b.pwQ9≠b.pfQ9/\b.pwQ9≠b.mf/\b.pwQ9≠b.pn/\b.pwQ9≠b.bi/\b.pwQ9≠b.bu/\b.pwQ9≠0/\¬KJ b.pwQ9/\¬Su b.pwQ9
theorem PutI.step {b:PutB} {kp:Nat} {cp:Array Value} {J:World->Prop} {KJ Su:Nat->Prop} {u:Ty} {uv:Array Value} {free but:List Name} {c p k:Nat} {l:List Nat} {w:World} {v:Value}(hJ:∀w w',J w->(∀g,KJ g->w'.heap[g]?=w.heap[g]?)->J w')(ha:b.Apart KJ Su)
  (h:PutI b kp cp J KJ Su u uv free but c (p::l,k) w)(hv:LeftAt (w.setCell ⟨b.pwQ9,0,none⟩ v) b.pwQ9 b.rg l):PutI b kp cp J KJ Su u uv free but (c+1) (l,k) (w.setCell ⟨b.pwQ9,0,none⟩ v):=by
 have e:∀g,g≠b.pwQ9->(w.setCell ⟨b.pwQ9,0,none⟩ v).heap[g]?=w.heap[g]?:=λg hg=>B8 w ⟨b.pwQ9,0,none⟩ v g hg;obtain⟨a1,a2,a3,a4,a5,a6,a7,a8Q9,a9,a10,a11,a12,a13⟩:=ha.pwQ9;have hs:(w.setCell ⟨b.pwQ9,0,none⟩ v).heap.size=w.heap.size:=by simp
 exact
  {new:=h.new.al (e _ a1.symm) (e _ a4.symm) (e _ a2.symm) (e _ a3.symm)
   left:=hv
   rgl:=by rw[hs];exact h.rgl
   fc:=h.fc.same (e _ a6.symm)
   fsQ9:=h.fsQ9.al (e _ a7.symm)
   ncQ9:=h.ncQ9.same (e _ a8Q9.symm)
   isp:=h.isp.same (e _ a9.symm)
   ubQ9:=h.ubQ9.same (e _ a10.symm)
   urQ9:=h.urQ9.al (λ_ h=>h) (λg hg=>e g (λhe=>a13 (he▸hg)))
   jj:=hJ w _ h.jj (λg hg=>e g (λhe=>a12 (he▸hg)))
   kjQ9:=λg hg=>by rw[hs];exact h.kjQ9 g hg
   su:=λg hg=>by rw[hs];exact h.su g hg
   tab:=h.tab.al (e _ a11.symm)
   len:=by have:=h.len;simp only[Cy]at this ⊢;omega
   full:=by have:=h.full;simp at this ⊢;omega }
theorem PutI.fresh {b:PutB} {kp:Nat} {cp:Array Value} {J:World->Prop} {KJ Su:Nat->Prop} {u:Ty} {uv:Array Value} {free but:List Name} {c k k':Nat} {l:List Nat} {w w':World}(hJ:∀w w',J w->(∀g,KJ g->w'.heap[g]?=w.heap[g]?)->J w')(ha:b.Apart KJ Su)
  (h:PutI b kp cp J KJ Su u uv free but c (l,k) w)(hn:Hs 120 b.lb b.nb b.sb b.mb but k' w')(hc:b_ (only b.nb) w w')(hk:k'<=c*(but.length+1)):PutI b kp cp J KJ Su u uv free but c (l,k') w':=by
 obtain⟨a1,a2,a3,a4,a5,a6,a7,a8Q9,a9,a10,a11,a12,a13⟩:=ha.nb;have e:∀g,g<w.heap.size->g≠b.nb->w'.heap[g]?=w.heap[g]?:=λg hl hg=>hc.block g hl hg;exact
  {new:=hn
   left:=h.left.al (e _ (by obtain⟨_,_,hb,_⟩:=h.left;exact hb.lt) a4.symm) (e _ h.rgl a5.symm)
   rgl:=Ci h.rgl hc.size
   fc:=h.fc.same (e _ h.fc.lt a6.symm)
   fsQ9:=h.fsQ9.al (e _ h.fsQ9.lt a7.symm)
   ncQ9:=h.ncQ9.same (e _ h.ncQ9.lt a8Q9.symm)
   isp:=h.isp.same (e _ h.isp.lt a9.symm)
   ubQ9:=h.ubQ9.same (e _ h.ubQ9.lt a10.symm)
   urQ9:=h.urQ9.al (λ_ h=>h) (λg hg=>e g (h.su g hg) (λhe=>a13 (he▸hg)))
   jj:=hJ w _ h.jj (λg hg=>e g (h.kjQ9 g hg) (λhe=>a12 (he▸hg)))
   kjQ9:=λg hg=>Ci (h.kjQ9 g hg) hc.size
   su:=λg hg=>Ci (h.su g hg) hc.size
   tab:=h.tab.al (e _ h.tab.lt a11.symm)
   len:=hk
   full:=h.full }
end
section
open Go.RowKit Lx Tx Go.Maps Go.WideMaps Go.Shelf
set_option maxRecDepth 100000
theorem tail_of(g o n c:Nat)(hc:n+1<=c):∃A',(0<n->A'=some ⟨g,o+1,none⟩) /\
  ∀w,(Instr.slice 61 (.slice (some ⟨g,o,none⟩) (n+1) c) (some (.int .i64 1)) none none).run prog w=.ok (.slice A' n (c-1)) w:=by
 have hu:=underlying61;obtain⟨i0,bK,cj,bS,bC⟩:=Dx zo8;refine⟨if c=1 then some ⟨g,o,none⟩ else some ⟨g,o+1,none⟩,λh=>Cg (by omega),λw=>?_⟩;simp[Instr.slice,Instr.sliceBounds,run_underlying hu,sizeOf,typeInfo,bK,bS,go_sem];intro h;omega
theorem tc_put1(b:PutB)(kp:Nat)(cp:Array Value)(J:World->Prop)(KJ Su:Nat->Prop)(u:Ty)(uv:Array Value)(free but:List Name)(hJ:∀w w',J w->(∀g,KJ g->w'.heap[g]?=w.heap[g]?)->J w')(ha:b.Apart KJ Su)(ar1:but.length<=10000000):RR 114 #[.pointer (some ⟨b.pwQ9,0,none⟩),.pointer (some ⟨b.pfQ9,0,none⟩),.pointer (some ⟨b.pn,0,none⟩)] (PutI b kp cp J KJ Su u uv free but) b.M (bindP free but):=by
 intro c s X w hi bA hc;obtain⟨wi,k⟩:=s;have hfull:=hi.full;cases wi with
 |nil=>exfalso;simp at hfull;omega
 |cons p l =>
  obtain⟨A,cq,hb,hcq,hp⟩:=hi.left;obtain⟨o,rfl,ay⟩:=hp (by simp);obtain⟨x0,x1,x2⟩:=GG hb;have hlen:=hi.len;obtain⟨n,hn⟩:∃n,l.length=n:=⟨_,rfl⟩;rw[Ca,hn]at x0 hcq;have wB:w.cell? ⟨b.rg,o,none⟩=some (.int .i64 (p:Nat)):=ay 0 (by simp);have hcell':∀(j:Nat) (hj:j<l.length),w.cell? ⟨b.rg,o+1+j,none⟩=some (.int .i64 (l[j]:Nat)):=λj hj=>by
   have:=ay (j+1) (by simp;omega);rw[show o+1+j=o+(j+1) by omega];simpa using this
  have hleft:∀A' ,(0<n->A'=some ⟨b.rg,o+1,none⟩)->LeftAt (w.setCell ⟨b.pwQ9,0,none⟩ (.slice A' n (cq-1))) b.pwQ9 b.rg l:=λA' hA'=>by
   refine⟨A',cq-1,?_,by omega,λh0=>⟨o+1,hA' (by omega),λj hj=>?_⟩⟩
   ·rw[hn];exact one_setCell hb
   ·exact(Ck (w:=w) (a:=⟨b.rg,o+1+j,none⟩) (B8 w ⟨b.pwQ9,0,none⟩ _ b.rg ha.pwQ9.2.2.2.2.1.symm)).trans (hcell' j hj)
  have HLEFT:=EP hleft;have HI:=EP hi;have HL:=EP hlen;have hmul:c*(but.length+1)<=10000000*10000001:=Ek (by omega) (by omega);have HMUL:=EP hmul;clear hb hp ay hcell' hleft hi hlen hn hmul hfull;have ek:∀args w,(callFunc 85 args).run prog w=.ok (.enter 85 args) w:=enters_of func85 (by kernel_rfl) rfl;obtain⟨A',hA',hsl⟩:=tail_of b.rg o n cq hcq;have h1:=PutI.step hJ ha HI.o (HLEFT.o A' hA');obtain⟨W1,rz⟩:∃W1,w.setCell ⟨b.pwQ9,0,none⟩ (.slice A' n (cq-1))=W1:=⟨_,rfl⟩;rw[rz]at h1;have bj:b_ b.M w W1:=by rw[<-rz];exact(b_.refl b.M w).setCell (p:=⟨b.pwQ9,0,none⟩) (.inr (.inr rfl)) _
  obtain⟨y0,y1,y2⟩:=GG h1.fc;obtain⟨z0,z1,z2⟩:=GG h1.ncQ9;have bJ:=h1.fsQ9.He X (by unfold maxLen;omega);rw[QV]at bJ;have ef:Below W1.heap.size W1 (W1.alloc (.cells #[] 153)):=(Cc _ W1).alloc (BU _) _;have h2:PutI b kp cp J KJ Su u uv free but (c+1) (l,k) (W1.alloc (.cells #[] 153)):=(PutI.inv b kp cp J KJ Su u uv free but hJ).al _ _ _ _ h1 ef.size (λg hg=>ef.block g ((PutI.inv b kp cp J KJ Su u uv free but hJ).lt _ _ _ h1 g hg));have H2:=EP h2;have C2:Hid (b_ b.M w (W1.alloc (.cells #[] 153))):=EP (bj.below ef);clear h1 bj hA' HLEFT HI hcq bA h2 ef;unfold G4 at z0;go_in;by_cases Fw:X.data.toList∈free
  ·rw[Ch Fw]at bJ;replace bJ:(Instr.lookup 93 (.map (some b.mf)) (.string X) true).run prog W1=.ok (.tuple #[.agg #[],.bool true]) W1:=bJ;by_cases hp:0<p
   ·have HB:Hid (bindP free but X.data.toList (p::l,k)=(nm 120 (FY 120 but k),(l,FY 120 but k+1))):=EP (by unfold bindP;rw[Ch ⟨Fw,hp⟩];rfl);rw[HB.o];have bY:(0:Int)<(p:Int):=by omega
    have wC:=(MX 120 but k (by have:=HL.o;have:=HMUL.o;omega)).2;obtain⟨a1,a2,a3,a4,a5,a6,a7,a8Q9,a9,a10,a11,a12,a13⟩:=ha.nb;have fV:=zm1 120 b.lb b.nb b.sb b.mb but k (W1.alloc (.cells #[] 153)) H2.o.new H2.o.tab a1 a2 a3 a11 (by have:=HL.o;have:=HMUL.o;omega);have dJ:=EP fV;clear Fw hp fV a1 a2 a3 a4 a5 a6 a7 a8Q9 a9 a10 a11 a12 a13;go_wp2_with fail;refine dJ.o.mono ?_;rintro e w3 ⟨rfl,n3,c3⟩;have H3:=EP (PutI.fresh hJ ha H2.o n3 c3 (by have:=HL.o;rw[Cy];omega));have C3:=EP (C2.o.trans' c3 (λg _ h=>.inl h));clear n3 c3 dJ;go_wp2_with fail;go_ret
    exact⟨rfl,H3.o,C3.o⟩
   ·obtain rfl:p=0:=by omega
    have HB:Hid (bindP free but X.data.toList (0::l,k)=(X.data.toList,(l,k))):=EP (by unfold bindP;rw[Cg (λh=>absurd h.2 (by simp))];rfl);rw[HB.o];clear Fw hp;go_wp2_with fail;go_ret
    exact⟨rfl,H2.o,C2.o⟩
  ·rw[Cg Fw]at bJ;replace bJ:(Instr.lookup 93 (.map (some b.mf)) (.string X) true).run prog W1=.ok (.tuple #[.agg #[],.bool false]) W1:=bJ;have HB:Hid (bindP free but X.data.toList (p::l,k)=(X.data.toList,(l,k))):=EP (by unfold bindP;rw[Cg (λh=>Fw h.1)];rfl);rw[HB.o];clear Fw;go_wp2_with fail;go_ret
   exact⟨rfl,H2.o,C2.o⟩
set_option maxRecDepth 100000
theorem tc_put2(b:PutB)(kp:Nat)(cp:Array Value)(J:World->Prop)(KJ Su:Nat->Prop)(u:Ty)(ukQ9 uzQ9:Int)(ux:ByteArray)(uaQ9:Option Addr)(umQ9 ucQ9:Nat)(free but:List Name)(qd:Ty->Bool)(hJ:∀w w',J w->(∀g,KJ g->w'.heap[g]?=w.heap[g]?)->J w')
  (epQ9:∀args w,(callFunc kp args).run prog w=.ok (.enter kp args) w)(HP:IsPl kp cp J qd):Qj 115 #[.pointer (some ⟨b.bi,0,none⟩),.pointer (some ⟨b.bu,0,none⟩)] (PutI b kp cp J KJ Su u #[.int .i64 ukQ9,.string ux,.int .i64 uzQ9,.slice uaQ9 umQ9 ucQ9] free but) b.M Su (λt=>if qd t=true then u else t):=by
 intro c s t S v w hi hv hS hkd aw;obtain⟨k,X,Z,A,m,cq,rfl,-,-,-,-,-⟩:=hv.parts;have hinv:=PutI.inv b kp cp J KJ Su u #[.int .i64 ukQ9,.string ux,.int .i64 uzQ9,.slice uaQ9 umQ9 ucQ9] free but hJ;obtain⟨l0,l1,ls,lb⟩:=IC w (.cells #[.int .i64 k,.string X,.int .i64 Z,.slice A m cq] 37) (.cells #[.int .i64 0,.string ⟨#[]⟩,.int .i64 0,.slice none 0 0] 37);have h2:=hinv.al _ _ _ _ hi lb.size (λg hg=>lb.block g (hinv.lt _ _ _ hi g hg));have fg:=hv.al (λ_ h=>h) (λg hg=>lb.block g (hS g hg));have cL:=HP t S _ _ h2.jj fg (λg hg=>by have:=hS g hg;omega) hkd aw;obtain⟨x0,x1,x2⟩:=GG hi.isp;have h2b:b.bu<w.heap.size:=hi.ubQ9.lt;have HKL:=EP (hinv.lt _ _ _ hi);have HPL:=EP cL;have H2:=EP h2;have l7:=EP fg;have L0:=EP l0;have L1:=EP l1;have LS:=EP ls;have LB:=EP lb;have HS:=EP hS;obtain⟨q,hq⟩:∃q,qd t=q:=⟨_,rfl⟩;have HQ:=EP hq;simp only[hq]at HPL ⊢;clear hi h2 fg cL hv l0 l1 ls lb hS aw hq;unfold FL at x0;go_in;go_wp2_with fail;refine HPL.o.mono ?_;rintro e w1 ⟨rfl,b1⟩;have aH:=b1.size;rw[LS.o]at aH;have h3:=hinv.al _ _ _ _ H2.o b1.size (λg hg=>b1.block g (hinv.lt _ _ _ H2.o g hg));have r0:=ar.below L0.o b1 (by rw[LS.o];omega);have r1:=ar.below L1.o b1 (by rw[LS.o];omega);obtain⟨p0,p1,p2,p3,p4,p5,p6,p7,p8Q9⟩:=n_ r0;obtain⟨q0,q1,q2,q3,q4,q5,q6Q9,q7,q8Q9⟩:=n_ r1;obtain⟨u0,u1,u2,u3,u4Q9,u5,u6,u7,u8⟩:=n_ h3.ubQ9;have R1:=EP r1;have H3:=EP h3;have B1:=EP (LB.o.trans (b1.mono (by rw[LS.o];omega)));clear h3 r0 r1 b1 HPL;have cU:∀(a0 a1 a2 a3:Value),let W:=(((w1.setCell ⟨w.heap.size+1,0,none⟩ a0).setCell ⟨w.heap.size+1,1,none⟩ a1).setCell ⟨w.heap.size+1,2,none⟩ a2).setCell ⟨w.heap.size+1,3,none⟩ a3
   (∀g,g≠w.heap.size+1->W.heap[g]?=w1.heap[g]?)/\W.heap.size=w1.heap.size/\b_ b.M w W:=λa0 a1 a2 a3=>⟨λg hg=>G3 _ _ _ _ _ _ _ hg,by simp,(b_.c_ B1.o).C_ _ _ _ _ (DZ _)⟩
 cases q with
 |true =>
  go_wp2_with fail;have hb:=Fh (.int .i64 ukQ9) (.string ux) (.int .i64 uzQ9) (.slice uaQ9 umQ9 ucQ9) R1.o;obtain⟨f1,f2,f3⟩:=cU (.int .i64 ukQ9) (.string ux) (.int .i64 uzQ9) (.slice uaQ9 umQ9 ucQ9);refine Ce (CW rfl _ _ (w.heap.size+1) 37 _ (0,0) _ rfl hb underlying37 rfl (by kernel_rfl)) rfl ⟨ukQ9,ux,uzQ9,uaQ9,umQ9,ucQ9,rfl,?_,?_,f3⟩
  ·exact H3.o.urQ9.al (λ_ h=>h) (λg hg=>f1 g (by have:=HKL.o g (by unfold PutB.K;simp[hg]);omega))
  ·exact hinv.al _ _ _ _ H3.o (DD f2.symm) (λg hg=>f1 g (by have:=HKL.o g hg;omega))
 |false =>
  go_wp2_with fail;have hb:=Fh (.int .i64 k) (.string X) (.int .i64 Z) (.slice A m cq) R1.o;obtain⟨f1,f2,f3⟩:=cU (.int .i64 k) (.string X) (.int .i64 Z) (.slice A m cq);refine Ce (CW rfl _ _ (w.heap.size+1) 37 _ (0,0) _ rfl hb underlying37 rfl (by kernel_rfl)) rfl ⟨k,X,Z,A,m,cq,rfl,?_,?_,f3⟩
  ·exact zji l7.o hkd
  ·exact hinv.al _ _ _ _ H3.o (DD f2.symm) (λg hg=>f1 g (by have:=HKL.o g hg;omega))
def isPM(n:Int):Ty->Bool
 |.mt k=>(k:Int)==n
 |_=>false
theorem tc_Fill1(jbQ9:Nat)(n:Int):IsPl 66 #[.pointer (some ⟨jbQ9,0,none⟩)] (λw=>ar w jbQ9 3 #[.int .i64 n]) (isPM n):=by
 intro t S v w hj hv hS hk aw;obtain⟨k,Y,Z,A,m,cq,rfl,fj,-,hZ,-,-⟩:=hv.parts;obtain⟨x0,x1,x2⟩:=GG hj;have ef:=(Cc _ w).alloc (BU _) (.cells #[.int .i64 k,.string Y,.int .i64 Z,.slice A m cq] 37);cases t with
 |var y =>
  obtain rfl:k=1:=fj;show Calls _ _ _ _ λe w'=>e=.returned (.bool false)/\_;clear hj hv hS hk aw hZ;go_in
  go_wp2
  go_ret
  exact⟨rfl,ef⟩
 |mt j =>
  obtain rfl:k=2:=fj;have hq:isPM n (.mt j)=(Z==n):=by rw[hZ];rfl
  rw[hq];obtain⟨q,hqq⟩:∃q,(Z==n)=q:=⟨_,rfl⟩;rw[hqq];clear hj hv hS hk aw hZ hq;cases q;all_goals
   go_in;go_wp2
   go_ret
   exact⟨rfl,ef⟩
 |h_ c l=>simp[kd]at hk
 |fn a b=>simp[kd]at hk
 |all x t=>simp[kd]at hk
set_option maxRecDepth 100000
theorem wi_len(qd:Ty->Bool)(n:Nat):∀(t:Ty)(env:List Name)(s:PlQ9),t.size<=n->(Hp (plCome qd) plLeave env t s).wi.length=s.wi.length+t.E7:=by
 induction n with
 |zero=>intro t env s h;rw[Gv]at h;omega
 |succ n ih =>
  intro t env s h;have hL:∀(l:List Ty) (ng:List Name) (s':PlQ9),(∀u∈l,u.size<=n)->(Fm (plCome qd) plLeave ng l s').wi.length=s'.wi.length+C' l:=by
   intro l;induction l with
   |nil=>intro ng s' _;rw[Fm,C'];rfl
   |cons u r Wz =>
    intro ng s' aA;rw[Fm,C',Wz ng _ (λx hx=>aA x (Cf _ hx)),ih u ng s' (aA u Cs)];omega
  have dH:∀u∈kids t,u.size<=n:=λu hu=>by
   obtain⟨i,hi,rfl⟩:=CN.1 hu;have:=Vu t i hi;omega
  rw[zo2,Sr];have hl:∀q:PlQ9,(plLeave env t q).wi.length=q.wi.length:=λq=>by rw[plLeave];split <;> simp
  rw[hl,hL _ _ _ dH];by_cases h5:kd t=5
  ·rw[plCome_all qd env t s h5,Ch h5];simp;omega
  ·rw[Cg h5];have:(plCome qd env t s).wi=s.wi:=by rw[plCome,Cg h5];split <;> rfl
   rw[this];omega
theorem placesOf_len(qd:Ty->Bool)(t:Ty):(placesOf qd t).wi.length=t.E7:=by
 unfold placesOf;rw[wi_len qd t.size t [] ⟨[],[],0⟩ (BU _)];simp
def putT(qd:Ty->Bool)(t u:Ty):Ty :=
 if(placesOf qd t).alQ9=0 then t else(iF (bindP (Fu u) (Fu u++namesL t)) (λl=>if qd l=true then u else l) [] t ((placesOf qd t).wi,0)).1
theorem own_left {w:World} {B:Nat} {A:Option Addr} {c:Nat} {wi:List Nat}(d:Nat)(hd:d<w.heap.size)(h:w.ownsRow B 3 1 (.slice A wi.length c) wi.length (Jo wi)):∃rg,(rg=d\/B<=rg)/\rg<w.heap.size/\wi.length<=c/\(0<wi.length->A=some ⟨rg,0,none⟩/\∀(j:Nat) (hj:j<wi.length),w.cell? ⟨rg,0+j,none⟩=some (.int .i64 (wi[j]:Nat))):=by
 have hc:=λg hg=>h.cells (g:=g) hg;have af:=h.lt;rcases h.2 with⟨hv,h0⟩|⟨g,cap,cur,hv,hg,hb,h1,_⟩
 ·exact⟨d,.inl rfl,hd,by omega,λh=>by omega⟩
 ·injection hv with di fg wu
  subst di wu;refine⟨g,.inr hg,(af g rfl).2,by omega,λ_=>⟨rfl,λj hj=>?_⟩⟩;have:=hc g rfl j _ (zqI wi j hj);rw[Q_]at this;rw[Dm];exact this
def PPst(KJ S Su:Nat->Prop)(t:Ty)(w:World)(e:Ending)(w':World):Prop :=
 ∃k x z a m q,e=.returned (.agg #[.int .i64 k,.string x,.int .i64 z,.slice a m q])/\nc (λg=>S g\/Su g\/(w.heap.size<=g/\g<w'.heap.size)) w' t (.agg #[.int .i64 k,.string x,.int .i64 z,.slice a m q])/\b_ KJ w w'
theorem tc_put(kp:Nat)(cp:Array Value)(J:World->Prop)(KJ:Nat->Prop)(qd:Ty->Bool)(hJ:∀w w',J w->(∀g,KJ g->w'.heap[g]?=w.heap[g]?)->J w')(epQ9:∀args w,(callFunc kp args).run prog w=.ok (.enter kp args) w)(HP:IsPl kp cp J qd)
  (t u:Ty)(S Su:Nat->Prop)(v uv:Value)(w:World)(hj:J w)(hKJ:∀g,KJ g->g<w.heap.size)(hv:nc S w t v)(hu:nc Su w u uv)(hS:∀g,S g->g<w.heap.size/\¬KJ g)(aO:∀g,Su g->g<w.heap.size/\¬KJ g)(aw:Nm t)(bT:Nm u)(aA:t.size<=1000000)(j6:u.size<=1000000)(ht:FO w)(htK:¬KJ 0):Calls prog 65 #[v,uv,FL kp cp] w (PPst KJ S Su (putT qd t u) w):=by
 obtain⟨K,X,Z,A,m,cq,rfl,-,-,-,-,-⟩:=hv.parts;obtain⟨K',X',Z',A',m',cq',rfl,-,-,-,-,-⟩:=hu.parts;have iZ:∀(fn:Fn) (first cap:Array Value) (w:World),(Instr.makeFunc fn first cap).run prog w=.ok (.func fn first cap) w:=λ_ _ _ _=>rfl;obtain⟨l0,l1,l2,l3,ls,lb⟩:=MS w (.cells #[.int .i64 K,.string X,.int .i64 Z,.slice A m cq] 37) (.cells #[.int .i64 K',.string X',.int .i64 Z',.slice A' m' cq'] 37) (.cells #[FL kp cp] 58) (.cells #[.int .i64 0,.string ⟨#[]⟩,.int .i64 0,.slice none 0 0] 37);obtain⟨W4,jB⟩:∃W,(((w.alloc (.cells #[.int .i64 K,.string X,.int .i64 Z,.slice A m cq] 37)).alloc (.cells #[.int .i64 K',.string X',.int .i64 Z',.slice A' m' cq'] 37)).alloc (.cells #[FL kp cp] 58)).alloc (.cells #[.int .i64 0,.string ⟨#[]⟩,.int .i64 0,.slice none 0 0] 37)=W:=⟨_,rfl⟩;rw[jB]at l0 l1 l2 l3 ls lb
 have my:=hv.al (λ_ h=>h) (λg hg=>lb.block g (hS g hg).1);have hu4:=hu.al (λ_ h=>h) (λg hg=>lb.block g (aO g hg).1);have uC:J W4:=hJ w _ hj (λg hg=>lb.block g (hKJ g hg));have xX:=ht.below lb;have tI:=ht.lt;have HPL:=EP (tc_places kp cp J KJ qd hJ epQ9 HP t S _ W4 uC (λg hg=>by have:=hKJ g hg;omega) my (λg hg=>⟨by have:=(hS g hg).1;omega,(hS g hg).2⟩) aw aA);have e4:∀g,g<w.heap.size->¬KJ g->W4.heap[g]?=w.heap[g]?:=λg hg _=>lb.block g hg;obtain⟨p0,p1,p2,p3,p4,p5,p6,p7,p8Q9⟩:=n_ (show ar W4 w.heap.size 37 _ from l0);obtain⟨q0,q1,q2⟩:=GG (show ar W4 (w.heap.size+1+1) 58 _ from l2);have L0:Hid (ar W4 w.heap.size 37 #[.int .i64 K,.string X,.int .i64 Z,.slice A m cq]):=EP l0;have L1:Hid (ar W4 (w.heap.size+1) 37 #[.int .i64 K',.string X',.int .i64 Z',.slice A' m' cq']):=EP l1;have L2:Hid (ar W4 (w.heap.size+1+1) 58 #[FL kp cp]):=EP l2;have L3:Hid (ar W4 (w.heap.size+1+1+1) 37 #[.int .i64 0,.string ⟨#[]⟩,.int .i64 0,.slice none 0 0]):=EP l3;have LS:=EP ls;have LB:=EP lb;have vr:=EP my;have HU4:=EP hu4;have AV:=EP xX;have HS:=EP hS;have l9:=EP aO;have Us:=EP hKJ;have bQ:=EP aw;have rS:=EP bT;have eF:=EP htK;obtain⟨alQ9,ef⟩:∃alQ9,(placesOf qd t).alQ9=alQ9:=⟨_,rfl⟩;obtain⟨wi,hwi⟩:∃wi,(placesOf qd t).wi=wi:=⟨_,rfl⟩;have hwl:=placesOf_len qd t;rw[hwi]at hwl
 have HPT:Hid (putT qd t u=if alQ9=0 then t else(iF (bindP (Fu u) (Fu u++namesL t)) (λl=>if qd l=true then u else l) [] t (wi,0)).1):=EP (by unfold putT;rw[ef,hwi]);obtain⟨R,hR⟩:∃R,putT qd t u=R:=⟨_,rfl⟩;rw[hR]at HPT ⊢;rw[ef,hwi]at HPL;have HWL:=EP hwl;obtain⟨nw,yK⟩:∃nw,wi.length=nw:=⟨_,rfl⟩;rw[yK]at HPL;have Bf:=EP yK;clear hv hu hS aO hKJ aw bT ht htK hj uC my hu4 xX l0 l1 l2 l3 ls lb e4 ef hwi hwl hR yK;unfold FL at q0 HPL jB ⊢;go_in;go_wp2_with fail;refine HPL.o.mono ?_;rintro e w5 ⟨A5,c5,rfl,aj,halb,hj5,XH⟩;have eI:=XH.size;rw[LS.o]at eI;obtain⟨rg,qQ,ox,yo,hrg4⟩:=own_left (w:=w5) (wi:=wi) (w.heap.size+1+1) (by omega) (by rw[Bf.o];exact aj);have hrgb:w.heap.size<=rg:=by rcases qQ with h|h;omega;rw[LS.o]at h;omega
 rw[Bf.o]at yo;have hrg4':0<nw->A5=some ⟨rg,0,none⟩/\∀(j:Nat) (hj:j<wi.length),w5.cell? ⟨rg,0+j,none⟩=some (.int .i64 (wi[j]:Nat)):=λh=>hrg4 (by rw[Bf.o];exact h);have HRG4:=EP hrg4';obtain⟨w6,cz⟩:∃W,w5.alloc (.cells #[.slice A5 nw c5] 61)=W:=⟨_,rfl⟩;have b6:Below w5.heap.size w5 w6:=by rw[<-cz];exact(Cc _ w5).alloc (BU _) _
 have dS:w6.heap.size=w5.heap.size+1:=by rw[<-cz];exact size_alloc _ _
 have L4:Hid (ar w6 w5.heap.size 61 #[.slice A5 nw c5]):=EP (by rw[<-cz];exact BZ w5 _);have c6:b_ KJ W4 w6:=XH.below b6;have hkjl:∀g,KJ g->g<w.heap.size:=Us.o;have k0:=L0.o.iF c6 (λh=>by have:=hkjl _ h;omega);have k1:=L1.o.iF c6 (λh=>by have:=hkjl _ h;omega);have k3:=L3.o.iF c6 (λh=>by have:=hkjl _ h;omega);obtain⟨a0,a1,a2,a3,a4,a5,a6,a7,a8Q9⟩:=n_ k0;obtain⟨d0,d1,d2,d3,d4,d5,d6,d7,d8⟩:=n_ k1;obtain⟨f0,f1,f2,f3,f4,f5,f6,f7,f8⟩:=n_ k3;have hj6:J w6:=hJ w5 w6 hj5 (λg hg=>b6.block g (by have:=hkjl g hg;omega));have hv6:=vr.o.al (w':=w6) (λ_ h=>h) (λg hg=>c6.block g (by have:=(HS.o g hg).1;rw[LS.o];omega) (HS.o g hg).2);have hu6:=HU4.o.al (w':=w6) (λ_ h=>h) (λg hg=>c6.block g (by have:=(l9.o g hg).1;rw[LS.o];omega) (l9.o g hg).2);have ht6:=AV.o.al (c6.block _ AV.o.lt eF.o);have K0:=EP k0;have K1:=EP k1;have K3:=EP k3;have C6:=EP c6;have HJ6:=EP hj6;have HV6:=EP hv6;have HU6:=EP hu6;have HT6:=EP ht6;have rN:=EP qQ;have B6:=EP b6;have HJ5:=EP hj5;clear qQ hrg4 hrg4' aj hj5 XH b6 c6 k0 k1 k3 hj6 hv6 hu6 ht6 HPL p0 p1 p2 p3 p4 p5 p6 p7 p8Q9 q0 q1 q2;by_cases h0:alQ9=0
 ·have gS:=HPT.o;rw[Ch h0]at gS;have bW:=EP gS;have t0:((alQ9:Int)==0)=true:=by rw[h0];rfl
  clear h0 gS halb;go_wp2_with fail;have hb:=Fh (.int .i64 K) (.string X) (.int .i64 Z) (.slice A m cq) K3.o;have hf:∀g,g≠w.heap.size+1+1+1->((((w6.setCell ⟨w.heap.size+1+1+1,0,none⟩ (.int .i64 K)).setCell ⟨w.heap.size+1+1+1,1,none⟩ (.string X)).setCell ⟨w.heap.size+1+1+1,2,none⟩ (.int .i64 Z)).setCell ⟨w.heap.size+1+1+1,3,none⟩ (.slice A m cq)).heap[g]?=w6.heap[g]?:=λg hg=>G3 _ _ _ _ _ _ _ hg;refine Ce (CW rfl _ _ (w.heap.size+1+1+1) 37 _ (0,0) _ rfl hb underlying37 rfl (by kernel_rfl)) rfl ⟨K,X,Z,A,m,cq,rfl,?_,?_⟩
  ·rw[bW.o];exact HV6.o.al (λg h=>.inl h) (λg hg=>hf g (by have:=(HS.o g hg).1;omega))
  ·exact((b_.c_ LB.o).trans C6.o).C_ _ _ _ _ (by omega)
 ·have gS:=HPT.o;rw[Cg h0]at gS;have bW:=EP gS;have t0:((alQ9:Int)==0)=false:=by rw[Cz];intro e;simp at e;omega
  have Uv:=EP (zqS u Su _ w6 HU6.o (λg hg=>by have:=(l9.o g hg).1;omega) rS.o j6);obtain⟨n1,iY⟩:∃n1,(Fu u).length=n1:=⟨_,rfl⟩;have Yt:=EP iY;rw[iY]at Uv;clear h0 gS iY halb;go_wp2_with fail;refine Uv.o.mono ?_;rintro e w7 ⟨A1,c1,rfl,aj,cR,b7⟩;have jL:=b7.size;have dG:w7.ownsRow w6.heap.size 9 1 (.slice A1 (Fu u).length c1) (Fu u).length (FQ (Fu u)):=by rw[Yt.o];exact aj
  have Tn:=IJ.Jy dG;have aW:Hid (Calls prog 41 #[.slice (some ⟨w7.heap.size,0,none⟩) 1 1] (w7.alloc (.cells #[.slice A1 n1 c1] 95)) λe w'=>e=.returned (.map (some (w7.heap.size+1)))/\iT mkSet w' (w7.heap.size+1) (kj (Fu u))/\Below (w7.heap.size+1) (w7.alloc (.cells #[.slice A1 n1 c1] 95)) w'):=EP (by
   have h:=zrv [Fu u] w7.heap.size 1 (w7.alloc (.cells #[.slice A1 n1 c1] 95)) (λj hj=>by
    have kH:j=0:=by simp at hj;omega
    subst kH;refine⟨A1,c1,?_,?_⟩
    ·have:=ar.cell (BZ w7 (.cells #[.slice A1 n1 c1] 95)) 0;rw[<-Yt.o]at this ⊢;exact this
    ·exact Tn.below ((Cc _ w7).alloc (BU _) _)) (by simp) (by intro x hx;exact Wo u rS.o x (by simpa using hx)) (by simpa using(by rw[Yt.o];omega:(Fu u).length<=10000000)) (by simp)
   simp only[DY,List.flatten_nil,CJ,size_alloc]at h;exact h)
  have RV1:=EP Tn;have B7:=EP b7;clear aj dG Tn b7 Uv;go_wp2_with fail;refine aW.o.mono ?_;rintro e w8 ⟨rfl,W5,b8⟩;have WM:=b8.size;rw[size_alloc]at WM;obtain⟨w9,hw9⟩:∃W,w8.alloc (.cells #[.map (some (w7.heap.size+1))] 93)=W:=⟨_,rfl⟩;have b89:Below w8.heap.size w8 w9:=by rw[<-hw9];exact(Cc _ w8).alloc (BU _) _
  have hs9:w9.heap.size=w8.heap.size+1:=by rw[<-hw9];exact size_alloc _ _
  have b79:Below w7.heap.size w7 w9:=(((Cc _ w7).alloc (BU _) _).trans (b8.mono (DZ _))).trans (b89.mono (by omega));have B9:=EP (B7.o.trans (b79.mono jL));have L9Q9:Hid (ar w9 w8.heap.size 93 #[.map (some (w7.heap.size+1))]):=EP (by rw[<-hw9];exact BZ w8 _);have Uq:=EP (W5.al (b89.block _ W5.lt));have RV9:=EP (RV1.o.below b79);have k0:=K0.o.below B9.o K0.o.lt;obtain⟨g0,g1,g2,g3,g4,g5,g6,g7,g8⟩:=n_ k0;have HNA:=EP (tc_names t S _ w9 (HV6.o.al (λ_ h=>h) (λg hg=>B9.o.block g (by have:=(HS.o g hg).1;omega))) (λg hg=>by have:=(HS.o g hg).1;omega) bQ.o aA);obtain⟨n2,lM⟩:∃n2,(namesL t).length=n2:=⟨_,rfl⟩;have rU:=EP lM;rw[lM]at HNA;clear W5 b8 b89 b79 lM aW;go_wp2_with fail;refine HNA.o.mono ?_;rintro e w10 ⟨A2,c2,rfl,aj,ez,b10⟩;have arC:=b10.size;have dG:w10.ownsRow w9.heap.size 9 1 (.slice A2 (namesL t).length c2) (namesL t).length (FQ (namesL t)):=by rw[rU.o];exact aj
  have hrv2:=IJ.Jy dG;have hrv1:=RV9.o.below b10;have yb:Hid (Calls prog 41 #[.slice (some ⟨w10.heap.size,0,none⟩) 2 2] (w10.alloc (.cells #[.slice A1 n1 c1,.slice A2 n2 c2] 95)) λe w'=>e=.returned (.map (some (w10.heap.size+1)))/\iT mkSet w' (w10.heap.size+1) (kj (Fu u++namesL t))/\Below (w10.heap.size+1) (w10.alloc (.cells #[.slice A1 n1 c1,.slice A2 n2 c2] 95)) w'):=EP (by
   have h:=zrv [Fu u,namesL t] w10.heap.size 2 (w10.alloc (.cells #[.slice A1 n1 c1,.slice A2 n2 c2] 95)) (λj hj=>by
    have kH:j=0\/j=1:=by simp at hj;omega
    rcases kH with rfl|rfl
    ·refine⟨A1,c1,?_,?_⟩
     ·have:=ar.cell (BZ w10 (.cells #[.slice A1 n1 c1,.slice A2 n2 c2] 95)) 0;rw[<-Yt.o]at this ⊢;exact this
     ·exact hrv1.below ((Cc _ w10).alloc (BU _) _)
    ·refine⟨A2,c2,?_,?_⟩
     ·have:=ar.cell (BZ w10 (.cells #[.slice A1 n1 c1,.slice A2 n2 c2] 95)) 1;rw[<-rU.o]at this ⊢;exact this
     ·exact hrv2.below ((Cc _ w10).alloc (BU _) _)) (by simp) (by
      intro x hx;simp only[DY,List.flatten_nil,CJ,Cr]at hx;rcases hx with hx|hx
      ·exact Wo u rS.o x hx
      ·exact short_namesL t bQ.o x hx) (by simp only[DY,List.flatten_nil,CJ,Cb];rw[Yt.o,rU.o];omega) (by simp)
   simp only[DY,List.flatten_nil,CJ,size_alloc]at h;exact h)
  have B10:=EP b10;clear aj dG hrv1 hrv2 b10 HNA;go_wp2_with fail;refine yb.o.mono ?_;rintro e w12 ⟨rfl,hm12,b12⟩;have hs12:=b12.size;rw[size_alloc]at hs12;have b912:Below w9.heap.size w9 w12:=(B10.o.alloc (by omega) _).trans (b12.mono (by omega));have HNW2:=EP (zgb 120 ⟨#[120]⟩ rfl (w10.heap.size+1) (Fu u++namesL t) w12 hm12);have B12:=EP b912;clear hm12 b12 b912 yb;go_wp2_with fail;refine HNW2.o.mono ?_;rintro e w13 ⟨rfl,hn13,b13⟩;have hs13:=b13.size;have WX:=hn13.num.lt;obtain⟨w14,hw14⟩:∃W,w13.alloc (.cells #[G4 w12.heap.size (w12.heap.size+2) (w12.heap.size+1)] 40)=W:=⟨_,rfl⟩;have b14:Below w13.heap.size w13 w14:=by rw[<-hw14];exact(Cc _ w13).alloc (BU _) _
  have hs14:w14.heap.size=w13.heap.size+1:=by rw[<-hw14];exact size_alloc _ _
  have L14:ar w14 w13.heap.size 40 #[G4 w12.heap.size (w12.heap.size+2) (w12.heap.size+1)]:=by rw[<-hw14];exact BZ w13 _
  have b914:Below w9.heap.size w9 w14:=(B12.o.trans (b13.mono (by omega))).trans (b14.mono (by omega));have b614:Below w6.heap.size w6 w14:=B9.o.trans (b914.mono (by omega));have c514:Below w5.heap.size w5 w14:=B6.o.trans (b614.mono (by omega));have c414:b_ KJ W4 w14:=C6.o.below b614;have kk0:=K0.o.below b614 K0.o.lt;have kk3:=K3.o.below b614 K3.o.lt;obtain⟨m0,m1,m2,m3,m4,m5,m6,m7,m8⟩:=n_ kk0;have hkjl:∀g,KJ g->g<w.heap.size:=Us.o;have tW:PutI ⟨w12.heap.size,w12.heap.size+2,w12.heap.size+1,w10.heap.size+1,w5.heap.size,rg,w8.heap.size,w7.heap.size+1,w13.heap.size,w.heap.size+1+1,w.heap.size+1⟩ kp cp J KJ Su u #[.int .i64 K',.string X',.int .i64 Z',.slice A' m' cq'] (Fu u) (Fu u++namesL t) (10000000-t.E7) (wi,0) w14 :=
   {new:=hn13.below b14
    left:=⟨A5,c5,by rw[Bf.o];exact L4.o.below b614 L4.o.lt,by rw[Bf.o];exact yo,λh0=>⟨0,(HRG4.o (by rw[<-Bf.o];exact h0)).1,λj hj=>(Ck (w:=w5) (a:=⟨rg,0+j,none⟩) (c514.block rg ox)).trans ((HRG4.o (by rw[<-Bf.o];exact h0)).2 j hj)⟩⟩
    rgl:=by show rg<_;omega
    fc:=L9Q9.o.below b914 L9Q9.o.lt
    fsQ9:=Uq.o.al (b914.block _ Uq.o.lt)
    ncQ9:=L14
    isp:=L2.o.iF c414 (λh=>by have:=hkjl _ h;omega)
    ubQ9:=K1.o.below b614 K1.o.lt
    urQ9:=HU6.o.al (λ_ h=>h) (λg hg=>b614.block g (by have:=(l9.o g hg).1;omega))
    jj:=hJ w6 _ HJ6.o (λg hg=>b614.block g (by have:=hkjl g hg;omega))
    kjQ9:=λg hg=>by have:=hkjl g hg;omega
    su:=λg hg=>by have:=(l9.o g hg).1;omega
    tab:=HT6.o.below b614
    len:=Cw _
    full:=by have:=HWL.o;have:=Ov t;show 10000000<=wi.length+(10000000-t.E7);omega }
  have hap:PutB.Apart ⟨w12.heap.size,w12.heap.size+2,w12.heap.size+1,w10.heap.size+1,w5.heap.size,rg,w8.heap.size,w7.heap.size+1,w13.heap.size,w.heap.size+1+1,w.heap.size+1⟩ KJ Su :=
   {nb:=by refine⟨?_,?_,?_,?_,?_,?_,?_,?_,?_,?_,?_,λh=>?_,λh=>?_⟩;all_goals (try show _≠_);all_goals first|(have:=hkjl _ h;simp at this;omega)|(have:=(l9.o _ h).1;simp at this;omega)|(simp only;omega)
    pwQ9:=by refine⟨?_,?_,?_,?_,?_,?_,?_,?_,?_,?_,?_,λh=>?_,λh=>?_⟩;all_goals (try show _≠_);all_goals first|(have:=hkjl _ h;simp at this;omega)|(have:=(l9.o _ h).1;simp at this;omega)|(simp only;omega) }
  have aY:∀g,PutB.M ⟨w12.heap.size,w12.heap.size+2,w12.heap.size+1,w10.heap.size+1,w5.heap.size,rg,w8.heap.size,w7.heap.size+1,w13.heap.size,w.heap.size+1+1,w.heap.size+1⟩ g->g=w12.heap.size+2\/g=w5.heap.size:=λg h=>h;have uJ:=zlJ 114 115 #[.pointer (some ⟨w5.heap.size,0,none⟩),.pointer (some ⟨w8.heap.size,0,none⟩),.pointer (some ⟨w13.heap.size,0,none⟩)] #[.pointer (some ⟨w.heap.size+1+1,0,none⟩),.pointer (some ⟨w.heap.size+1,0,none⟩)]
   (PutI ⟨w12.heap.size,w12.heap.size+2,w12.heap.size+1,w10.heap.size+1,w5.heap.size,rg,w8.heap.size,w7.heap.size+1,w13.heap.size,w.heap.size+1+1,w.heap.size+1⟩ kp cp J KJ Su u #[.int .i64 K',.string X',.int .i64 Z',.slice A' m' cq'] (Fu u) (Fu u++namesL t))
   (PutB.K ⟨w12.heap.size,w12.heap.size+2,w12.heap.size+1,w10.heap.size+1,w5.heap.size,rg,w8.heap.size,w7.heap.size+1,w13.heap.size,w.heap.size+1+1,w.heap.size+1⟩ KJ Su)
   (PutB.M ⟨w12.heap.size,w12.heap.size+2,w12.heap.size+1,w10.heap.size+1,w5.heap.size,rg,w8.heap.size,w7.heap.size+1,w13.heap.size,w.heap.size+1+1,w.heap.size+1⟩) Su
   (bindP (Fu u) (Fu u++namesL t)) (λl=>if qd l=true then u else l) (PutI.inv _ kp cp J KJ Su u _ _ _ hJ)
   (λg h=>by rcases aY g h with rfl|rfl <;> simp[PutB.K])
   (λg h=>⟨by simp[PutB.K,h],λh2=>by have:=(l9.o g h).1;rcases aY g h2 with h3|h3 <;> omega⟩)
   (enters_of func114 (by kernel_rfl) rfl) (enters_of func115 (by kernel_rfl) rfl)
   (tc_put1 _ kp cp J KJ Su u _ _ _ hJ hap (by rw[Cb,Yt.o,rU.o];omega)) (tc_put2 _ kp cp J KJ Su u _ _ _ _ _ _ _ _ qd hJ epQ9 HP)
   (10000000-t.E7) (wi,0) t S _ w14 tW (HV6.o.al (λ_ h=>h) (λg hg=>b614.block g (by have:=(HS.o g hg).1;omega)))
   (λg hg=>⟨by have:=(HS.o g hg).1;omega,λh2=>by have:=(HS.o g hg).1;rcases aY g h2 with h3|h3 <;> omega⟩) bQ.o (by omega) (by have:=Ov t;omega)
  unfold FL at uJ;have HCHG:=EP uJ;have B514:=EP c514;have C414:=EP c414;have KK3:=EP kk3;have HMK:=EP aY;clear tW hap uJ aY kk0 kk3 c414 c514 b614 b914 b14 L14 b13 hn13 HNW2;unfold G4 at hw14 ⊢;go_wp2_with fail;refine HCHG.o.mono ?_;rintro e w15 ⟨k',x',z',a',m',q',rfl,hr,-,cc15⟩;rw[<-bW.o]at hr;have hs15:=cc15.size;have kk3:=ar.iF KK3.o cc15 (λh=>by rcases HMK.o _ h with h|h <;> omega);obtain⟨i0,i1,i2,i3,i4,i5,i6,i7,i8⟩:=n_ kk3;have HR:=EP hr;have C15:=EP cc15;have K15:=EP kk3;clear hr cc15 kk3 HCHG;go_wp2_with fail;have hb:=Fh (.int .i64 k') (.string x') (.int .i64 z') (.slice a' m' q') K15.o;have hf:∀g,g≠w.heap.size+1+1+1->((((w15.setCell ⟨w.heap.size+1+1+1,0,none⟩ (.int .i64 k')).setCell ⟨w.heap.size+1+1+1,1,none⟩ (.string x')).setCell ⟨w.heap.size+1+1+1,2,none⟩ (.int .i64 z')).setCell ⟨w.heap.size+1+1+1,3,none⟩ (.slice a' m' q')).heap[g]?=w15.heap[g]?:=λg hg=>G3 _ _ _ _ _ _ _ hg;have hfs:((((w15.setCell ⟨w.heap.size+1+1+1,0,none⟩ (.int .i64 k')).setCell ⟨w.heap.size+1+1+1,1,none⟩ (.string x')).setCell ⟨w.heap.size+1+1+1,2,none⟩ (.int .i64 z')).setCell ⟨w.heap.size+1+1+1,3,none⟩ (.slice a' m' q')).heap.size=w15.heap.size:=by simp
  refine Ce (CW rfl _ _ (w.heap.size+1+1+1) 37 _ (0,0) _ rfl hb underlying37 rfl (by kernel_rfl)) rfl ⟨k',x',z',a',m',q',rfl,?_,?_⟩
  ·exact HR.o.al (λg h=>by rcases h with h|h;exact .inr (.inl h);exact .inr (.inr ⟨by omega,by rw[hfs];exact h.2⟩)) (λg hg=>hf g (by rcases hg with h|h;(have:=(l9.o g h).1;omega);omega))
  ·exact((((b_.c_ LB.o).trans C414.o).trans' C15.o (λg hg h=>by rcases HMK.o _ h with h|h <;> omega))).C_ _ _ _ _ (by omega)
end
section
open Go.RowKit Lx Tx Go.Maps Go.WideMaps Go.Shelf
def QPst(S Su:Nat->Prop)(t:Ty)(w:World)(e:Ending)(w':World):Prop :=
 ∃k x z a m q,e=.returned (.agg #[.int .i64 k,.string x,.int .i64 z,.slice a m q])/\nc (λg=>S g\/Su g\/(w.heap.size<=g/\g<w'.heap.size)) w' t (.agg #[.int .i64 k,.string x,.int .i64 z,.slice a m q])/\Below w.heap.size w w'
theorem tc_Fill(t u:Ty)(n:Int)(S Su:Nat->Prop)(v uv:Value)(w:World)(hv:nc S w t v)(hu:nc Su w u uv)(hS:∀g,S g->g<w.heap.size)(aO:∀g,Su g->g<w.heap.size)(aw:Nm t)(bT:Nm u)(aA:t.size<=1000000)(j6:u.size<=1000000)(ht:FO w):Calls prog 27 #[v,.int .i64 n,uv] w (QPst S Su (putT (isPM n) t u) w):=by
 obtain⟨K,X,Z,A,m,cq,rfl,-,-,-,-,-⟩:=hv.parts;obtain⟨K',X',Z',A',m',cq',rfl,-,-,-,-,-⟩:=hu.parts;have iZ:∀(fn:Fn) (first cap:Array Value) (w:World),(Instr.makeFunc fn first cap).run prog w=.ok (.func fn first cap) w:=λ_ _ _ _=>rfl;obtain⟨l0,l1,l2,l3,ls,lb⟩:=MS w (.cells #[.int .i64 K,.string X,.int .i64 Z,.slice A m cq] 37) (.cells #[.int .i64 n] 3) (.cells #[.int .i64 K',.string X',.int .i64 Z',.slice A' m' cq'] 37) (.cells #[.int .i64 0,.string ⟨#[]⟩,.int .i64 0,.slice none 0 0] 37);obtain⟨W4,jB⟩:∃W,(((w.alloc (.cells #[.int .i64 K,.string X,.int .i64 Z,.slice A m cq] 37)).alloc (.cells #[.int .i64 n] 3)).alloc (.cells #[.int .i64 K',.string X',.int .i64 Z',.slice A' m' cq'] 37)).alloc (.cells #[.int .i64 0,.string ⟨#[]⟩,.int .i64 0,.slice none 0 0] 37)=W:=⟨_,rfl⟩;rw[jB]at l0 l1 l2 l3 ls lb
 have tI:=ht.lt;have lj:=EP (tc_put 66 #[.pointer (some ⟨w.heap.size+1,0,none⟩)] (λw'=>ar w' (w.heap.size+1) 3 #[.int .i64 n]) (only (w.heap.size+1)) (isPM n) (λa b h hk=>ar.same h (hk _ rfl)) (enters_of func66 (by kernel_rfl) rfl) (tc_Fill1 (w.heap.size+1) n)
  t u S Su _ _ W4 l1 (λg hg=>by have hg:g=w.heap.size+1:=hg;omega) (hv.al (λ_ h=>h) (λg hg=>lb.block g (hS g hg))) (hu.al (λ_ h=>h) (λg hg=>lb.block g (aO g hg)))
  (λg hg=>⟨by have:=hS g hg;omega,λh=>by have:=hS g hg;have h:g=w.heap.size+1:=h;omega⟩) (λg hg=>⟨by have:=aO g hg;omega,λh=>by have:=aO g hg;have h:g=w.heap.size+1:=h;omega⟩) aw bT aA j6 (ht.below lb) (λh=>by have h:0=w.heap.size+1:=h;omega))
 obtain⟨p0,p1,p2,p3,p4,p5,p6,p7,p8Q9⟩:=n_ (show ar W4 w.heap.size 37 _ from l0);obtain⟨q0,q1,q2,q3,q4,q5,q6Q9,q7,q8Q9⟩:=n_ (show ar W4 (w.heap.size+1+1) 37 _ from l2);have L3:Hid (ar W4 (w.heap.size+1+1+1) 37 #[.int .i64 0,.string ⟨#[]⟩,.int .i64 0,.slice none 0 0]):=EP l3;have LS:=EP ls;have LB:=EP lb;have HS:=EP hS;have l9:=EP aO;obtain⟨R,hR⟩:∃R,putT (isPM n) t u=R:=⟨_,rfl⟩;rw[hR]at lj ⊢;unfold FL at lj;clear hv hu hS aO aw bT ht l0 l1 l2 l3 ls lb hR;go_in;go_wp2_with fail;refine lj.o.mono ?_;rintro e w5 ⟨k',x',z',a',m',q',rfl,hr,c5⟩;have eI:=c5.size;rw[LS.o]at eI;have kk3:=ar.iF L3.o c5 (λh=>by have h:w.heap.size+1+1+1=w.heap.size+1:=h;omega);obtain⟨i0,i1,i2,i3,i4,i5,i6,i7,i8⟩:=n_ kk3;have HR:=EP hr;have C5:=EP c5;have K5:=EP kk3;clear hr c5 kk3 lj;go_wp2_with fail;have hb:=Fh (.int .i64 k') (.string x') (.int .i64 z') (.slice a' m' q') K5.o;have hf:∀g,g≠w.heap.size+1+1+1->((((w5.setCell ⟨w.heap.size+1+1+1,0,none⟩ (.int .i64 k')).setCell ⟨w.heap.size+1+1+1,1,none⟩ (.string x')).setCell ⟨w.heap.size+1+1+1,2,none⟩ (.int .i64 z')).setCell ⟨w.heap.size+1+1+1,3,none⟩ (.slice a' m' q')).heap[g]?=w5.heap[g]?:=λg hg=>G3 _ _ _ _ _ _ _ hg;have hfs:((((w5.setCell ⟨w.heap.size+1+1+1,0,none⟩ (.int .i64 k')).setCell ⟨w.heap.size+1+1+1,1,none⟩ (.string x')).setCell ⟨w.heap.size+1+1+1,2,none⟩ (.int .i64 z')).setCell ⟨w.heap.size+1+1+1,3,none⟩ (.slice a' m' q')).heap.size=w5.heap.size:=by simp
 refine Ce (CW rfl _ _ (w.heap.size+1+1+1) 37 _ (0,0) _ rfl hb underlying37 rfl (by kernel_rfl)) rfl ⟨k',x',z',a',m',q',rfl,?_,?_⟩
 ·refine HR.o.al (λg h=>?_) (λg h=>hf g ?_)
  ·rcases h with h|h|h
   ·exact .inl h
   ·exact .inr (.inl h)
   ·exact .inr (.inr ⟨by have:=LS.o;omega,by rw[hfs];exact h.2⟩)
  ·rcases h with h|h|h
   ·have:=HS.o g h;omega
   ·have:=l9.o g h;omega
   ·have:=LS.o;omega
 ·refine GH ?_ _ _ _ _ (by omega);exact LB.o.trans (C5.o.toBelow (by have:=LS.o;omega) (λk hk h=>by have h:k=w.heap.size+1:=h;omega))
end
section
open Go.RowKit Lx Tx
mutual
def pls(qd:Ty->Bool)(env:List Name):Ty->List Nat
 |.var _=>[]
 |.mt _=>[]
 |.h_ _ l=>plsL qd env l
 |.fn a b=>pls qd env a++pls qd env b
 |.all x t=>Mh qd (x::env) t::pls qd (x::env) t
def plsL(qd:Ty->Bool)(env:List Name):List Ty->List Nat
 |[]=>[]
 |t::r=>pls qd env t++plsL qd env r
end
mutual
theorem thr_pls(qd:Ty->Bool):(t:Ty)->∀(env:List Name)(s:PlQ9),Hp (plCome qd) plLeave env t s=⟨s.arQ9,s.wi++pls qd env t,s.alQ9+Mh qd env t⟩
 |.var x,env,s=>by
  rw[Hp,Mh,pls,CJ];show plCome qd env (.var x) s=_;unfold plCome;rw[Cg (show ¬kd (Ty.var x)=5 from λh=>by simp[kd]at h)];have hl:(K7 env (.var x)=true/\qd (.var x)=true)↔(x∉env/\qd (.var x)=true):=by
   show(decide (x∉env)=true/\_)↔_;rw[EM]
  by_cases h:x∉env/\qd (.var x)=true
  ·rw[Ch (hl.2 h),Ch h]
  ·rw[Cg (λe=>h (hl.1 e)),Cg h];rfl
 |.mt n,env,s=>by
  rw[Hp,Mh,pls,CJ];show plCome qd env (.mt n) s=_;unfold plCome;rw[Cg (show ¬kd (Ty.mt n)=5 from λh=>by simp[kd]at h)];by_cases h:qd (.mt n)=true
  ·rw[Ch ⟨rfl,h⟩,Ch h]
  ·rw[Cg (λe=>h e.2),Cg h];rfl
 |.h_ c l,env,s=>by
  rw[Hp,Mh,pls];show Fm (plCome qd) plLeave env l (plCome qd env (.h_ c l) s)=_;rw[show plCome qd env (.h_ c l) s=s from(Cg (λh=>by simp[kd]at h)).trans (Cg (λe=>by cases e.1))];exact thrL_pls qd l env s
 |.fn a b,env,s=>by
  rw[Hp,Mh,pls];show Hp (plCome qd) plLeave env b (Hp (plCome qd) plLeave env a (plCome qd env (.fn a b) s))=_;rw[show plCome qd env (.fn a b) s=s from(Cg (λh=>by simp[kd]at h)).trans (Cg (λe=>by cases e.1)),thr_pls qd a,thr_pls qd b];simp only[DC,DN]
 |.all x t,env,s=>by
  rw[Hp,Mh,pls,plCome_all qd env (.all x t) s rfl,thr_pls qd t];show plLeave env (.all x t) _=_;unfold plLeave;rw[Ch (show kd (Ty.all x t)=5 from rfl)];have h1:(s.arQ9++[s.wi.length]).getD ((s.arQ9++[s.wi.length]).length-1) 0=s.wi.length:=by simp
  simp only[h1];congr 1
  ·simp
  ·rw[DC,Du,Db (BU _)];rw[List.set_append_right _ _ (BU _)];simp
theorem thrL_pls(qd:Ty->Bool):(l:List Ty)->∀(env:List Name)(s:PlQ9),Fm (plCome qd) plLeave env l s=⟨s.arQ9,s.wi++plsL qd env l,s.alQ9+Rr qd env l⟩
 |[],env,s=>by rw[Fm,Rr,plsL,CJ];rfl
 |t::r,env,s=>by
  rw[Fm,Rr,plsL,thr_pls qd t,thrL_pls qd r];simp only[DC,DN]
end
theorem placesOf_eq(qd:Ty->Bool)(t:Ty):placesOf qd t=⟨[],pls qd [] t,Mh qd [] t⟩:=by
 unfold placesOf;rw[thr_pls];simp
section
variable (qd:Ty->Bool) (u:Ty) (but free:List Name)
def FuQ9(qd:Ty->Bool)(u:Ty)(x:Name):Dt:=if qd (.var x)=true then db [] u else .fv x
def GuQ9(qd:Ty->Bool)(u:Ty)(n:Nat):Dt:=if qd (.mt n)=true then db [] u else .mt n
mutual
theorem rep_none:(t:Ty)->∀env,Mh qd env t=0->Bx (FuQ9 qd u) (GuQ9 qd u) (db env t)=db env t
 |.var x,env,h=>by
  rw[db];cases hi:idx x env with
  |some i=>rw[Bx]
  |none =>
   rw[Mh]at h;have hx:x∉env:=(Sp x env).1 hi;rw[Bx,FuQ9,Cg];intro hp;rw[Ch ⟨hx,hp⟩]at h;exact absurd h (by decide)
 |.mt n,env,h=>by
  rw[Mh]at h;rw[db,Bx,GuQ9,Cg];intro hp;rw[Ch hp]at h;exact absurd h (by decide)
 |.h_ c l,env,h=>by rw[Mh]at h;rw[db,Bx,rep_noneL l env h]
 |.fn a b,env,h=>by
  rw[Mh]at h;rw[db,Bx,rep_none a env (by omega),rep_none b env (by omega)]
 |.all x t,env,h=>by rw[Mh]at h;rw[db,Bx,rep_none t (x::env) h]
theorem rep_noneL:(l:List Ty)->∀env,Rr qd env l=0->JF (FuQ9 qd u) (GuQ9 qd u) (Fz env l)=Fz env l
 |[],env,h=>by rw[Fz,JF]
 |t::r,env,h=>by
  rw[Rr]at h;rw[Fz,JF,rep_none t env (by omega),rep_noneL r env (by omega)]
end
def Goal(ys:List Name)(d:Dt)(k f:Nat)(rest:List Nat)(r:Ty ×(List Nat × Nat)):Prop :=
 db ys r.1=Bx (FuQ9 qd u) (GuQ9 qd u) d/\r.2.1=rest/\k<=r.2.2/\r.2.2<=k+f*(but.length+1)
def GoalL(ys:List Name)(d:List Dt)(k f:Nat)(rest:List Nat)(r:List Ty ×(List Nat × Nat)):Prop :=
 Fz ys r.1=JF (FuQ9 qd u) (GuQ9 qd u) d/\r.2.1=rest/\k<=r.2.2/\r.2.2<=k+f*(but.length+1)
end
mutual
theorem chg_put(qd:Ty->Bool)(u:Ty)(but free:List Name)(hf:∀x,k_ x (db [] u)->x∈free)(ik:∀x∈free,x∈but):(t:Ty)->∀(env:List (Name × Name))(xs ys:List Name)(k:Nat)(rest:List Nat),
  Ren but env xs ys k->Kn but t->(0<Mh qd xs t->∀y∈ys,y∉free)->k+(t.E7+1)*(but.length+1)<10 ^ 15 ->
  Goal qd u but ys (db xs t) k t.E7 rest (iF (bindP free but) (λl=>if qd l=true then u else l) env t (pls qd xs t++rest,k))
 |.var x,env,xs,ys,k,rest,hr,hn,hp,_=>by
  rw[Kn]at hn;rw[iF,pls,hr.lk,Ty.E7,db];refine⟨?_,rfl,BU _,D4 _ _⟩;cases hi:idx x xs with
  |some i =>
   show db ys (.var (ys.getD i []))=_;rw[db,(hr.hit x hn i hi).2,Bx]
  |none =>
   show db ys (if qd (.var x)=true then u else .var x)=_;rw[Bx,FuQ9];by_cases hq:qd (.var x)=true
   ·rw[Ch hq,Ch hq];refine zjt ys u (λz hz hm=>hp ?_ z hm (hf z hz));rw[Mh,Ch ⟨(Sp x xs).1 hi,hq⟩];exact Nat.one_pos
   ·rw[Cg hq,Cg hq,db,(Sp x ys).2 (hr.miss x hn hi)]
 |.mt n,env,xs,ys,k,rest,hr,hn,hp,_=>by
  rw[iF,pls,Ty.E7,db];refine⟨?_,rfl,BU _,D4 _ _⟩;rw[Bx,GuQ9];show db ys (if qd (.mt n)=true then u else .mt n)=_;by_cases hq:qd (.mt n)=true
  ·rw[Ch hq,Ch hq];refine zjt ys u (λz hz hm=>hp ?_ z hm (hf z hz));rw[Mh,Ch hq];exact Nat.one_pos
  ·rw[Cg hq,Cg hq,db]
 |.h_ c l,env,xs,ys,k,rest,hr,hn,hp,hb=>by
  rw[Kn]at hn;rw[Mh]at hp;rw[Ty.E7]at hb ⊢;obtain⟨h1,h2,h3,h4⟩:=chg_putL qd u but free hf ik l env xs ys k rest hr hn hp hb;rw[iF,pls,db];exact⟨by show db ys (.h_ c _)=_;rw[db,Bx,h1],h2,h3,h4⟩
 |.fn a b,env,xs,ys,k,rest,hr,hn,hp,hb=>by
  rw[Kn]at hn;rw[Mh]at hp;rw[Ty.E7]at hb ⊢;have e:(a.E7+b.E7+1)*(but.length+1)=a.E7*(but.length+1)+(b.E7+1)*(but.length+1):=by rw[<-Cy,DN]
  have e3:(b.E7+1)*(but.length+1)=b.E7*(but.length+1)+(but.length+1):=by rw[Cy,Da]
  have e4:(a.E7+1)*(but.length+1)=a.E7*(but.length+1)+(but.length+1):=by rw[Cy,Da]
  obtain⟨h1,h2,h3,h4⟩:=chg_put qd u but free hf ik a env xs ys k (pls qd xs b++rest) hr hn.1 (λh=>hp (by omega)) (by omega);have hs:(iF (bindP free but) (λl=>if qd l=true then u else l) env a (pls qd xs a++(pls qd xs b++rest),k)).2=(pls qd xs b++rest,(iF (bindP free but) (λl=>if qd l=true then u else l) env a (pls qd xs a++(pls qd xs b++rest),k)).2.2):=Prod.ext h2 rfl;obtain⟨j1,j2,j3,j4⟩:=chg_put qd u but free hf ik b env xs ys _ rest (hr.more but h3) hn.2 (λh=>hp (by omega)) (by omega);rw[iF,pls,db,DC,hs];refine⟨by show db ys (.fn _ _)=_;rw[db,Bx,h1,j1],j2,Cm h3 j3,Cm j4 ?_⟩;rw[Cy];omega
 |.all x t,env,xs,ys,k,rest,hr,hn,hp,hb=>by
  rw[Kn]at hn;rw[Mh]at hp;rw[Ty.E7]at hb ⊢;have e4:(t.E7+1+1)*(but.length+1)=t.E7*(but.length+1)+(but.length+1)+(but.length+1):=by rw[Cy,Cy,Da]
  have e5:(t.E7+1)*(but.length+1)=t.E7*(but.length+1)+(but.length+1):=by rw[Cy,Da]
  rw[iF,pls,db];by_cases hc:x∈free/\0<Mh qd (x::xs) t
  ·have gQ:bindP free but x ((Mh qd (x::xs) t::pls qd (x::xs) t)++rest,k)=(nm 120 (FY 120 but k),(pls qd (x::xs) t++rest,FY 120 but k+1)):=by
    unfold bindP;rw[Ch ⟨hc.1,hc.2⟩];rfl
   rw[gQ];obtain⟨n0,n1,n2⟩:=MX 120 but k (by omega);obtain⟨h1,h2,h3,h4⟩:=chg_put qd u but free hf ik t _ (x::xs) (nm 120 (FY 120 but k)::ys) (FY 120 but k+1) rest (hr.fresh but x (by omega)) hn.2 (λh y hy=>by
    rcases Cd.1 hy with rfl|hy
    ·exact λhm=>n0 (ik _ hm)
    ·exact hp h y hy) (by omega)
   exact⟨by show db ys (.all _ _)=_;rw[db,Bx,h1],h2,Cm (by omega) h3,Cm h4 (by omega)⟩
  ·have gQ:bindP free but x ((Mh qd (x::xs) t::pls qd (x::xs) t)++rest,k)=(x,(pls qd (x::xs) t++rest,k)):=by
    unfold bindP;rw[Cg (λh=>hc ⟨h.1,h.2⟩)];rfl
   rw[gQ];obtain⟨h1,h2,h3,h4⟩:=chg_put qd u but free hf ik t _ (x::xs) (x::ys) k rest (hr.al but x hn.1) hn.2 (λh y hy=>by
    rcases Cd.1 hy with rfl|hy
    ·exact λhm=>hc ⟨hm,h⟩
    ·exact hp h y hy) (by omega)
   exact⟨by show db ys (.all _ _)=_;rw[db,Bx,h1],h2,Cm (by omega) h3,Cm h4 (by omega)⟩
theorem chg_putL(qd:Ty->Bool)(u:Ty)(but free:List Name)(hf:∀x,k_ x (db [] u)->x∈free)(ik:∀x∈free,x∈but):(l:List Ty)->∀(env:List (Name × Name))(xs ys:List Name)(k:Nat)(rest:List Nat),
  Ren but env xs ys k->K_ but l->(0<Rr qd xs l->∀y∈ys,y∉free)->k+(C' l+1)*(but.length+1)<10 ^ 15 ->
  GoalL qd u but ys (Fz xs l) k (C' l) rest (D_ (bindP free but) (λl=>if qd l=true then u else l) env l (plsL qd xs l++rest,k))
 |[],env,xs,ys,k,rest,_,_,_,_=>by
  rw[D_,plsL,Fz,C'];exact⟨by show Fz ys []=_;rw[Fz,JF],rfl,BU _,D4 _ _⟩
 |a::b,env,xs,ys,k,rest,hr,hn,hp,hb=>by
  rw[K_]at hn;rw[Rr]at hp;rw[C']at hb ⊢;have e:(a.E7+C' b+1)*(but.length+1)=a.E7*(but.length+1)+(C' b+1)*(but.length+1):=by rw[<-Cy,DN]
  have e3:(C' b+1)*(but.length+1)=C' b*(but.length+1)+(but.length+1):=by rw[Cy,Da]
  have e4:(a.E7+1)*(but.length+1)=a.E7*(but.length+1)+(but.length+1):=by rw[Cy,Da]
  obtain⟨h1,h2,h3,h4⟩:=chg_put qd u but free hf ik a env xs ys k (plsL qd xs b++rest) hr hn.1 (λh=>hp (by omega)) (by omega);have hs:(iF (bindP free but) (λl=>if qd l=true then u else l) env a (pls qd xs a++(plsL qd xs b++rest),k)).2=(plsL qd xs b++rest,(iF (bindP free but) (λl=>if qd l=true then u else l) env a (pls qd xs a++(plsL qd xs b++rest),k)).2.2):=Prod.ext h2 rfl;obtain⟨j1,j2,j3,j4⟩:=chg_putL qd u but free hf ik b env xs ys _ rest (hr.more but h3) hn.2 (λh=>hp (by omega)) (by omega);rw[D_,plsL,Fz,DC,hs];refine⟨by show Fz ys (_::_)=_;rw[Fz,JF,h1,j1],j2,Cm h3 j3,Cm j4 ?_⟩;rw[Cy];omega
end
mutual
theorem Kn.mono {b c:List Name}(h:∀x∈b,x∈c):(t:Ty)->Kn b t->Kn c t
 |.var x,hn=>by rw[Kn]at hn ⊢;exact h x hn
 |.mt n,_=>by rw[Kn];trivial
 |.h_ d l,hn=>by rw[Kn]at hn ⊢;exact K_.mono h l hn
 |.fn a b,hn=>by rw[Kn]at hn ⊢;exact⟨Kn.mono h a hn.1,Kn.mono h b hn.2⟩
 |.all x t,hn=>by rw[Kn]at hn ⊢;exact⟨h x hn.1,Kn.mono h t hn.2⟩
theorem K_.mono {b c:List Name}(h:∀x∈b,x∈c):(l:List Ty)->K_ b l->K_ c l
 |[],_=>by rw[K_];trivial
 |t::r,hn=>by rw[K_]at hn ⊢;exact⟨Kn.mono h t hn.1,K_.mono h r hn.2⟩
end
def thrN(env:List Name)(t:Ty)(s:List Name):List Name:=Hp atName (λ_ _ s=>s) env t s
def thrNL(env:List Name)(l:List Ty)(s:List Name):List Name:=Fm atName (λ_ _ s=>s) env l s
mutual
theorem names_in:(t:Ty)->∀env s,(∀x∈s,x∈thrN env t s)/\Kn (thrN env t s) t/\(thrN env t s).length<=s.length+t.size
 |.var x,env,s=>by
  show(∀y∈s,y∈FJ x s)/\Kn (FJ x s) (.var x)/\(FJ x s).length<=_;refine⟨λy hy=>(zjh x y s).2 (.inr hy),?_,?_⟩
  ·rw[Kn];exact(zjh x x s).2 (.inl rfl)
  ·have:=zpj x s;rw[Gv];omega
 |.mt n,env,s=>by
  show(∀y∈s,y∈s)/\Kn s (.mt n)/\s.length<=_;exact⟨λ_ h=>h,by rw[Kn];trivial,D4 _ _⟩
 |.h_ c l,env,s=>by
  have e:thrN env (.h_ c l) s=thrNL env l s:=by unfold thrN thrNL;rw[Hp];rfl
  obtain⟨h1,h2,h3⟩:=names_inL l env s;rw[e,Kn,Gv];exact⟨h1,h2,by show _<=s.length+(q_ l+1);omega⟩
 |.fn a b,env,s=>by
  have e:thrN env (.fn a b) s=thrN env b (thrN env a s):=by unfold thrN;rw[Hp];rfl
  obtain⟨h1,h2,h3⟩:=names_in a env s;obtain⟨j1,j2,j3⟩:=names_in b env (thrN env a s);rw[e,Kn,Gv];exact⟨λx hx=>j1 x (h1 x hx),⟨Kn.mono j1 a h2,j2⟩,by simp[kids,q_];omega⟩
 |.all x t,env,s=>by
  have e:thrN env (.all x t) s=thrN (x::env) t (FJ x s):=by unfold thrN;rw[Hp];rfl
  obtain⟨h1,h2,h3⟩:=names_in t (x::env) (FJ x s);rw[e,Kn,Gv];have:=zpj x s;exact⟨λy hy=>h1 y ((zjh x y s).2 (.inr hy)),⟨h1 x ((zjh x x s).2 (.inl rfl)),h2⟩,by simp[kids,q_];omega⟩
theorem names_inL:(l:List Ty)->∀env s,(∀x∈s,x∈thrNL env l s)/\K_ (thrNL env l s) l/\(thrNL env l s).length<=s.length+q_ l
 |[],env,s=>by
  have e:thrNL env [] s=s:=by unfold thrNL;rw[Fm]
  rw[e,K_];exact⟨λ_ h=>h,trivial,D4 _ _⟩
 |t::r,env,s=>by
  have e:thrNL env (t::r) s=thrNL env r (thrN env t s):=by unfold thrNL thrN;rw[Fm]
  obtain⟨h1,h2,h3⟩:=names_in t env s;obtain⟨j1,j2,j3⟩:=names_inL r env (thrN env t s);rw[e,K_,q_];exact⟨λx hx=>j1 x (h1 x hx),⟨Kn.mono j1 t h2,j2⟩,by omega⟩
end
theorem nin_namesL(t:Ty):Kn (namesL t) t/\(namesL t).length<=t.size:=by
 obtain⟨_,h2,h3⟩:=names_in t [] [];exact⟨h2,by simpa[namesL,thrN] using h3⟩
theorem put_bound {t u:Ty}(ht:t.size<=1000000)(hu:u.size<=1000000):0+(t.E7+1)*((Fu u++namesL t).length+1)<10 ^ 15:=by
 have h1:=(nin_namesL t).2;have h2:=SO u;have h3:=Ov t;rw[Cb];have:=Ek (show t.E7+1<=1000001 by omega) (show(Fu u).length+(namesL t).length+1<=2000001 by omega);omega
theorem db_putT(qd:Ty->Bool)(t u:Ty)(ht:t.size<=1000000)(hu:u.size<=1000000):db [] (putT qd t u)=Bx (FuQ9 qd u) (GuQ9 qd u) (db [] t):=by
 unfold putT;rw[placesOf_eq];by_cases h:Mh qd [] t=0
 ·rw[Ch h,rep_none qd u t [] h]
 ·rw[Cg h];have hm:=chg_put qd u (Fu u++namesL t) (Fu u) (λx hx=>(zia u x).2 hx) (λx hx=>CZ _ hx) t [] [] [] 0 [] (Ren.nil _) (Kn.mono (λx hx=>CP _ hx) t (nin_namesL t).1) (λ_ y hy=>(CI hy).elim) (put_bound ht hu);rw[CJ]at hm;exact hm.1
theorem bindP_ways(free but:List Name)(x:Name)(s:List Nat × Nat):(bindP free but x s).1=x/\(bindP free but x s).2.2=s.2\/(bindP free but x s).1=nm 120 (FY 120 but s.2)/\(bindP free but x s).2.2=FY 120 but s.2+1:=by
 unfold bindP;split
 ·exact .inr ⟨rfl,rfl⟩
 ·exact .inl ⟨rfl,rfl⟩
mutual
theorem chg_nm(free but:List Name)(leaf:Ty->Ty)(hl:∀t,kd t=1\/kd t=2->Nm t->Nm (leaf t)):(t:Ty)->∀(env:List (Name × Name))(s:List Nat × Nat),(∀p∈env,Gd 1 p.2)->Nm t->s.2+(t.E7+1)*(but.length+1)<10 ^ 15 ->
  Nm (iF (bindP free but) leaf env t s).1/\(iF (bindP free but) leaf env t s).2.2<=s.2+t.E7*(but.length+1)
 |.var x,env,s,he,hn,hb=>by
  rw[iF];refine⟨?_,D4 _ _⟩;cases h:look x env with
  |none=>exact hl _ (.inl rfl) hn
  |some y =>
   obtain⟨p,hp,rfl⟩:=zjk x y env h;exact .var _ (he p hp)
 |.mt n,env,s,he,hn,hb=>by rw[iF];exact⟨hl _ (.inr rfl) hn,D4 _ _⟩
 |.h_ c l,env,s,he,hn,hb=>by
  rw[iF];rw[Ty.E7]at hb ⊢;cases hn with
  |h_ _ _ hc hk =>
   obtain⟨h1,h2⟩:=chg_nmL free but leaf hl l env s he hk hb;exact⟨.h_ c _ hc h1,h2⟩
 |.fn a b,env,s,he,hn,hb=>by
  rw[iF];rw[Ty.E7]at hb ⊢;have e:(a.E7+b.E7+1)*(but.length+1)=a.E7*(but.length+1)+(b.E7+1)*(but.length+1):=by rw[<-Cy,DN]
  have e3:(b.E7+1)*(but.length+1)=b.E7*(but.length+1)+(but.length+1):=by rw[Cy,Da]
  have e4:(a.E7+1)*(but.length+1)=a.E7*(but.length+1)+(but.length+1):=by rw[Cy,Da]
  cases hn with
  |fn _ _ ha aV =>
   obtain⟨h1,h2⟩:=chg_nm free but leaf hl a env s he ha (by omega);obtain⟨j1,j2⟩:=chg_nm free but leaf hl b env (iF (bindP free but) leaf env a s).2 he aV (by omega);exact⟨.fn _ _ h1 j1,Cm j2 (by rw[Cy];omega)⟩
 |.all x t,env,s,he,hn,hb=>by
  rw[iF];rw[Ty.E7]at hb ⊢;have e4:(t.E7+1+1)*(but.length+1)=t.E7*(but.length+1)+(but.length+1)+(but.length+1):=by rw[Cy,Cy,Da]
  have e5:(t.E7+1)*(but.length+1)=t.E7*(but.length+1)+(but.length+1):=by rw[Cy,Da]
  obtain⟨_,n1,n2⟩:=MX 120 but s.2 (by omega);cases hn with
  |all _ _ hx ht =>
   have hg:Gd 1 (bindP free but x s).1/\(bindP free but x s).2.2<=s.2+(but.length+1):=by
    rcases bindP_ways free but x s with⟨e1,e2⟩|⟨e1,e2⟩
    ·exact⟨by rw[e1];exact hx,by omega⟩
    ·exact⟨by rw[e1];exact UL _ (by omega),by omega⟩
   obtain⟨h1,h2⟩:=chg_nm free but leaf hl t ((x,(bindP free but x s).1)::env) (bindP free but x s).2 (λp hp=>by
    rcases Cd.1 hp with rfl|hp
    ·exact hg.1
    ·exact he p hp) ht (by omega)
   exact⟨.all _ _ hg.1 h1,Cm h2 (by omega)⟩
theorem chg_nmL(free but:List Name)(leaf:Ty->Ty)(hl:∀t,kd t=1\/kd t=2->Nm t->Nm (leaf t)):(l:List Ty)->∀(env:List (Name × Name))(s:List Nat × Nat),(∀p∈env,Gd 1 p.2)->(∀t∈l,Nm t)->s.2+(C' l+1)*(but.length+1)<10 ^ 15 ->
  (∀t∈(D_ (bindP free but) leaf env l s).1,Nm t)/\(D_ (bindP free but) leaf env l s).2.2<=s.2+C' l*(but.length+1)
 |[],env,s,he,hn,hb=>by rw[D_];exact⟨λt ht=>(CI ht).elim,D4 _ _⟩
 |a::b,env,s,he,hn,hb=>by
  rw[D_];rw[C']at hb ⊢;have e:(a.E7+C' b+1)*(but.length+1)=a.E7*(but.length+1)+(C' b+1)*(but.length+1):=by rw[<-Cy,DN]
  have e3:(C' b+1)*(but.length+1)=C' b*(but.length+1)+(but.length+1):=by rw[Cy,Da]
  have e4:(a.E7+1)*(but.length+1)=a.E7*(but.length+1)+(but.length+1):=by rw[Cy,Da]
  obtain⟨h1,h2⟩:=chg_nm free but leaf hl a env s he (hn a Cs) (by omega);obtain⟨j1,j2⟩:=chg_nmL free but leaf hl b env (iF (bindP free but) leaf env a s).2 he (λt ht=>hn t (Cf _ ht)) (by omega);refine⟨λt ht=>?_,Cm j2 (by rw[Cy];omega)⟩;rcases Cd.1 ht with rfl|ht
  ·exact h1
  ·exact j1 t ht
end
theorem nm_putT(qd:Ty->Bool)(t u:Ty)(ht:t.size<=1000000)(hu:u.size<=1000000)(hn:Nm t)(bT:Nm u):Nm (putT qd t u):=by
 unfold putT;split
 ·exact hn
 ·exact(chg_nm _ _ _ (λl _ hl=>by split;exact bT;exact hl) t [] _ (λ_ h=>(CI h).elim) hn (put_bound ht hu)).1
section
variable {σ:Type}
end
theorem size_pos(t:Ty):1<=t.size:=by rw[Gv];omega
theorem size_putT(qd:Ty->Bool)(t u:Ty):(putT qd t u).size<=t.size*u.size:=by
 unfold putT;split
 ·have:=Ek (BU t.size) (size_pos u);omega
 ·refine QO _ _ u.size (size_pos u) (λl hk=>?_) t [] _;split
  ·exact BU _
  ·have h1:=size_pos u;have:l.size=1:=by
    cases l with
    |var x=>rw[Gv];simp[kids,q_]
    |mt n=>rw[Gv];simp[kids,q_]
    |h_ c l=>simp[kd]at hk
    |fn a b=>simp[kd]at hk
    |all x t=>simp[kd]at hk
   omega
theorem db_putM(m:Nat)(t u:Ty)(ht:t.size<=1000000)(hu:u.size<=1000000):db [] (putT (isPM (m:Int)) t u)=filD m (db [] u) (db [] t):=by
 rw[db_putT (isPM (m:Int)) t u ht hu];unfold filD;congr 1;funext n
 show(if((n:Int) ==(m:Int))=true then db [] u else .mt n)=if n=m then db [] u else .mt n
 by_cases h:n=m
 ·rw[Ch (by simp[h]),Ch h]
 ·rw[Cg (by simp;omega),Cg h]
end
section
open Go.RowKit Lx Tx Go.Maps Go.WideMaps Go.Shelf
set_option maxRecDepth 100000
theorem tc_Same(t u:Ty)(S Su:Nat->Prop)(v uv:Value)(w:World)(hv:nc S w t v)(hu:nc Su w u uv)(hS:∀g,S g->g<w.heap.size)(aO:∀g,Su g->g<w.heap.size)(iW:Nm t)(bT:Nm u)(aA:t.size<=100000000):Calls prog 22 #[v,uv] w λe w'=>e=.returned (.bool (t_ [] [] t u 0).1)/\Below w.heap.size w w' :=
 zjl t u S Su v uv w hv hu hS aO iW bT (by omega)
set_option maxRecDepth 100000
theorem step_append_two {P:Program} {ops:Array Oper} {o:Oper} {a:Act} {K:Act->World->Prop} {Q:Exit->Act->World->Prop} {E:Prop} {w:World}(oV:o.guard=none)(s x:Operand)(t:TypeId)
  (ho:o.op=.call { callee:=.builtin .append,args:=#[s,x],argTypes:=#[t,t] })
  (N:Nat)(e:TypeId)(i:TypeInfo)(z:Value)(bytes:Nat)(ht:P.underlying t=some (.slice e))(hi:P.info? e=some i)(hz:i.zero=some z)
  (hsize:i.size=1)(hby:i.bytes=bytes)(hzs:z.cells.size=1)
  (v u:Value)(n m:Nat)(xs ys:List Value)(hs:a.eval s=v)(hx:a.eval x=u)(hv:w.ownsRow N e 1 v n xs)(hu:w.ownsRow N e 1 u m ys)(h1:∀y∈ys,y.oneCell'=true)
  (h63:n+m<=maxLen)(hbytes:(n+m)*bytes<=140737488355328)(hN:N<=w.heap.size)
  (h:∀A c w',w'.ownsRow N e 1 (.slice A (n+m) c) (n+m) (xs++ys)->Below N w w'->K (a.put o.dst (.slice A (n+m) c)) w'):if Region.wanted o (yielded ops a.tmps)=true then Oper.wp P o a w K Q else E:=by
 have hw:Region.wanted o (yielded ops a.tmps)=true:=by simp[Region.wanted,oV]
 rw[Ch hw];rcases hu.2 with⟨rfl,rfl⟩|⟨g,cap,cur,rfl,_⟩
 ·have aC:=run_append_owned_none (P:=P) (w:=w) N t o.type e i 1 ht hi v n xs hv;have hys:ys=[]:=List.length_eq_zero_iff.1 (by have:=hu.1;omega);subst hys;obtain⟨A,c,rfl⟩:=GS hv;have hk:=h A c w (by rw[CJ];exact hv) (Cc _ w);unfold Oper.wp execOp;simp only[ho,resolve,invoke,builtin,Sem.run_bind,Sem.run_pure,Result.andThen_ok,List.map_toArray,CA,List.map_nil,hs,hx,aC];exact hk
 ·obtain⟨v',w',hr,h2,h3,-,-⟩:=run_append_own_at (P:=P) (w:=w) N t o.type e i z 1 bytes ht hi hz hsize hby hzs (by omega) v n xs hv ⟨g,0,none⟩ m cap ys hu.1
   (λj y hy=>hu.cells (g:=g) rfl j y hy) h1 h63 hbytes hN
  obtain⟨A,c,rfl⟩:=GS h2;have hk:=h A c w' h2 (Below.grown (Cc _ w) h3 hN (λk hk=>(hv.lt k hk).1));unfold Oper.wp execOp;simp only[ho,resolve,invoke,builtin,Sem.run_bind,Sem.run_pure,Result.andThen_ok,List.map_toArray,CA,List.map_nil,hs,hx,hr];exact hk
def MetO(N:Nat)(l:List Nat)(n:Nat)(w:World)(v:Value):Prop:=w.ownsRow N 3 1 v n (Jo l)/\n<=2000000
theorem MetO.below {N:Nat} {l:List Nat} {n:Nat} {w w':World} {v:Value}(h:MetO N l n w v)(hb:Below w.heap.size w w'):MetO N l n w' v:=⟨FN h.1 hb,h.2⟩
def MetsPst(N:Nat)(l:List Nat)(n:Nat)(w:World)(e:Ending)(w':World):Prop :=
 ∃A c,e=.returned (.slice A n c)/\MetO N l n w' (.slice A n c)/\Below w.heap.size w w'
theorem rn_mets {w:World} {t:Ty} {v:Value}(hv:I9 w t v)(hn:Nm t)(hs:t.size<=1000000)(N n:Nat)(hN:N<=w.heap.size)(hl:t.RA.length=n):Calls prog 25 #[v] w (MetsPst N t.RA n w):=by
 have:=zpa t _ _ w hv (λ_ h=>h) hn hs;rw[zh5,hl]at this;refine this.mono ?_;rintro e w' ⟨A,cp,rfl,ho,h2,hb⟩;exact⟨A,cp,rfl,⟨Vq ho hN,h2⟩,hb⟩
def MetR(w:World)(L:List Nat)(n:Nat)(A:Option Addr):Prop:=L.length=n/\(0<n->∃g,A=some ⟨g,0,none⟩/\∀(k:Nat)(x:Nat),L[k]?=some x->w.cell? ⟨g,k,none⟩=some (.int .i64 x))
theorem MetR.Jy {w:World} {N:Nat} {L:List Nat} {n:Nat} {A:Option Addr} {c:Nat} {e:TypeId}(h:w.ownsRow N e 1 (.slice A n c) n (Jo L)):MetR w L n A:=by
 refine⟨by have:=h.1;rw[intV_len]at this;omega,λh0=>?_⟩;rcases h.2 with⟨q,h1⟩|⟨g,cap,cur,q,_⟩
 ·omega
 ·injection q with q1 q2 q3
  subst q1;refine⟨g,rfl,λk x hx=>?_⟩;have:=h.cells (g:=g) rfl k (.int .i64 x) (by unfold Jo;rw[CT,hx];rfl);rwa [Q_]at this
theorem metas_mem(t:Ty)(k:Nat):k∈t.RA↔a_ k (db [] t):=by
 unfold Ty.RA;rw[QG [] t,MI];simp
end
section
open Go.RowKit Lx Tx Go.Maps Go.WideMaps Go.Shelf
structure EqR (g:Nat) (w:World) (ts:List (Ty × Ty)):Prop where
 free:∀j,w.frozen? ⟨g,j,none⟩=false
 lt:g<w.heap.size
 eqs:Hg (λb=>b≠g/\b<w.heap.size) w ts (some ⟨g,0,none⟩)
theorem EqR.below {g:Nat} {w w':World} {ts:List (Ty × Ty)}(h:EqR g w ts)(hb:Below w.heap.size w w'):EqR g w' ts where
 free j:=(World.frozen?_of_block (hb.block g h.lt)).trans (h.free j)
 lt:=Ci h.lt hb.size
 eqs i t u hi:=by
  obtain⟨g',At,ct,Au,cu,e,-,h1,h2,h3,h4⟩:=h.eqs i t u hi;injection e with e;injection e with e;subst e;have hk:∀b,b≠g/\b<w.heap.size->w'.heap[b]?=w.heap[b]?:=λb lV=>hb.block b lV.2;have hS:∀b,b≠g/\b<w.heap.size->b≠g/\b<w'.heap.size:=λb lV=>⟨lV.1,Ci lV.2 hb.size⟩;exact⟨g,At,ct,Au,cu,rfl,Ci h.lt hb.size,h1.al (hb.block g h.lt),h2.al hS hk,h3.al (hb.block g h.lt),h4.al hS hk⟩
theorem IL.eqR {B:Nat} {S:Nat->Prop} {w:World} {ts:List (Ty × Ty)} {A:Option Addr} {m c:Nat} {v2:Value}(h:IL B S w ts (.slice A m c) v2)(hn:0<ts.length):∃g,A=some ⟨g,0,none⟩/\B<=g/\EqR g w ts:=by
 obtain⟨h1,-⟩:=h.Jv;obtain⟨gW,lD,o1,-,-,-,o5⟩:=h;rcases o1.2 with⟨-,h0⟩|⟨g,cap,cur,e,hB,hg,-⟩
 ·omega
 ·injection e with e1 _ _
  subst e1;refine⟨g,rfl,hB,?_,(BV.1 hg).1,λi t u hi=>?_⟩
  ·intro j;unfold World.frozen?;simp only[hg];first|rfl|simp
  ·obtain⟨g',At,ct,Au,cu,e',h0,a1,a2,a3,a4⟩:=h1 i t u hi;have hS:∀b,S b->b≠g/\b<w.heap.size:=λb hb=>by
    obtain⟨-,b2,b3,-⟩:=o5 b hb;exact⟨λe=>b3 (by rw[e];rfl),b2⟩
   exact⟨g',At,ct,Au,cu,e',h0,a1,a2.al hS (λ_ _=>rfl),a3,a4.al hS (λ_ _=>rfl)⟩
theorem rd_vals {S:Nat->Prop} {w:World} {t:Ty} {k z:Int} {x:ByteArray} {a:Option Addr} {m q:Nat}(hr:nc S w t (.agg #[.int .i64 k,.string x,.int .i64 z,.slice a m q])):k=(kd t:Nat)/\x=ER t/\z=(nn t:Nat)/\m=(kids t).length/\j_ S w t a:=by
 obtain⟨A,c,hv,ha⟩:=hr;injection hv with hv;have hv:=Cp Array.toList hv;simp only[DF,Value.int.injEq,Value.string.injEq,Value.slice.injEq,and_true,true_and]at hv;obtain⟨rfl,rfl,rfl,rfl,rfl,rfl⟩:=hv;exact⟨rfl,rfl,rfl,rfl,ha⟩
theorem set_at {α:Type}(l:List α)(i j:Nat)(p q:α)(h:(l.set i p)[j]?=some q):(j=i/\q=p/\i<l.length)\/(j≠i/\l[j]?=some q):=by
 by_cases e:j=i
 ·subst e;have hl:j<l.length:=by
   have:=(Cj.1 h).1;rwa [List.length_set]at this
  rw[List.getElem?_set_self hl]at h;injection h with h;exact .inl ⟨rfl,h.symm,hl⟩
 ·rw[List.getElem?_set_ne (λh=>e h.symm)]at h;exact .inr ⟨e,h⟩
theorem EqR.setL {g i:Nat} {w:World} {ts:List (Ty × Ty)} {t u t':Ty} {k z:Int} {x:ByteArray} {a:Option Addr} {m q:Nat}(h:EqR g w ts)(hi:ts[i]?=some (t,u))(hr:nc (λb=>b≠g/\b<w.heap.size) w t' (.agg #[.int .i64 k,.string x,.int .i64 z,.slice a m q])):EqR g (FT w g (i*8) (.int .i64 k) (.string x) (.int .i64 z) (.slice a m q)) (ts.set i (t',u)) where
 free j:=(zkj _ _ _ _ _ _ _ _).trans (h.free j)
 lt:=by rw[MW];exact h.lt
 eqs j t1 u1 hj:=by
  obtain⟨rfl,rfl,rfl,rfl,ha⟩:=rd_vals hr;have hk:∀b,b≠g/\b<w.heap.size->(FT w g (i*8) (.int .i64 (kd t':Nat)) (.string (ER t')) (.int .i64 (nn t':Nat)) (.slice a (kids t').length q)).heap[b]?=w.heap[b]?:=λb lV=>LX _ _ _ _ _ _ _ _ lV.1;have hS:∀b,b≠g/\b<w.heap.size->b≠g/\b<(FT w g (i*8) (.int .i64 (kd t':Nat)) (.string (ER t')) (.int .i64 (nn t':Nat)) (.slice a (kids t').length q)).heap.size:=λb lV=>by rw[MW];exact lV
  rcases set_at ts i j _ _ hj with⟨rfl,e,hl⟩|⟨ai,hj⟩
  ·injection e with e1 e2
   subst e1 e2;obtain⟨g',At,ct,Au,cu,e,-,⟨c0,c1,c2,c3⟩,-,⟨d0,d1,d2,d3⟩,h4⟩:=h.eqs j t u1 hi;injection e with e;injection e with e;subst e;obtain⟨f0,f1,f2,f3⟩:=zlI w g (j*8) (.int .i64 (kd t1:Nat)) (.string (ER t1)) (.int .i64 (nn t1:Nat)) (.slice a (kids t1).length q) _ _ _ _ c0 c1 c2 c3;exact⟨g,a,q,Au,cu,rfl,by rw[MW];exact h.lt,⟨f0,f1,f2,f3⟩,ha.al hS hk,⟨(Qz _ _ _ _ _ _ _ _ (by omega)).trans d0,(Qz _ _ _ _ _ _ _ _ (by omega)).trans d1,(Qz _ _ _ _ _ _ _ _ (by omega)).trans d2,(Qz _ _ _ _ _ _ _ _ (by omega)).trans d3⟩,h4.al hS hk⟩
  ·obtain⟨g',At,ct,Au,cu,e,-,⟨c0,c1,c2,c3⟩,h2,⟨d0,d1,d2,d3⟩,h4⟩:=h.eqs j t1 u1 hj;injection e with e;injection e with e;subst e;have I8:∀o,o<8->(FT w g (i*8) (.int .i64 (kd t':Nat)) (.string (ER t')) (.int .i64 (nn t':Nat)) (.slice a (kids t').length q)).cell? ⟨g,j*8+o,none⟩=w.cell? ⟨g,j*8+o,none⟩:=λo ho=>Qz _ _ _ _ _ _ _ _ (by omega);exact⟨g,At,ct,Au,cu,rfl,by rw[MW];exact h.lt,⟨(I8 0 (by omega)).trans c0,(I8 1 (by omega)).trans c1,(I8 2 (by omega)).trans c2,(I8 3 (by omega)).trans c3⟩,h2.al hS hk,⟨(I8 4 (by omega)).trans d0,(I8 5 (by omega)).trans d1,(I8 6 (by omega)).trans d2,(I8 7 (by omega)).trans d3⟩,h4.al hS hk⟩
theorem EqR.setR {g i:Nat} {w:World} {ts:List (Ty × Ty)} {t u t':Ty} {k z:Int} {x:ByteArray} {a:Option Addr} {m q:Nat}(h:EqR g w ts)(hi:ts[i]?=some (t,u))(hr:nc (λb=>b≠g/\b<w.heap.size) w t' (.agg #[.int .i64 k,.string x,.int .i64 z,.slice a m q])):EqR g (FT w g (i*8+4) (.int .i64 k) (.string x) (.int .i64 z) (.slice a m q)) (ts.set i (t,t')) where
 free j:=(zkj _ _ _ _ _ _ _ _).trans (h.free j)
 lt:=by rw[MW];exact h.lt
 eqs j t1 u1 hj:=by
  obtain⟨rfl,rfl,rfl,rfl,ha⟩:=rd_vals hr;have hk:∀b,b≠g/\b<w.heap.size->(FT w g (i*8+4) (.int .i64 (kd t':Nat)) (.string (ER t')) (.int .i64 (nn t':Nat)) (.slice a (kids t').length q)).heap[b]?=w.heap[b]?:=λb lV=>LX _ _ _ _ _ _ _ _ lV.1;have hS:∀b,b≠g/\b<w.heap.size->b≠g/\b<(FT w g (i*8+4) (.int .i64 (kd t':Nat)) (.string (ER t')) (.int .i64 (nn t':Nat)) (.slice a (kids t').length q)).heap.size:=λb lV=>by rw[MW];exact lV
  rcases set_at ts i j _ _ hj with⟨rfl,e,hl⟩|⟨ai,hj⟩
  ·injection e with e1 e2
   subst e1 e2;obtain⟨g',At,ct,Au,cu,e,-,⟨c0,c1,c2,c3⟩,h2,⟨d0,d1,d2,d3⟩,-⟩:=h.eqs j t1 u hi;injection e with e;injection e with e;subst e;obtain⟨f0,f1,f2,f3⟩:=zlI w g (j*8+4) (.int .i64 (kd u1:Nat)) (.string (ER u1)) (.int .i64 (nn u1:Nat)) (.slice a (kids u1).length q) _ _ _ _ d0 d1 d2 d3;exact⟨g,At,ct,a,q,rfl,by rw[MW];exact h.lt,⟨(Qz _ _ _ _ _ _ _ _ (by omega)).trans c0,(Qz _ _ _ _ _ _ _ _ (by omega)).trans c1,(Qz _ _ _ _ _ _ _ _ (by omega)).trans c2,(Qz _ _ _ _ _ _ _ _ (by omega)).trans c3⟩,h2.al hS hk,⟨f0,f1,f2,f3⟩,ha.al hS hk⟩
  ·obtain⟨g',At,ct,Au,cu,e,-,⟨c0,c1,c2,c3⟩,h2,⟨d0,d1,d2,d3⟩,h4⟩:=h.eqs j t1 u1 hj;injection e with e;injection e with e;subst e;have I8:∀o,o<8->(FT w g (i*8+4) (.int .i64 (kd t':Nat)) (.string (ER t')) (.int .i64 (nn t':Nat)) (.slice a (kids t').length q)).cell? ⟨g,j*8+o,none⟩=w.cell? ⟨g,j*8+o,none⟩:=λo ho=>Qz _ _ _ _ _ _ _ _ (by omega);exact⟨g,At,ct,Au,cu,rfl,by rw[MW];exact h.lt,⟨(I8 0 (by omega)).trans c0,(I8 1 (by omega)).trans c1,(I8 2 (by omega)).trans c2,(I8 3 (by omega)).trans c3⟩,h2.al hS hk,⟨(I8 4 (by omega)).trans d0,(I8 5 (by omega)).trans d1,(I8 6 (by omega)).trans d2,(I8 7 (by omega)).trans d3⟩,h4.al hS hk⟩
theorem below_setO {g o:Nat} {w0 w:World}(h:Below w0.heap.size w0 w)(hg:w0.heap.size<=g)(b0 b1 b2 b3:Value):Below w0.heap.size w0 (FT w g o b0 b1 b2 b3) :=
 (((h.setCell (p:=⟨g,o,none⟩) hg _).setCell (p:=⟨g,o+1,none⟩) hg _).setCell (p:=⟨g,o+2,none⟩) hg _).setCell (p:=⟨g,o+3,none⟩) hg _
def fill1(m:Nat)(t:Ty):Ty:=putT (isPM (m:Int)) t (conC m)
theorem fill1_facts(m:Nat)(hm:m<=999999)(t:Ty)(hn:Nm t)(hs:t.size<=120):Nm (fill1 m t)/\(fill1 m t).size<=120/\∀n,a_ n (db [] (fill1 m t))↔a_ n (db [] t)/\n≠m:=by
 refine⟨nm_putT _ t _ (by omega) (by rw[size_conC];omega) hn (nm_conC m hm),?_,λn=>?_⟩
 ·have:=size_putT (isPM (m:Int)) t (conC m);rw[size_conC,Nat.mul_one]at this;exact Cm this hs
 ·unfold fill1;rw[db_putM m t _ (by omega) (by rw[size_conC];omega)];exact occ_filC m n _
def fillN(ms:List Nat)(t:Ty):Ty:=ms.foldl (λt m=>fill1 m t) t
theorem fillN_snoc(ms:List Nat)(m:Nat)(t:Ty):fillN (ms++[m]) t=fill1 m (fillN ms t):=by unfold fillN;rw[List.foldl_append];rfl
theorem fillN_facts:(ms:List Nat)->(∀m∈ms,m<=999999)->∀(t:Ty),Nm t->t.size<=120->Nm (fillN ms t)/\(fillN ms t).size<=120/\∀n,a_ n (db [] (fillN ms t))↔a_ n (db [] t)/\n∉ms
 |[],_,t,hn,hs=>⟨hn,hs,λn=>by simp[fillN]⟩
 |m::ms,hm,t,hn,hs=>by
  obtain⟨h1,h2,h3⟩:=fill1_facts m (hm m (by simp)) t hn hs;obtain⟨h4,h5,h6⟩:=fillN_facts ms (λx hx=>hm x (by simp[hx])) _ h1 h2;refine⟨h4,h5,λn=>?_⟩;show a_ n (db [] (fillN ms (fill1 m t)))↔_;rw[h6,h3,Cd];simp only[not_or,and_assoc]
theorem metas_small {t:Ty}(hn:Nm t):∀m∈t.RA,m<=999999:=λm hm=>zkP m _ (Om [] t hn) ((metas_mem t m).1 hm)
def fillP(p:Ty × Ty):Ty × Ty:=(fillN (p.1.RA++p.2.RA) p.1,fillN (p.1.RA++p.2.RA) p.2)
theorem fillP_rig {t u:Ty}(hn:Nm t/\Nm u/\t.size<=120/\u.size<=120):Nm (fillP (t,u)).1/\Nm (fillP (t,u)).2/\(fillP (t,u)).1.size<=120/\(fillP (t,u)).2.size<=120/\Rig (db [] (fillP (t,u)).1)/\Rig (db [] (fillP (t,u)).2):=by
 obtain⟨h1,h2,h3,h4⟩:=hn;have hm:∀m∈t.RA++u.RA,m<=999999:=λm hm=>(Cr.1 hm).elim (metas_small h1 m) (metas_small h2 m);obtain⟨a1,a2,a3⟩:=fillN_facts _ hm t h1 h3;obtain⟨b1,b2,b3⟩:=fillN_facts _ hm u h2 h4;refine⟨a1,b1,a2,b2,λn hn=>?_,λn hn=>?_⟩
 ·obtain⟨x,y⟩:=(a3 n).1 hn;exact y (Cr.2 (.inl ((metas_mem t n).2 x)))
 ·obtain⟨x,y⟩:=(b3 n).1 hn;exact y (Cr.2 (.inr ((metas_mem u n).2 x)))
def mix(i:Nat)(ts:List (Ty × Ty)):List (Ty × Ty):=(ts.take i).map fillP++ts.drop i
theorem mix_zero(ts:List (Ty × Ty)):mix 0 ts=ts:=by simp[mix]
theorem mix_all(ts:List (Ty × Ty)):mix ts.length ts=ts.map fillP:=by simp[mix]
theorem mix_len(i:Nat)(ts:List (Ty × Ty)):(mix i ts).length=ts.length:=by
 unfold mix;rw[Cb,CE,DH,Dk];omega
theorem mix_at {i:Nat} {ts:List (Ty × Ty)} {p:Ty × Ty}(h:ts[i]?=some p):(mix i ts)[i]?=some p:=by
 have hl:=(Cj.1 h).1;unfold mix;rw[Db (by rw[CE,DH];omega),CE,DH,List.getElem?_drop];rw[show i+(i-min i ts.length)=i by omega];exact h
theorem mix_set {i:Nat} {ts:List (Ty × Ty)} {p:Ty × Ty}(h:ts[i]?=some p):(mix i ts).set i (fillP p)=mix (i+1) ts:=by
 obtain⟨hl,e⟩:=Cj.1 h;unfold mix;rw[List.set_append_right _ _ (by rw[CE,DH];omega),CE,DH,show i-min i ts.length=0 by omega,DL hl,List.set_cons_zero,CV hl,Dn,CA,List.map_nil,e,DC,List.singleton_append]
def samB(p:Ty × Ty):Bool:=(t_ [] [] p.1 p.2 0).1
def allB(i:Nat)(ts:List (Ty × Ty)):Bool:=(ts.take i).all λp=>samB (fillP p)
theorem allB_zero(ts:List (Ty × Ty)):allB 0 ts=true:=by simp[allB]
theorem allB_succ {i:Nat} {ts:List (Ty × Ty)} {p:Ty × Ty}(h:ts[i]?=some p):allB (i+1) ts=(allB i ts&&samB (fillP p)):=by
 obtain⟨hl,e⟩:=Cj.1 h;unfold allB;rw[CV hl,List.all_append,e];simp
theorem allB_iff(ts:List (Ty × Ty)):allB ts.length ts=true↔∀p∈Fy (ts.map fillP),p.1=p.2:=by
 unfold allB Fy;rw[List.take_length,Eo];constructor
 ·intro h p hp;obtain⟨q,hq,rfl⟩:=Ct.1 hp;obtain⟨r,hr,rfl⟩:=Ct.1 hq;exact(JA _ _).1 (h r hr)
 ·intro h p hp;exact(JA _ _).2 (h _ (Ct.2 ⟨_,Ct.2 ⟨p,hp,rfl⟩,rfl⟩))
theorem eqOK_map {ts:List (Ty × Ty)}(h:IM ts):IM (ts.map fillP)/\∀p∈Fy (ts.map fillP),Rig p.1/\Rig p.2:=by
 refine⟨λt u ht=>?_,λp hp=>?_⟩
 ·obtain⟨⟨t0,u0⟩,h0,e⟩:=Ct.1 ht;obtain⟨a,b,c,d,-,-⟩:=fillP_rig (h t0 u0 h0);rw[e]at a b c d;exact⟨a,b,c,d⟩
 ·unfold Fy at hp;obtain⟨⟨t,u⟩,hq,rfl⟩:=Ct.1 hp;obtain⟨⟨t0,u0⟩,h0,e⟩:=Ct.1 hq;obtain⟨-,-,-,-,a,b⟩:=fillP_rig (h t0 u0 h0);rw[e]at a b;exact⟨a,b⟩
def RigPst(q:Bool)(W:World)(e:Ending)(W':World):Prop:=∃A c er,e=.returned (.tuple #[.slice A 0 c,.int .i64 (er:Nat)])/\Below W.heap.size W W'/\((q=true/\er=0)\/(q=false/\er=40))
theorem Ib.rig {ts:List (Ty × Ty)} {W:World} {e:Ending} {W':World}(iD:IM ts)(h:Ib (ts.map fillP) W e W'):RigPst (allB ts.length ts) W e W':=by
 obtain⟨f,o,hf,hb,hc⟩:=h;rcases unF_rig f _ _ _ hf (eqOK_map iD).2 with⟨rfl,h2⟩|⟨rfl,h2⟩
 ·rcases hc with⟨m,h3,-,rfl⟩|⟨k,v,l,T,h3,-⟩
  ·injection h3 with h3
   refine⟨none,0,40,by rw[<-h3],hb,.inr ⟨?_,rfl⟩⟩;cases hq:allB ts.length ts with
   |false=>rfl
   |true=>exact absurd ((allB_iff ts).1 hq) h2
  ·cases h3
 ·rcases hc with⟨m,h3,-⟩|⟨k,v,l,T,h3,rfl,hK,hT,-⟩
  ·cases h3
  ·injection h3 with h3
   subst h3;obtain rfl:=hT.none;obtain⟨A,c,e⟩:∃A c,v=.slice A 0 c:=by
    obtain⟨vs,h1,-⟩:=hK;obtain⟨a,q,e⟩:=GS h1;exact⟨a,q,e⟩
   subst e;exact⟨A,c,0,rfl,hb,.inl ⟨(allB_iff ts).2 h2,rfl⟩⟩
theorem uc_rig {ts:List (Ty × Ty)} {S:Nat->Prop} {A:Option Addr} {c:Nat} {W:World}(h:Hg S W (ts.map fillP) A)(hS:∀g,S g->g<W.heap.size)(iD:IM ts)(hl:ts.length<=8):Calls prog 14 #[.slice A ts.length c] W (RigPst (allB ts.length ts) W):=by
 have h1:=(eqOK_map iD).1;have oO:(ts.map fillP).length=ts.length:=CE ..;have:=zjD S (ts.map fillP) A c W h hS (λt u ht=>by obtain⟨a,b,d,e⟩:=h1 t u ht;exact⟨a,b,by omega,by omega⟩) (by omega) (by have:=UW _ h1;omega) zil;rw[oO]at this;exact this.mono λ_ _ h=>h.rig iD
def fil2(L:List Nat)(k:Nat)(p:Ty × Ty):Ty × Ty:=(fillN (L.take k) p.1,fillN (L.take k) p.2)
def FilP(g:Nat)(T:Ty)(W:World)(e:Ending)(W':World):Prop :=
 ∃k x z a m q,e=.returned (.agg #[.int .i64 k,.string x,.int .i64 z,.slice a m q])/\nc (λb=>b≠g/\b<W'.heap.size) W' T (.agg #[.int .i64 k,.string x,.int .i64 z,.slice a m q])/\Below W.heap.size W W'
theorem rd_conC(S:Nat->Prop)(W:World)(x:Nat):nc S W (conC x) (.agg #[.int .i64 3,.string ⟨(67::dec x).toArray⟩,.int .i64 0,.slice none 0 0]):=⟨none,0,rfl,by unfold conC;rw[j_];exact λh=>absurd rfl h⟩
theorem fill_at {g:Nat} {W:World} {t:Ty} {v:Value} {x:Nat}(hv:nc (λb=>b≠g/\b<W.heap.size) W t v)(hg:g<W.heap.size)(hn:Nm t)(hs:t.size<=120)(hx:x<=999999)(ht:FO W):Calls prog 27 #[v,.int .i64 (x:Nat),.agg #[.int .i64 3,.string ⟨(67::dec x).toArray⟩,.int .i64 0,.slice none 0 0]] W (FilP g (fill1 x t) W):=by
 refine(tc_Fill t (conC x) (x:Nat) _ (λ_=>False) v _ W hv (rd_conC _ W x) (λ_ h=>h.2) (λ_ h=>h.elim) hn (nm_conC x hx) (by omega) (by rw[size_conC];omega) ht).mono ?_;rintro e w' ⟨k,y,z,a,m,q,rfl,hr,hb⟩;have aA:=hb.size;refine⟨k,y,z,a,m,q,rfl,hr.al (λb hb=>?_) (λ_ _=>rfl),hb⟩;rcases hb with h|h|h
 ·exact⟨h.1,by have:=h.2;omega⟩
 ·exact h.elim
 ·exact⟨by omega,h.2⟩
theorem EqR.at {g i:Nat} {w:World} {ts:List (Ty × Ty)} {t u:Ty}(h:EqR g w ts)(hi:ts[i]?=some (t,u)):∃K X Z A m c K' X' Z' A' m' c',
  nc (λb=>b≠g/\b<w.heap.size) w t (.agg #[.int .i64 K,.string X,.int .i64 Z,.slice A m c])/\nc (λb=>b≠g/\b<w.heap.size) w u (.agg #[.int .i64 K',.string X',.int .i64 Z',.slice A' m' c']) /\
  (∀W:World,W.heap[g]?=w.heap[g]?->W.cell? ⟨g,i*8,none⟩=some (.int .i64 K)/\W.cell? ⟨g,i*8+1,none⟩=some (.string X)/\W.cell? ⟨g,i*8+2,none⟩=some (.int .i64 Z)/\W.cell? ⟨g,i*8+3,none⟩=some (.slice A m c)) /\
  (∀W:World,W.heap[g]?=w.heap[g]?->W.cell? ⟨g,i*8+4,none⟩=some (.int .i64 K')/\W.cell? ⟨g,i*8+4+1,none⟩=some (.string X')/\W.cell? ⟨g,i*8+4+2,none⟩=some (.int .i64 Z')/\W.cell? ⟨g,i*8+4+3,none⟩=some (.slice A' m' c')) /\
  ∀(W:World),W.heap[g]?=w.heap[g]?->∀j,W.frozen? ⟨g,j,none⟩=false:=by
 obtain⟨g',At,ct,Au,cu,e,-,h1,h2,h3,h4⟩:=h.eqs i t u hi;injection e with e;injection e with e;subst e;exact⟨_,_,_,At,_,ct,_,_,_,Au,_,cu,⟨At,ct,rfl,h2⟩,⟨Au,cu,rfl,h4⟩,λW hW=>h1.al hW,λW hW=>h3.al hW,λW hW j=>(World.frozen?_of_block hW).trans (h.free j)⟩
def KbQ9(g:Nat)(w w':World):Prop:=w.heap.size<=w'.heap.size/\∀b,b≠g->b<w.heap.size->w'.heap[b]?=w.heap[b]?
theorem KbQ9.refl(g:Nat)(w:World):KbQ9 g w w:=⟨BU _,λ_ _ _=>rfl⟩
theorem KbQ9.trans {g:Nat} {a b c:World}(h:KbQ9 g a b)(h':KbQ9 g b c):KbQ9 g a c:=⟨Cm h.1 h'.1,λk hk hl=>(h'.2 k hk (Ci hl h.1)).trans (h.2 k hk hl)⟩
theorem KbQ9.c_ {g:Nat} {a b:World}(h:Below a.heap.size a b):KbQ9 g a b:=⟨h.size,λk _ hl=>h.block k hl⟩
theorem KbQ9.FT {g:Nat} {a b:World}(h:KbQ9 g a b)(o:Nat)(b0 b1 b2 b3:Value):KbQ9 g a (FT b g o b0 b1 b2 b3):=⟨by rw[MW];exact h.1,λk hk hl=>(LX _ _ _ _ _ _ _ _ hk).trans (h.2 k hk hl)⟩
theorem KbQ9.cell {g:Nat} {a b:World}(h:KbQ9 g a b) {k j:Nat} {v:Value}(hk:k≠g)(hc:a.cell? ⟨k,j,none⟩=some v):b.cell? ⟨k,j,none⟩=some v:=(Ck (w:=a) (a:=⟨k,j,none⟩) (h.2 k hk (World.block_lt_of_cell? _ _ hc))).trans hc
end
end Go.Proofs.YtfafilmklhnngaaGreatDoor
