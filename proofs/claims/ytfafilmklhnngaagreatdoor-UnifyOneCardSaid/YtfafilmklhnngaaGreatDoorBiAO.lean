import Derived.Test.YtfafilmklhnngaaGreatDoorBiAL
import Derived.Test.YtfafilmklhnngaaGreatDoorBiAN
set_option maxHeartbeats 12800000
namespace Go.Proofs.YtfafilmklhnngaaGreatDoor
open Go.RowKit Lx Tx Go.Maps Go.WideMaps Go.Shelf
set_option maxRecDepth 100000
def EqOK(ts:List (Ty × Ty)):Prop:=∀t u,(t,u)∈ts->Nm t/\Nm u/\t.size<=120/\u.size<=120
theorem ze2:(ls:List (ByteArray × ByteArray))->∀ {o:Option (List (Ty × Ty) × Nat)} {ts:List (Ty × Ty)} {c:Nat},ls.foldl zck o=some (ts,c)->∃ts0 c0,o=some (ts0,c0)/\ts.length=ts0.length+ls.length/\(EqOK ts0->EqOK ts)
 |[],o,ts,c,h=>⟨ts,c,h,rfl,id⟩
 |p::r,o,ts,c,h=>by
  rw[List.foldl_cons]at h
  obtain⟨ts1,c1,h1,h2,h3⟩:=ze2 r h;unfold zck at h1;split at h1
  ·rename_i ts0 c0 t u ht hu
   split at h1
   ·cases h1
   ·rename_i hn
    injection h1 with h1;injection h1 with h1 _;refine⟨ts0,c0,rfl,?_,λh0=>h3 λa b hab=>?_⟩
    ·rw[h2,<-h1,List.length_append,List.length_cons,List.length_cons,List.length_nil];omega
    ·rw[<-h1]at hab
     rcases List.mem_append.1 hab with hab|hab
     ·exact h0 a b hab
     ·rw[List.mem_singleton]at hab
      injection hab with e1 e2;subst e1 e2;obtain⟨n1,-,s1,-⟩:=zcY _ _ ht;obtain⟨n2,-,s2,-⟩:=zcY _ _ hu;have l1:p.1.data.toList.length=p.1.size:=Array.length_toList;have l2:p.2.data.toList.length=p.2.size:=Array.length_toList;exact⟨n1,n2,by omega,by omega⟩
  ·cases h1
theorem ziF {ls:List (ByteArray × ByteArray)} {ts:List (Ty × Ty)}(h:zbq ls=some ts):ts.length=ls.length/\ls.length<=8/\EqOK ts:=by
 unfold zbq at h;split at h
 ·cases h
 ·rename_i h8
  cases hr:runR ls with
  |none=>rw[hr]at h;cases h
  |some p =>
   rw[hr]at h
   injection h with h;obtain⟨ts1,c⟩:=p;have h:ts1=ts:=h;subst h;obtain⟨ts0,c0,h1,h2,h3⟩:=ze2 ls hr;injection h1 with h1;injection h1 with h1 _;subst h1;exact⟨by simpa using h2,by omega,h3 λ_ _ h=>by cases h⟩
theorem zhW:(ts:List (Ty × Ty))->EqOK ts->szQ ts<=240*ts.length
 |[],_=>Nat.zero_le _
 |(t,u)::r,h=>by
  have h1:=h t u (by simp);have h2:=zhW r λa b hab=>h a b (by simp[hab]);rw[List.length_cons,szQ]
  omega
theorem znd {B:Nat} {S:Nat->Prop} {ts:List (Ty × Ty)} {A:Option Addr} {m c:Nat} {v2:Value} {w:World}(h:EqsV B S w ts (.slice A m c) v2)(hok:EqOK ts)(hl:ts.length<=8):Calls Tryz.prog 14 #[.slice A m c] w (UnPost ts w):=by
 obtain⟨h1,rfl⟩:=h.eqsAt;have hS:∀g,S g->g<w.heap.size:=by
  obtain⟨_,_,_,_,_,_,h5⟩:=h;exact λg hg=>(h5 g hg).2.1
 exact zhP S ts A c w h1 hS (λt u ht=>by obtain⟨a,b,d,e⟩:=hok t u ht;exact⟨a,b,by omega,by omega⟩) (by omega) (by have:=zhW ts hok;omega) zgR
end Go.Proofs.YtfafilmklhnngaaGreatDoor
namespace Go.Proofs.YtfafilmklhnngaaGreatDoor
open Go.RowKit Lx Tx Go.Maps Go.WideMaps Go.Shelf
set_option maxRecDepth 100000
theorem KnRow.at {S:Nat->Prop} {w:World} : {l:List (Nat × Ty)}->{vs:List Value}->KnRow S w l vs->∀(j n:Nat)(t:Ty),l[j]?=some (n,t)->∃A c,Args S w t A/\∀k,k<5->vs[j*5+k]? =(knV n t A c)[k]?
 |[],_,_,j,n,t,h=>by simp at h
 |x::r,vs,h,0,n,t,hj=>by
  simp at hj;subst hj;rw[KnRow]at h
  obtain⟨A,c,rest,rfl,h2,-⟩:=h;refine⟨A,c,h2,λk hk=>?_⟩;rw[Nat.zero_mul,Nat.zero_add,List.getElem?_append_left (show k<5 from hk)]
 |x::r,vs,h,j+1,n,t,hj=>by
  obtain⟨n0,t0⟩:=x;rw[KnRow]at h
  obtain⟨A,c,rest,rfl,-,h3⟩:=h;obtain⟨A',c',h4,h5⟩:=KnRow.at h3 j n t (by simpa using hj);refine⟨A',c',h4,λk hk=>?_⟩;have e:(j+1)*5+k=5+(j*5+k):=by omega
  rw[e,List.getElem?_append_right (show 5<=5+(j*5+k) by omega)]
  show rest[5+(j*5+k)-5]?=_;rw[Nat.add_sub_cancel_left]
  exact h5 k hk
theorem KnsV.cells {S:Nat->Prop} {B:Nat} {w:World} {l:List (Nat × Ty)} {A:Option Addr} {m c:Nat}(h:KnsV S B w l (.slice A m c)):m=l.length/\∀(i n:Nat) (t:Ty),l[i]?=some (n,t)->∃g At ct,A=some ⟨g,0,none⟩/\B<=g/\g<w.heap.size/\Args S w t At /\
   w.cell? ⟨g,i*5,none⟩=some (.int .i64 (n:Nat))/\w.cell? ⟨g,i*5+1,none⟩=some (.int .i64 (kd t:Nat))/\w.cell? ⟨g,i*5+2,none⟩=some (.string (nmB t))/\w.cell? ⟨g,i*5+3,none⟩=some (.int .i64 (nn t:Nat))/\w.cell? ⟨g,i*5+4,none⟩=some (.slice At (kids t).length ct):=by
 obtain⟨vs,h1,h2⟩:=h;have hm:m=l.length:=by
  obtain⟨a,q,e⟩:=zao h1;injection e
 refine⟨hm,λi n t hi=>?_⟩;obtain⟨At,ct,g1,g2⟩:=h2.at i n t hi;rcases h1.2 with⟨-,h0⟩|⟨g,cap,cur,e,hB,hg,-⟩
 ·rw[List.eq_nil_of_length_eq_zero h0]at hi
  cases hi
 ·injection e with e1 _ _
  subst e1;have hc:∀(j:Nat) (x:Value),vs[j]?=some x->w.cell? ⟨g,j,none⟩=some x:=λj x hx=>by
   have hcell:=h1.cells (g:=g) rfl j x hx;have hadd:(⟨g,0,none⟩:Addr).add j=⟨g,j,none⟩:=by unfold Addr.add;split <;> simp_all
   rwa [hadd]at hcell
  exact⟨g,At,ct,rfl,hB,(Array.getElem?_eq_some_iff.1 hg).1,g1,hc _ _ (g2 0 (by omega)),hc _ _ (g2 1 (by omega)),hc _ _ (g2 2 (by omega)),hc _ _ (g2 3 (by omega)),hc _ _ (g2 4 (by omega))⟩
def znC(l:List (Nat × Ty)):Prop:=l.length<=1000/\∀e∈l,e.1<=999999/\Nm e.2/\e.2.size<=1000000
theorem zgc(n:Nat)(h:n<=999999):(dec n).length<=6:=zdV 20 6 n (by omega) (by omega)
theorem zly(l:List (Nat × Ty))(h:∀e∈l,e.1<=999999/\Nm e.2/\e.2.size<=1000000):(za5 l).length<=41000000*l.length:=by
 induction l with
 |nil=>simp[za5]
 |cons e l ih =>
  obtain⟨x,t⟩:=e;obtain⟨h1,h2,h3⟩:=h _ List.mem_cons_self;have h1:x<=999999:=h1;have h2:Nm t:=h2;have h3:t.size<=1000000:=h3;have h0:=zgc x h1;have h4:=ih (λe he=>h e (List.mem_cons_of_mem _ he));have h5:=(zbD t.canonT (zdg t h2 (by omega))).1;have h6:t.canonT.size=t.size:=by rw[<-zcr];exact zbC _ _ _ _
  rw[za5]
  simp only[List.length_cons,List.length_append];omega
def zo8(m:Nat)(l:List (Nat × Ty))(n:Nat)(w0:World)(gg:Nat)(vs vi:Value)(wr:World):Prop :=
 ∃i,gg=n-i/\vi=.int .i64 (i:Nat)/\i<=n/\vs=.string ⟨(dec m++za5 (l.take i)).toArray⟩/\Below w0.heap.size w0 wr
theorem zoo(m:Nat)(l:List (Nat × Ty))(S:Nat->Prop)(B:Nat)(v:Value)(w:World)(ht:Tab w)(hv:KnsV S B w l v)(hS:∀g,S g->g<w.heap.size)(hl:znC l)(hm:m<=100):Calls Tryz.prog 24 #[v,.int .i64 (m:Nat)] w λe w'=>e=.returned (.string ⟨(dec m++za5 l).toArray⟩)/\Below w.heap.size w w':=by
 obtain⟨A,n,cp,rfl⟩:∃A n cp,v=.slice A n cp:=by
  obtain⟨vs,h1,-⟩:=hv;obtain⟨a,q,e⟩:=zao h1;exact⟨_,_,_,e⟩
 obtain⟨hln,hcells⟩:=hv.cells;obtain⟨hl1,hl2⟩:=hl;have HC0:=hidE hcells;have HS:=hidE hS;have HL:=hidE hl2;have HLN:=hidE hln;have HT:=hidE ht;have HD:=hidE (λ(k:Nat) (hk:k<=999999) (W:World)=>zlW k W (by omega));have hn6:n<=1000:=by omega
 clear hcells hS hl2 hln ht hv hl1;go_enter Tryz.func24,Tryz.ntmps24
 go_wp2_with fail
 refine(HD.out m (by omega) _).mono ?_;rintro e w1 ⟨rfl,b1⟩;have hm0:=zgc m (by omega);go_wp2_with fail
 go_loopg [5,6] n (λgg vs vi wr=>zo8 m l n w gg vs vi wr)
 case atStart=>exact⟨0,rfl,rfl,Nat.zero_le _,by rw[List.take_zero,za5,List.append_nil],b1⟩
 case round =>
  obtain⟨i,rfl,rfl,hin,rfl,hbw⟩:=hrel;have HBW:=hidE hbw;have hszr:=hbw.size;clear hbw b1;by_cases hlt:i<n
  ·have hil:i<l.length:=by rw[<-HLN.out];exact hlt
   obtain⟨⟨x,t⟩,he⟩:∃e,l[i]?=some e:=⟨_,List.getElem?_eq_getElem hil⟩;obtain⟨g,At,ct,rfl,-,hg,ha,c0,c1,c2,c3,c4⟩:=HC0.out i x t he;obtain⟨hx,hnt,hst⟩:=HL.out _ (List.mem_of_getElem? he);have hx:x<=999999:=hx;have hnt:Nm t:=hnt;have hst:t.size<=1000000:=hst;have hsn:za5 (l.take (i+1))=za5 (l.take i)++(59::(dec x++61::t.canonT.print)):=by
    rw[List.take_add_one,he]
    exact zfT x t (l.take i)
   have hlen:=zly (l.take i) (λe he=>HL.out e (List.mem_of_mem_take he));rw[List.length_take]at hlen
   have hcl:=(zbD t.canonT (zdg _ hnt (by omega))).1;have hcs:t.canonT.size=t.size:=by rw[<-zcr];exact zbC _ _ _ _
   have hdx:=zgc x hx;have hrd:RdV S w t (.agg #[.int .i64 (kd t:Nat),.string (nmB t),.int .i64 (nn t:Nat),.slice At (kids t).length ct]):=⟨At,ct,rfl,ha⟩;obtain⟨k5,hk5⟩:∃k:Int,((kd t:Nat):Int)=k:=⟨_,rfl⟩;obtain⟨x5,hx5⟩:∃k:ByteArray,nmB t=k:=⟨_,rfl⟩;obtain⟨z5,hz5⟩:∃k:Int,((nn t:Nat):Int)=k:=⟨_,rfl⟩;obtain⟨m5,hm5⟩:∃k,(kids t).length=k:=⟨_,rfl⟩;rw[hk5]at c1 hrd
   rw[hx5]at c2 hrd
   rw[hz5]at c3 hrd
   rw[hm5]at c4 hrd
   have HC:=hidE (λ(W:World) (hW:Below w.heap.size w W)=>zmJ t S _ W (hrd.keep (S':=S) (w':=W) (λ_ h=>h) (λg hg=>hW.block g (HS.out g hg))) (λg hg=>by have:=HS.out g hg;have:=hW.size;omega) hnt (by omega) (HT.out.below hW));have HX:=hidE (HD.out x hx);obtain⟨PS,hPS⟩:∃PS:ByteArray,(⟨(dec m++za5 (l.take i)).toArray⟩:ByteArray)=PS:=⟨_,rfl⟩;obtain⟨PX,hPX⟩:∃PX:ByteArray,(⟨(dec x).toArray⟩:ByteArray)=PX:=⟨_,rfl⟩;obtain⟨PC,hPC⟩:∃PC:ByteArray,(⟨t.canonT.print.toArray⟩:ByteArray)=PC:=⟨_,rfl⟩;have hPSs:PS.size<=50000000000:=by
    rw[<-hPS];show((dec m++za5 (l.take i)).toArray).size<=_
    rw[List.size_toArray,List.length_append]
    have:min i l.length<=1000:=by omega
    omega
   have hPXs:PX.size<=24:=by rw[<-hPX];show(dec x).toArray.size<=_;rw[List.size_toArray];omega
   have hPCs:PC.size<=50000000:=by rw[<-hPC];show t.canonT.print.toArray.size<=_;rw[List.size_toArray];omega
   have SOF:Hid (∀W:World,Below w.heap.size w W->(λW:World=>W.cell? ⟨g,i*5,none⟩=some (.int .i64 (x:Nat))/\W.cell? ⟨g,i*5+1,none⟩=some (.int .i64 k5)/\W.cell? ⟨g,i*5+2,none⟩=some (.string x5)/\W.cell? ⟨g,i*5+3,none⟩=some (.int .i64 z5)/\W.cell? ⟨g,i*5+4,none⟩=some (.slice At m5 ct)) W):=hidE λW hW=>by
    have hc:∀j u,w.cell? ⟨g,j,none⟩=some u->W.cell? ⟨g,j,none⟩=some u:=λj u h=>(hW.cell (p:=⟨g,j,none⟩) hg).trans h;exact⟨hc _ _ c0,hc _ _ c1,hc _ _ c2,hc _ _ c3,hc _ _ c4⟩
   have HNX:Hid ((⟨(dec m++za5 (l.take (i+1))).toArray⟩:ByteArray)=(((PS++⟨#[59]⟩)++PX)++⟨#[61]⟩)++PC):=hidE (by
    rw[hsn,<-hPS,<-hPX,<-hPC]
    simp[ByteArray.ext_iff])
   rw[hPC]at HC
   rw[hPX]at HX
   rw[hPS]
   have B0:Hid (Below w.heap.size w wr.drew):=hidE HBW.out.drew;have hb1:¬9223372036854775807<PS.size+1:=by omega
   have hb2:¬9223372036854775807<PS.size+1+PX.size:=by omega
   have hb3:¬9223372036854775807<PS.size+1+PX.size+1:=by omega
   have hb4:¬9223372036854775807<PS.size+1+PX.size+1+PC.size:=by omega
   clear hx hnt hst hsn hlen hcl hcs hdx hrd c0 c1 c2 c3 c4 he ha hk5 hx5 hz5 hm5 hPS hPX hPC hil hg;go_upto_region 5 with fail
   go_region_held3 (λW:World=>W.cell? ⟨g,i*5,none⟩=some (.int .i64 (x:Nat))/\W.cell? ⟨g,i*5+1,none⟩=some (.int .i64 k5)/\W.cell? ⟨g,i*5+2,none⟩=some (.string x5)/\W.cell? ⟨g,i*5+3,none⟩=some (.int .i64 z5)/\W.cell? ⟨g,i*5+4,none⟩=some (.slice At m5 ct)) (first|(with_reducible exact SOF.out _ B0.out))
    ((first
     |((with_reducible refine(HC.out _ B0.out).mono ?_);rintro e w5 ⟨rfl,b5⟩;replace B0:=hidE (B0.out.trans (b5.mono B0.out.size));clear b5)
     |((with_reducible refine(HX.out _).mono ?_);rintro e w5 ⟨rfl,b5⟩;replace B0:=hidE (B0.out.trans (b5.mono B0.out.size));clear b5)))
   all_goals
    go_wp2_with fail
    go_roundg (n-(i+1))
    case measure=>omega
    case rel=>exact⟨i+1,rfl,by go_num,by omega,by rw[HNX.out],B0.out⟩
  ·have hend:l.take i=l:=List.take_of_length_le (by rw[<-HLN.out];omega)
   have HE:=hidE hend;clear hend;go_wp2_with fail
   go_ret
   rw[HE.out]
   exact⟨rfl,HBW.out⟩
set_option maxRecDepth 100000
theorem KnsV.nil(B:Nat)(w:World):KnsV (λ_=>False) B w [] (.slice none 0 0):=⟨[],World.ownsRow_nil _ _ _ _,by rw[KnRow]⟩
theorem UnPost.one {t u:Ty} {o:List UInt8} {w:World} {e:Ending} {w':World}(ho:OneAns t u o)(hn:Nm t/\Nm u)(h:UnPost [(t,u)] w e w'):∃m l T v,e=.returned (.tuple #[v,.int .i64 (m:Nat)])/\KnsV T w.heap.size w' l v/\(∀g,T g->g<w'.heap.size)/\znC l/\m<=100/\o=dec m++za5 l/\Below w.heap.size w w':=by
 obtain⟨f,o1,hf,hb,⟨m,rfl,-,rfl⟩|⟨k,v,l,T,rfl,rfl,hK,hT,hTb⟩⟩:=h
 ·refine⟨m,[],λ_=>False,_,rfl,KnsV.nil _ _,λ_ h=>h.elim,⟨Nat.zero_le _,λe he=>by cases he⟩,by have:=zor f _ _ _ hf;omega,?_,hb⟩
  rw[za5,List.append_nil]
  rcases ho with⟨g,n,h1,rfl⟩|⟨g,k,l,h1,-⟩
  ·have:=zeM hf h1;injection this with e;rw[e]
  ·have:=zeM hf h1;cases this
 ·rcases ho with⟨g,n,h1,-⟩|⟨g,k',l',h1,h2,h3,h4,rfl⟩
  ·have:=zeM hf h1;cases this
  ·have:=zeM hf h1
   injection this with e;subst e;obtain rfl:=hT.uniq h2;refine⟨0,l,T,v,rfl,hK,λg hg=>(hTb g hg).2,⟨by omega,λe he=>?_⟩,by omega,rfl,hb⟩;obtain⟨n,x⟩:=e;obtain⟨a,b,-⟩:=zfU hf hT (λt' u' hm=>by simp at hm;rw[hm.1,hm.2];exact hn) n x he;exact⟨a,b,by have:=h4 _ he;omega⟩
theorem EqsV.shape {B:Nat} {S:Nat->Prop} {w:World} {ts:List (Ty × Ty)} {v1 v2:Value}(h:EqsV B S w ts v1 v2):∃A c,v1=.slice A ts.length c:=by
 obtain⟨vs1,vs2,h1,-⟩:=h;obtain⟨a,q,e⟩:=zao h1;exact⟨a,q,e⟩
theorem zoT(l r:ByteArray)(t u:Ty)(o:List UInt8)(R:ByteArray)(w:World)(ht:Tab w)(hr:zbq [(l,r)]=some [(t,u)])(ho:OneAns t u o)(hR:R=⟨o.toArray⟩)(hl:l.size<=maxLen/\r.size<=maxLen):Calls Tryz.prog 30 #[.string l,.string r] w λe w'=>e=.returned (.string R)/\Below w.heap.size w w':=by
 obtain⟨W1,hW1⟩:∃W,w.alloc (.cells #[.string l,.string r] 70)=W:=⟨_,rfl⟩;have hB1:Below w.heap.size w (w.alloc (.cells #[.string l,.string r] 70)):=(Below.refl _ _).alloc (Nat.le_refl _) _;have hla:LinesAt (w.alloc (.cells #[.string l,.string r] 70)) [(l,r)] (some ⟨w.heap.size,0,none⟩):=by
  intro i p hi;cases i with
  |zero =>
   simp at hi;subst hi;exact⟨⟨w.heap.size,0,none⟩,rfl,by simp,cell_of_row _ _ _ _ _ _ (heap_alloc_new _ _),cell_of_row _ _ _ _ _ _ (heap_alloc_new _ _)⟩
  |succ i=>simp at hi
 rw[hW1]at hB1 hla
 have HRD:=hidE (zoj [(l,r)] _ 1 W1 hla (by intro p hp;simp at hp;rw[hp];exact hl));have B1:=hidE hB1;have HW:=hidE hW1;have HT:=hidE ht;have HR:=hidE hr;have HO:=hidE ho;have HRR:=hidE hR;clear ht hr ho hR hl hla hB1 hW1;go_enter Tryz.func30,Tryz.ntmps30
 go_wp2_with fail
 rw[HW.out]
 refine HRD.out.mono ?_;rintro e w1 ⟨b1,⟨h0,-⟩|⟨ts,v1,v2,S,hts,rfl,hE⟩⟩
 ·rw[HR.out]at h0;cases h0
 rw[HR.out]at hts
 injection hts with hts;subst hts;obtain⟨A,c,rfl⟩:=hE.shape;have hrf:=ziF HR.out;have HS:=hidE (znd hE hrf.2.2 (by simp));have HTN:=hidE (hrf.2.2 t u (by simp));have B2:Hid (Below w.heap.size w w1):=hidE (B1.out.trans (b1.mono B1.out.size));clear b1 hE hrf HRD HW B1;go_wp2_with fail
 refine HS.out.mono ?_;rintro e w2 h2;obtain⟨m,l,T,v,rfl,hK,hTb,hTol,hm,ho,b2⟩:=h2.one HO.out ⟨HTN.out.1,HTN.out.2.1⟩;have B3:Hid (Below w.heap.size w w2):=hidE (B2.out.trans (b2.mono B2.out.size));have HTD:=hidE (zoo m l T _ v w2 (HT.out.below B3.out) hK hTb hTol hm);have HO2:=hidE ho;clear h2 hK hTb hTol ho b2 HS HO B2;go_wp2_with fail
 refine HTD.out.mono ?_;rintro e w3 ⟨rfl,b3⟩;go_wp2_with fail
 go_ret
 rw[HRR.out,HO2.out]
 exact⟨rfl,B3.out.trans (b3.mono B3.out.size)⟩
end Go.Proofs.YtfafilmklhnngaaGreatDoor
namespace Go.Proofs.YtfafilmklhnngaaGreatDoor
open Go.RowKit Lx Tx Go.Maps Go.WideMaps Go.Shelf
set_option maxRecDepth 100000
def zj3(L R:ByteArray):Bool:=decide (L.size<=120)&&decide (R.size<=120)&&match parse L.data.toList,parse R.data.toList with
 |.ok t,.ok u=>decide (cntN t+cntN u<=24)
 |_,_=>false
theorem zlz {L R:ByteArray} {t u:Ty}(hb:zj3 L R=true)(h1:parse L.data.toList=.ok t)(h2:parse R.data.toList=.ok u):zbq [(L,R)]=some [(t,u)]/\L.size<=120/\R.size<=120:=by
 unfold zj3 at hb;rw[h1,h2]at hb
 simp only[Bool.and_eq_true,decide_eq_true_eq]at hb;obtain⟨⟨h3,h4⟩,h5⟩:=hb;refine⟨?_,h3,h4⟩;have:runR [(L,R)]=some ([(t,u)],0+cntN t+cntN u):=by
  unfold runR;rw[List.foldl_cons,List.foldl_nil,zhT (p:=(L,R)) h1 h2 (show ¬120<L.size by omega) (show ¬120<R.size by omega),if_neg (by omega)]
  rfl
 unfold zbq;rw[if_neg (by simp),this]
 rfl
theorem zd1(L R O:ByteArray)(f:Nat)(ns:List Nat)(h:oneG f ns L.data.toList R.data.toList=some O.data.toList)(hn:ns.Pairwise (· < ·))(hb:zj3 L R=true)(w:World)(ht:Tab w):Calls Tryz.prog 30 #[.string L,.string R] w λe w'=>e=.returned (.string O)/\Below w.heap.size w w':=by
 obtain⟨t,u,h1,h2,ho⟩:=znf h hn;obtain⟨h3,h4,h5⟩:=zlz hb h1 h2;exact zoT L R t u _ O w ht h3 ho (by simp) ⟨by unfold maxLen;omega,by unfold maxLen;omega⟩
theorem zh2(w:World)(ht:Tab w):Calls Tryz.prog 12 #[] w λe w'=>e=.returned (.bool true)/\Below w.heap.size w w':=by
 have HT:=hidE ht;have H1:=hidE (λw ht=>zd1 { data:=#[63,49,32,45,62,32,63,50] } { data:=#[73,110,116,32,45,62,32,63,49] } { data:=#[48,59,49,61,73,110,116,59,50,61,73,110,116] } 20 [1,2] (by decide +kernel) (by decide) (by decide +kernel) w ht);have H2:=hidE (λw ht=>zd1 { data:=#[63,50] } { data:=#[63,49] } { data:=#[48,59,50,61,63,49] } 20 [1,2] (by decide +kernel) (by decide) (by decide +kernel) w ht);have H3:=hidE (λw ht=>zd1 { data:=#[63,49] } { data:=#[84,32,63,49] } { data:=#[52,49] } 20 [1] (by decide +kernel) (by decide) (by decide +kernel) w ht);have H4:=hidE (λw ht=>zd1 { data:=#[63,49] } { data:=#[102,111,114,97,108,108,32,97,46,32,97] } { data:=#[52,50] } 20 [1] (by decide +kernel) (by decide) (by decide +kernel) w ht);have H5:=hidE (λw ht=>zd1 { data:=#[97] } { data:=#[98] } { data:=#[52,48] } 20 [] (by decide +kernel) (by decide) (by decide +kernel) w ht);have H6:=hidE (λw ht=>zd1 { data:=#[102,111,114,97,108,108,32,97,46,32,97,32,45,62,32,63,49] } { data:=#[102,111,114,97,108,108,32,98,46,32,98,32,45,62,32,98] } { data:=#[52,51] } 20 [1] (by decide +kernel) (by decide) (by decide +kernel) w ht);have H7:=hidE (λw ht=>zd1 { data:=#[102,111,114,97,108,108,32,97,46,32,63,49,32,45,62,32,97] } { data:=#[102,111,114,97,108,108,32,98,46,32,73,110,116,32,45,62,32,98] } { data:=#[48,59,49,61,73,110,116] } 20 [1] (by decide +kernel) (by decide) (by decide +kernel) w ht);clear ht;go_enter Tryz.func12,Tryz.ntmps12
 go_wp2_with fail
 refine(H1.out _ HT.out).mono ?_;rintro e w1 ⟨rfl,b1⟩;have B1:Hid (Below w.heap.size w w1):=hidE b1;clear b1 H1;go_wp2_with fail
 refine(H2.out _ (HT.out.below B1.out)).mono ?_;rintro e w2 ⟨rfl,b2⟩;have B2:Hid (Below w.heap.size w w2):=hidE (B1.out.trans (b2.mono B1.out.size));clear b2 H2;go_wp2_with fail
 refine(H3.out _ (HT.out.below B2.out)).mono ?_;rintro e w3 ⟨rfl,b3⟩;have B3:Hid (Below w.heap.size w w3):=hidE (B2.out.trans (b3.mono B2.out.size));clear b3 H3;go_wp2_with fail
 refine(H4.out _ (HT.out.below B3.out)).mono ?_;rintro e w4 ⟨rfl,b4⟩;have B4:Hid (Below w.heap.size w w4):=hidE (B3.out.trans (b4.mono B3.out.size));clear b4 H4;go_wp2_with fail
 refine(H5.out _ (HT.out.below B4.out)).mono ?_;rintro e w5 ⟨rfl,b5⟩;have B5:Hid (Below w.heap.size w w5):=hidE (B4.out.trans (b5.mono B4.out.size));clear b5 H5;go_wp2_with fail
 refine(H6.out _ (HT.out.below B5.out)).mono ?_;rintro e w6 ⟨rfl,b6⟩;have B6:Hid (Below w.heap.size w w6):=hidE (B5.out.trans (b6.mono B5.out.size));clear b6 H6;go_wp2_with fail
 refine(H7.out _ (HT.out.below B6.out)).mono ?_;rintro e w7 ⟨rfl,b7⟩;have B7:Hid (Below w.heap.size w w7):=hidE (B6.out.trans (b7.mono B6.out.size));clear b7 H7;go_wp2_with fail
 go_ret
 exact⟨rfl,B7.out⟩
end Go.Proofs.YtfafilmklhnngaaGreatDoor
