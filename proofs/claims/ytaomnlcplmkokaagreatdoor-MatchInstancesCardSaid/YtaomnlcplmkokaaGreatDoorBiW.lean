import Derived.Test.YtaomnlcplmkokaaGreatDoorBiV
import Derived.Deep.CutRange
set_option maxHeartbeats 12800000
namespace Go.Proofs.YtaomnlcplmkokaaGreatDoor
open Go.RowKit Lx Tx
set_option maxRecDepth 100000
theorem zp7 {w w':World} {v:Value} {xs ys:List (List UInt8)}(h:NmV w v xs ys)(hs:w.heap.size<=w'.heap.size)(hk:∀k,k<w.heap.size->w'.heap[k]?=w.heap[k]?):NmV w' v xs ys:=by
 obtain⟨F,T,rfl,h1,h2⟩:=h;exact⟨F,T,rfl,⟨h1.1.keep hs hk,h1.2⟩,⟨h2.1.keep hs hk,h2.2⟩⟩
def zq5(n:Nat):Prop:=∀(t:Ty)(S:Nat->Prop)(v vn vbut:Value)(lc:UInt8)(but xs ys:List (List UInt8))(k:Nat)(w:World),t.size<=n->RdV S w t v->(∀g,S g->g<w.heap.size) ->
 NmV w vn xs ys->RowV w vbut (strV but)->xs.length=ys.length->xs.length+t.size<=1000000->but.length<=1000000->k+t.size*(but.length+2)<=10 ^ 15 ->
 Calls Tryz.prog 37 #[v,vn,.string ⟨#[lc]⟩,vbut,.int .i64 k] w (NPost (numb lc but xs ys t k) w)
theorem zac {w0 w w':World}(h:Below w0.heap.size w0 w)(hb:Below w.heap.size w w'):Below w0.heap.size w0 w':=h.trans (hb.mono h.size)
theorem zkn {w w1:World}(b1:Below (w.alloc (.cells #[.int .i64 0,.string ⟨#[]⟩,.int .i64 0,.slice none 0 0] 29)).drew.heap.size (w.alloc (.cells #[.int .i64 0,.string ⟨#[]⟩,.int .i64 0,.slice none 0 0] 29)).drew w1):Blk w1 w.heap.size 29 #[.int .i64 0,.string ⟨#[]⟩,.int .i64 0,.slice none 0 0]:=Blk.below (w:=(w.alloc (.cells #[.int .i64 0,.string ⟨#[]⟩,.int .i64 0,.slice none 0 0] 29)).drew) (heap_alloc_new _ _) b1 (by simp)
def CutN(wr:World)(b:Nat)(t:Ty)(wx:World):Prop :=
 ∃K X Z A m c,Blk wx b 29 #[.int .i64 K,.string X,.int .i64 Z,.slice A m c]/\wr.heap.size<=b/\RdV (λg=>wr.heap.size<=g/\g<wx.heap.size) wx t (.agg #[.int .i64 K,.string X,.int .i64 Z,.slice A m c])/\Below wr.heap.size wr wx
theorem zko {wr w0 w1:World} {t:Ty} {K Z:Int} {X:ByteArray} {A:Option Addr} {m c:Nat}(h0:Below wr.heap.size wr w0)(hb:Below wr.heap.size wr w1)(hr:RdV (λg=>w0.heap.size<=g/\g<w1.heap.size) w1 t (.agg #[.int .i64 K,.string X,.int .i64 Z,.slice A m c])):CutN wr w1.heap.size t (w1.alloc (.cells #[.int .i64 K,.string X,.int .i64 Z,.slice A m c] 29)) :=
 ⟨K,X,Z,A,m,c,heap_alloc_new _ _,hb.size,hr.keep (λg hg=>by have:=h0.size;simp;omega) (λg hg=>Below.heap_alloc _ _ _ hg.2),hb.alloc hb.size _⟩
theorem zp8 {wr w1:World} {t:Ty} {K Z:Int} {X:ByteArray} {A:Option Addr} {m c:Nat}(hb:Below wr.heap.size wr w1)(hz:Blk w1 wr.heap.size 29 #[.int .i64 0,.string ⟨#[]⟩,.int .i64 0,.slice none 0 0])
  (hr:RdV (λg=>(wr.alloc (.cells #[.int .i64 0,.string ⟨#[]⟩,.int .i64 0,.slice none 0 0] 29)).drew.heap.size<=g/\g<w1.heap.size) w1 t (.agg #[.int .i64 K,.string X,.int .i64 Z,.slice A m c])):CutN wr wr.heap.size t ((((w1.setCell ⟨wr.heap.size,0,none⟩ (.int .i64 K)).setCell ⟨wr.heap.size,1,none⟩ (.string X)).setCell ⟨wr.heap.size,2,none⟩ (.int .i64 Z)).setCell ⟨wr.heap.size,3,none⟩ (.slice A m c)) :=
 ⟨K,X,Z,A,m,c,zad _ _ _ _ hz,Nat.le_refl _,hr.keep (λg hg=>by simp at hg ⊢;omega) (λg hg=>zaj _ _ _ _ _ _ _ (by simp at hg;omega)),zaf hb _ _ _ _ (Nat.le_refl _)⟩
def HeadNumb(t:Ty)(lc:UInt8)(but xs ys:List (List UInt8))(k0 m B b12:Nat)(K:Int)(X:ByteArray)(Z:Int)(w W0:World)(gg:Nat)(vk vi:Value)(wr:World):Prop :=
 ∃i kk done v',gg=m-i/\vk=.int .i64 (kk:Nat)/\vi=.int .i64 (i:Nat)/\i<=m/\Hid (zat lc but xs ys ((kids t).take i) k0=(done,kk))/\done.length=i/\Built (λ_=>False) B 29 wr done v' /\
  Blk wr b12 29 #[.int .i64 K,.string X,.int .i64 Z,v']/\B<=wr.heap.size/\(∀g,g<B->g≠b12->wr.heap[g]?=W0.heap[g]?)/\Below w.heap.size w wr
theorem zgG(lc:UInt8)(but xs ys:List (List UInt8))(t u:Ty)(i k0 kk:Nat)(done:List Ty)(hu:(kids t)[i]?=some u)(h:Hid (zat lc but xs ys ((kids t).take i) k0=(done,kk)))(hk:k0+zab (kids t)*(but.length+2)<=10 ^ 15):kk+u.size*(but.length+2)<=10 ^ 15:=by
 have h1:=zg4 lc but ((kids t).take i) xs ys k0;rw[h.out]at h1
 obtain⟨hil,hul⟩:=List.getElem?_eq_some_iff.1 hu;have h2:=zdO (kids t) i;have h3:u.size<=zab ((kids t).drop i):=by
  rw[List.drop_eq_getElem_cons hil,zab,hul];omega
 have h5:(zab ((kids t).take i)+u.size)*(but.length+2)<=zab (kids t)*(but.length+2):=Nat.mul_le_mul_right _ (by omega);rw[Nat.add_mul]at h5
 simp only at h1;omega
def isAll:Ty->Bool
 |.all _ _=>true
 |_=>false
def bxs(t:Ty)(xs:List Name):List Name:=match t with|.all x _=>x::xs|_=>xs
def bys(lc:UInt8)(but:List Name)(t:Ty)(ys:List Name)(k:Nat):List Name:=match t with|.all _ _=>nm lc (zal lc but k)::ys|_=>ys
def bkk(lc:UInt8)(but:List Name)(t:Ty)(k:Nat):Nat:=match t with|.all _ _=>zal lc but k+1|_=>k
def bnm(lc:UInt8)(but:List Name)(t:Ty)(k:Nat):ByteArray:=match t with|.all _ _=>⟨(nm lc (zal lc but k)).toArray⟩|t=>nmB t
theorem zoh(c:UInt8)(but xs ys:List Name)(t:Ty)(k:Nat)(h1:∀x,t≠.var x):(numb c but xs ys t k).2=(zat c but (bxs t xs) (bys c but t ys k) (kids t) (bkk c but t k)).2/\kd (numb c but xs ys t k).1=kd t/\nmB (numb c but xs ys t k).1=bnm c but t k/\nn (numb c but xs ys t k).1=nn t /\
   kids (numb c but xs ys t k).1=(zat c but (bxs t xs) (bys c but t ys k) (kids t) (bkk c but t k)).1:=by
 cases t with
 |var x=>exact absurd rfl (h1 x)
 |all x u=>rw[numb,kids,zat,zat];exact⟨rfl,rfl,rfl,rfl,rfl⟩
 |mt n=>rw[numb,kids,zat];exact⟨rfl,rfl,rfl,rfl,rfl⟩
 |con d l=>rw[numb,kids];exact⟨rfl,rfl,rfl,rfl,rfl⟩
 |fn a b=>rw[numb,kids,zat,zat,zat];exact⟨rfl,rfl,rfl,rfl,rfl⟩
theorem zoi(lc:UInt8)(but:List Name)(t:Ty)(k:Nat)(h:k+t.size*(but.length+2)<=10 ^ 15):bkk lc but t k+zab (kids t)*(but.length+2)<=10 ^ 15:=by
 rw[zak,Nat.add_mul]at h
 cases t with
 |all x u =>
  have:=(zfB lc but (but.length+1) k).2;show zbm lc but (but.length+1) k+1+_<=_;omega
 |var x=>show k+_<=_;omega
 |mt n=>show k+_<=_;omega
 |con d l=>show k+_<=_;omega
 |fn a b=>show k+_<=_;omega
theorem zrv(t:Ty)(xs:List Name):(bxs t xs).length<=xs.length+1:=by
 cases t <;> simp[bxs]
theorem bxys(lc:UInt8)(but:List Name)(t:Ty)(xs ys:List Name)(k:Nat)(h:xs.length=ys.length):(bxs t xs).length=(bys lc but t ys k).length:=by
 cases t <;> simp[bxs,bys,h]
theorem zkp(lc:UInt8)(but:List Name)(t:Ty)(xs ys:List Name)(k:Nat)(h:isAll t=false):bxs t xs=xs/\bys lc but t ys k=ys/\bkk lc but t k=k/\bnm lc but t k=nmB t:=by
 cases t with
 |all x u=>cases h
 |var x=>exact⟨rfl,rfl,rfl,rfl⟩
 |mt n=>exact⟨rfl,rfl,rfl,rfl⟩
 |con d l=>exact⟨rfl,rfl,rfl,rfl⟩
 |fn a b=>exact⟨rfl,rfl,rfl,rfl⟩
theorem zf2 {t:Ty}(h:isAll t=true):∃x u,t=.all x u:=by
 cases t with
 |all x u=>exact⟨x,u,rfl⟩
 |var x=>cases h
 |mt n=>cases h
 |con d l=>cases h
 |fn a b=>cases h
theorem zdt {x:Name} {t:Ty} {k b:Nat}(h:k+(Ty.all x t).size*(b+2)<=10 ^ 15):k+b+2<=10 ^ 15:=by
 rw[Ty.size,Nat.add_mul]at h
 omega
theorem zdu(vbut:Value)(but:List (List UInt8))(lc:UInt8)(j:Nat)(w:World)(h:RowV w vbut (strV but))(hl:but.length<=1000000):Calls Tryz.prog 24 #[vbut,.string (({ data:=#[lc] } : ByteArray)++{ data:=(dec j).toArray })] w λe w'=>e=.returned (.bool (decide (nm lc j∈but)))/\w=w':=by
 have:=zdc vbut but (({ data:=#[lc] } : ByteArray)++{ data:=(dec j).toArray }) w h hl;have e:(({ data:=#[lc] } : ByteArray)++{ data:=(dec j).toArray }).data.toList=nm lc j:=by simp[nm]
 rwa [e]at this
theorem zdK {w:World} {g:Nat} {t:TypeId} {a0 a1:Value}(h:Blk w g t #[a0,a1]):w.cell? ⟨g,0,none⟩=some a0/\w.cell? ⟨g,1,none⟩=some a1/\w.frozen? ⟨g,0,none⟩=false/\w.frozen? ⟨g,1,none⟩=false/\g<w.heap.size :=
 ⟨h.cell 0,h.cell 1,h.frozen 0,h.frozen 1,h.lt⟩
theorem zbt(w:World)(g:Nat)(o:Nat)(u:Value)(p:Addr)(h:p.block≠g):(w.setCell ⟨g,o,none⟩ u).cell? p=w.cell? p:=World.cell?_of_block (w:=w) (Below.heap_setCell w ⟨g,o,none⟩ u p.block h)
def Snoc(W1 wx:World)(b:Nat)(C:Value->Array Value)(l:List Name):Prop :=
 ∃A n c,Blk wx b 76 (C (.slice A n c))/\RowN wx (.slice A n c) (strV l)/\(∀W:World,wx.heap.size<=W.heap.size->(∀g,W1.heap.size<=g->g<wx.heap.size->W.heap[g]?=wx.heap[g]?)->RowN W (.slice A n c) (strV l))/\W1.heap.size<=wx.heap.size/\(∀g,g<W1.heap.size->g≠b->wx.heap[g]?=W1.heap[g]?)/\Below b W1 wx
theorem zgn {W1 w2:World} {b n n' c:Nat} {A:Option Addr} {e:TypeId} {ys:List Value} {C:Value->Array Value}(l:List Name)(x:Name)(X:ByteArray)(o:Nat)(hb:b<W1.heap.size)(B2:Below W1.heap.size W1 w2)(hown:w2.ownsRow W1.heap.size e 1 (.slice A n c) n' ys)
  (hX:(⟨x.toArray⟩:ByteArray)=X)(hxs:ys=strV l++[.string X])(hset:Blk (w2.setCell ⟨b,o,none⟩ (.slice A n c)) b 76 (C (.slice A n c))):Snoc W1 (w2.setCell ⟨b,o,none⟩ (.slice A n c)) b C (l++[x]):=by
 have hlt:=hown.lt;have ho:=ownsRow_setCell_other (a:=⟨b,o,none⟩) hown (λe=>by have:=hlt b e;omega) (.slice A n c);have hr:=zdy l x X ho hX hxs;refine⟨A,n,c,hset,hr,λW hs hk=>?_,by have:=B2.size;simpa using this,λg hg hne=>by rw[Below.heap_setCell _ _ _ _ hne];exact B2.block g hg,(B2.mono (Nat.le_of_lt hb)).setCell (p:=⟨b,o,none⟩) (Nat.le_refl _) _⟩;obtain⟨A',c',hv,hc⟩:=hr.1;refine⟨⟨A',c',hv,λh0=>?_⟩,hr.2⟩;obtain⟨g,hA,hg,hcc⟩:=hc h0;have hge:W1.heap.size<=g:=by
  have h1:(Value.slice A n c).ownBlock=some g:=by
   rw[hv,hA]
   rfl
  exact(ho.lt g h1).1
 exact⟨g,hA,by omega,λj u hu=>by rw[World.cell?_of_block (w:=w2.setCell ⟨b,o,none⟩ (.slice A n c)) (hk g hge hg)];exact hcc j u hu⟩
def Mid(lc:UInt8)(but xs ys:List (List UInt8))(t:Ty)(k0 m:Nat)(K:Int)(Z:Int)(A:Option Addr)(c:Nat)(w wx:World):Prop :=
 ∃A0 n0 c0 AT nT cT,Blk wx (w.heap.size+4) 76 #[.slice A0 n0 c0,.slice AT nT cT]/\(∀W:World,wx.heap.size<=W.heap.size->(∀g,g<wx.heap.size->g≠w.heap.size+3->W.heap[g]?=wx.heap[g]?)->NmV W (.agg #[.slice A0 n0 c0,.slice AT nT cT]) (bxs t xs) (bys lc but t ys k0)) /\
  Blk wx (w.heap.size+3) 29 #[.int .i64 K,.string (bnm lc but t k0),.int .i64 Z,.slice none 0 0]/\Blk wx (w.heap.size+2) 29 #[.int .i64 0,.string ⟨#[]⟩,.int .i64 0,.slice none 0 0] /\
  wx.cell? ⟨w.heap.size,3,none⟩=some (.slice A m c)/\w.heap.size+4<wx.heap.size/\Below w.heap.size w wx
set_option maxRecDepth 2000 in
theorem zcp(n:Nat)(IH:zq5 n)(t:Ty)(S:Nat->Prop)(K:Int)(X:ByteArray)(Z:Int)(A:Option Addr)(m c:Nat)(vn vbut:Value)(lc:UInt8)(but xs ys:List (List UInt8))(k0:Nat)(w:World)(hn:t.size<=n+1)
  (h1:∀x,t≠.var x)(hK:K=(kd t:Nat))(hX:X=nmB t)(hZ:Z=(nn t:Nat))(d1:((K:Int)==1)=false)(q:Bool)(hq:isAll t=q)(d5:((K:Int)==5)=q)(hm:(kids t).length=m)(ha:Args S w t A)(hS:∀g,S g->g<w.heap.size)
  (hnv:NmV w vn xs ys)(hbut:RowV w vbut (strV but))(hxy:xs.length=ys.length)(hxl:xs.length+t.size<=1000000)(hbl:but.length<=1000000)(hk0:k0+t.size*(but.length+2)<=10 ^ 15):Calls Tryz.prog 37 #[.agg #[.int .i64 K,.string X,.int .i64 Z,.slice A m c],vn,.string ⟨#[lc]⟩,vbut,.int .i64 k0] w (NPost (numb lc but xs ys t k0) w):=by
 obtain⟨F0,T0,rfl,hF,hT⟩:=hnv;obtain⟨O,hO⟩:∃O,numb lc but xs ys t k0=O:=⟨_,rfl⟩;have hsome:=zoh lc but xs ys t k0 h1;rw[hO]at hsome ⊢
 obtain⟨q1,q2,q3,q4,q5⟩:=hsome;have hXt:=hX;rw[<-q2]at hK
 rw[<-q4]at hZ
 have HK:=hidE hK;have HX:=hidE hXt;have HZ:=hidE hZ;have HQ1:=hidE q1;have HQ3:=hidE q3;have HQ5:=hidE q5;have HM:=hidE hm;have HA:=hidE ha;have HIH:=hidE IH;have HS:=hidE hS;have HN:=hidE hn;have HQ:=hidE hq;have HFT:Hid (NmV w (.agg #[F0,T0]) xs ys):=hidE ⟨F0,T0,rfl,hF,hT⟩;obtain⟨A0,n0,c0,rfl⟩:∃A n c,F0=.slice A n c:=by obtain⟨⟨A,c,h,_⟩,_⟩:=hF;exact⟨A,_,c,h⟩
 obtain⟨AT,nT,cT,rfl⟩:∃A n c,T0=.slice A n c:=by obtain⟨⟨A,c,h,_⟩,_⟩:=hT;exact⟨A,_,c,h⟩
 have HF:=hidE hF;have HT:=hidE hT;have HBUT:=hidE hbut;have HXY:=hidE hxy;have HXL:=hidE hxl;have HBL:=hidE hbl;have HK0:=hidE hk0;have hm6:m<=1000000:=by have:=zaW t;omega
 clear hO q1 q2 q3 q4 q5 hm ha IH hS hn hbut hxy hxl hbl hk0 hF hT hK hX hXt hZ h1 hq;go_enter Tryz.func37,Tryz.ntmps37
 go_upto_if 58 with fail
 obtain⟨W0,hW⟩:∃W:World,(((((w.alloc (.cells #[.int .i64 K,.string X,.int .i64 Z,.slice A m c] 29)).alloc (.cells #[.slice A0 n0 c0,.slice AT nT cT] 76)).alloc (.cells #[.int .i64 0,.string ⟨#[]⟩,.int .i64 0,.slice none 0 0] 29)).alloc (.cells #[.int .i64 K,.string X,.int .i64 Z,.slice none 0 0] 29)).alloc (.cells #[.slice A0 n0 c0,.slice AT nT cT] 76))=W:=⟨_,rfl⟩;have k5:Blk W0 w.heap.size 29 #[.int .i64 K,.string X,.int .i64 Z,.slice A m c]:=hW▸zae _ _ _ _ (zae _ _ _ _ (zae _ _ _ _ (zae _ _ _ _ (heap_alloc_new _ _))));have k6:Blk W0 (w.heap.size+1) 76 #[.slice A0 n0 c0,.slice AT nT cT]:=hW▸zae _ _ _ _ (zae _ _ _ _ (zae _ _ _ _ (alloc_at _ _ _ (by simp))));have k10:Blk W0 (w.heap.size+2) 29 #[.int .i64 0,.string ⟨#[]⟩,.int .i64 0,.slice none 0 0]:=hW▸zae _ _ _ _ (zae _ _ _ _ (alloc_at _ _ _ (by simp)));have k12:Blk W0 (w.heap.size+3) 29 #[.int .i64 K,.string X,.int .i64 Z,.slice none 0 0]:=hW▸zae _ _ _ _ (alloc_at _ _ _ (by simp));have k14:Blk W0 (w.heap.size+4) 76 #[.slice A0 n0 c0,.slice AT nT cT]:=hW▸alloc_at _ _ _ (by simp);have kb:Below w.heap.size w W0:=hW▸(((((Below.refl _ w).alloc (Nat.le_refl _) _).alloc (by simp) _).alloc (by simp;omega) _).alloc (by simp;omega) _).alloc (by simp;omega) _;have HSZ:Hid (w.heap.size+4<W0.heap.size):=hidE (by rw[<-hW];simp);have hA3:W0.cell? ⟨w.heap.size,3,none⟩=some (.slice A m c):=k5.cell 3;have K5:=hidE k5;have K6:=hidE k6;have K10:=hidE k10;have K12:=hidE k12;have K14:=hidE k14;have KB:=hidE kb;rw[hW]
 clear k5 k6 k10 k12 k14 kb hW;go_cut [4] from 59 to 98 (λs4 wx=>s4=.int .i64 (bkk lc but t k0:Nat)/\Hid (Mid lc but xs ys t k0 m K Z A c w wx))
 case first =>
  cases q with
  |false =>
   go_wp2_with fail
   go_meet
   case rel =>
    obtain⟨e1,e2,e3,e4⟩:=zkp lc but t xs ys k0 HQ.out;refine⟨by rw[e3],hidE ⟨A0,n0,c0,AT,nT,cT,K14.out,?_,?_,K10.out,hA3,HSZ.out,KB.out⟩⟩
    ·intro W hs hk
     rw[e1,e2]
     exact zp7 HFT.out (Nat.le_trans KB.out.size hs) (λg hg=>(hk g (Nat.lt_of_lt_of_le hg KB.out.size) (by omega)).trans (KB.out.block g hg))
    ·rw[e4,<-HX.out];exact K12.out
  |true =>
   obtain⟨x,t0,rfl⟩:=zf2 HQ.out;obtain⟨N,hN⟩:∃N,zal lc but k0=N:=⟨_,rfl⟩;have hN1:k0<=N/\N<=k0+but.length:=by have:=zaw lc but k0 (by have:=zdt HK0.out;omega);omega
   have hb15:k0+but.length+2<=10 ^ 15:=zdt HK0.out;have hcat:∀j,j<=N->¬9223372036854775807<1+(dec j).length:=λj hj=>by have:=zbK 20 20 j (by omega) (by omega);have h:(dec j).length<=20:=this;omega
   have HCAT:=hidE hcat;have hc0:=hcat k0 hN1.1;have HNN:=hidE hN;clear hcat;go_wp2_with fail
   refine(zbo k0 W0 (by omega)).mono ?_;rintro e w1 ⟨rfl,b1⟩;have B1:=hidE b1;clear b1;go_wp2_with fail
   refine(zdu vbut but lc k0 w1 (HBUT.out.below (zac KB.out B1.out)) HBL.out).mono ?_;rintro e w2 ⟨rfl,rfl⟩;go_wp2_with fail
   go_loopg [4,15] (N-k0) (λgg vk vi wr=>∃j:Nat,gg=N-j/\vk=.int .i64 (j:Nat)/\vi=.bool (decide (nm lc j∈but))/\k0<=j/\j<=N/\Hid (zbm lc but (but.length+1-(j-k0)) j=N)/\Hid (Below W0.heap.size W0 wr))
   case atStart=>exact⟨k0,rfl,rfl,rfl,Nat.le_refl _,hN1.1,hidE (by rw[Nat.sub_self];exact hN),B1⟩
   case round =>
    obtain⟨j,rfl,rfl,rfl,hkj,hjN,hf,hb⟩:=hrel;by_cases hin:nm lc j∈but
    ·rw[decide_eq_true hin]
     have hne:j≠N:=λe=>by
      have:=(zaw lc but k0 (by omega)).1;rw[HNN.out,<-e]at this
      exact this hin
     have hc1:=HCAT.out (j+1) (by omega);have hf2:=hidE (zeb lc but _ j _ hf.out (by omega) hin);clear hin;go_wp2_with fail
     refine(zbo (j+1) wr (by omega)).mono ?_;rintro e w3 ⟨rfl,b3⟩;have B3:=hidE (zac hb.out b3);clear b3;go_wp2_with fail
     refine(zdu vbut but lc (j+1) w3 (HBUT.out.below (zac KB.out B3.out)) HBL.out).mono ?_;rintro e w4 ⟨rfl,rfl⟩;go_wp2_with fail
     go_roundg (N-(j+1))
     case measure=>omega
     case rel =>
      refine⟨j+1,rfl,by go_num,rfl,by omega,by omega,hidE ?_,B3⟩;rw[show but.length+1-(j+1-k0)=but.length+1-(j-k0)-1 by omega]
      exact hf2.out
    ·rw[decide_eq_false hin]
     have hc1:=HCAT.out j hjN;have hNj:=zdz lc but _ j _ hf.out hin;subst hNj;clear hin hf;go_wp2_with fail
     refine(zbo N wr (by omega)).mono ?_;rintro e w3 ⟨rfl,b3⟩;have hb3:=zac hb.out b3;have k12:=K12.out.below hb3 (by have:=HSZ.out;omega);have HB3:=hidE hb3;have H12:=hidE k12;obtain⟨y0,y1,y2,y3,y4,y5,y6,y7,y8⟩:=zaa k12;clear b3 hb3 k12 hb;go_upto_region 18 with fail
     obtain⟨Y,hY⟩:∃Y:ByteArray,(({ data:=#[lc] } : ByteArray)++{ data:=(dec N).toArray })=Y:=⟨_,rfl⟩;rw[hY]
     obtain⟨W1,hW1⟩:∃W,w3.setCell ⟨w.heap.size+1+1+1,1,none⟩ (.string Y)=W:=⟨_,rfl⟩;have p12:Blk W1 (w.heap.size+3) 29 #[.int .i64 K,.string Y,.int .i64 Z,.slice none 0 0]:=by rw[<-hW1];exact heap_setCell_same _ _ 1 _ _ _ H12.out
     have pg:∀g,g<W0.heap.size->g≠w.heap.size+3->W1.heap[g]?=W0.heap[g]?:=λg h1 h2=>by rw[<-hW1,Below.heap_setCell _ _ _ _ h2];exact HB3.out.block g h1
     have pb:Below w.heap.size w W1:=by rw[<-hW1];exact(zac KB.out HB3.out).setCell (p:=⟨w.heap.size+3,1,none⟩) (by show w.heap.size<=w.heap.size+3;omega) _
     have hws:W0.heap.size<=W1.heap.size:=by rw[<-hW1];have:=HB3.out.size;simpa using this
     have p5:Blk W1 w.heap.size 29 #[.int .i64 K,.string X,.int .i64 Z,.slice A m c]:=(pg _ (by have:=HSZ.out;omega) (by omega)).trans K5.out;have p6:Blk W1 (w.heap.size+1) 76 #[.slice A0 n0 c0,.slice AT nT cT]:=(pg _ (by have:=HSZ.out;omega) (by omega)).trans K6.out;have p10:Blk W1 (w.heap.size+2) 29 #[.int .i64 0,.string ⟨#[]⟩,.int .i64 0,.slice none 0 0]:=(pg _ (by have:=HSZ.out;omega) (by omega)).trans K10.out;have p14:Blk W1 (w.heap.size+4) 76 #[.slice A0 n0 c0,.slice AT nT cT]:=(pg _ (by have:=HSZ.out;omega) (by omega)).trans K14.out;rw[hW1]
     have P12:=hidE p12;have PX:=hidE p5;have P6:=hidE p6;have P10:=hidE p10;have P14:=hidE p14;have PB:=hidE pb;have L14:Hid (w.heap.size+4<W1.heap.size):=hidE (by have:=HSZ.out;omega);have L6:Hid (w.heap.size+1<W1.heap.size):=hidE (by have:=HSZ.out;omega);have LX:Hid (w.heap.size<W1.heap.size):=hidE (by have:=HSZ.out;omega);have l14:=L14.out;have c60:=p6.cell 0;have c61:=p6.cell 1;have c51:=p5.cell 1;have HXE:Hid ((⟨x.toArray⟩:ByteArray)=X):=hidE HX.out.symm;have HYE:Hid ((⟨(nm lc N).toArray⟩:ByteArray)=Y):=hidE (by rw[<-hY];rfl);have HNB:Hid (xs.reverse.length<=1000000):=hidE (by have:=HXL.out;simp;omega);obtain⟨i0,hi0,hz0,hz1,hz2⟩:=info_parts zbi;clear p12 pg pb hws p5 p6 p10 p14 hY hW1 hc0 hc1 H12 HB3 y0 y1 y2 y3 y4 y5 y6 y7 y8;go_upto_region 18 with fail
     go_cut [4] from 81 to 89 (λs4 wx=>s4=.int .i64 ((N:Int)+1)/\Hid (Snoc W1 wx (w.heap.size+4) (λF=>#[F,.slice AT nT cT]) (xs.reverse++[x])))
     case first =>
      by_cases hz:xs.reverse=[]
      ·have hnil:=HF.out.2 (by rw[hz];rfl)
       injection hnil with e1 e2 e3;subst e1 e2 e3;have HZ:=hidE hz;have SOF:Hid (∀W,Below W1.heap.size W1 W->(λW=>W.cell? ⟨w.heap.size+1,0,none⟩=some (.slice none 0 0)/\W.cell? ⟨w.heap.size,1,none⟩=some (.string X)) W):=hidE λW h=>⟨(h.cell (p:=⟨w.heap.size+1,0,none⟩) L6.out).trans (P6.out.cell 0),(h.cell (p:=⟨w.heap.size,1,none⟩) LX.out).trans (PX.out.cell 1)⟩;have SOS:Hid (∀(W:World) (V:Value),Below W1.heap.size W1 W->(λW=>W.cell? ⟨w.heap.size+1,0,none⟩=some (.slice none 0 0)/\W.cell? ⟨w.heap.size,1,none⟩=some (.string X)) (W.setCell ⟨w.heap.size+4,0,none⟩ V)):=hidE λW V h=>⟨(zbt _ _ _ _ _ (by show w.heap.size+1≠w.heap.size+4;omega)).trans (SOF.out _ h).1,(zbt _ _ _ _ _ (by show w.heap.size≠w.heap.size+4;omega)).trans (SOF.out _ h).2⟩;clear hz;try clear hnil
       go_region_held3 (λW=>W.cell? ⟨w.heap.size+1,0,none⟩=some (.slice none 0 0)/\W.cell? ⟨w.heap.size,1,none⟩=some (.string X)) (first|(with_reducible exact SOF.out _ B2.out)|(exact SOS.out _ _ B2.out)|(refine SOF.out _ ?_;repeat first|exact Below.refl _ _|exact B2.out|exact B1.out|(refine Below.alloc ?_ (by first|omega|(simp;done)|(simp;omega)) _)|(refine Below.drew ?_))|go_keep)
        (((refine step_append_lies _ (by rfl) _ _ _ (by rfl) (W1.heap.size) 9 i0 _ 1 16 Tryz.underlying22 hi0 hz0 hz1 hz2 rfl (by omega) _ 0 [] (by rfl) (zba (by first|exact alloc_at _ _ _ (by simp)|exact zae _ _ _ _ (alloc_at _ _ _ (by simp))) (by first|omega|(simp;done)|(simp;omega))) _ 1 1 [.string X] (by rfl) (by rfl) (World.news_of_block (cs:=#[.string X]) (t:=9) (fr:=(0,0)) (by first|exact alloc_at _ _ _ (by simp)|exact zae _ _ _ _ (alloc_at _ _ _ (by simp)))) (by simp[Value.oneCell']) (by omega) (by unfold maxLen;omega) (by omega) (by first|omega|(simp;done)|(simp;omega)) _ rfl ?_);intro gg cap w2 hown1 hgrow hat hlt;have B2:Hid (Below W1.heap.size W1 w2):=hidE (Below.grown (by repeat first|exact Below.refl _ _|exact B1.out|(refine Below.alloc ?_ (by first|omega|(simp;done)|(simp;omega)) _)|(refine Below.drew ?_)) hgrow (by first|omega|(simp;done)|(simp;omega)) (by intro k hk;simp[Value.ownBlock]at hk;omega));have HW2:=hidE hown1;have H14:=hidE (P14.out.below B2.out L14.out);obtain⟨m0,m1,m2,m3,m4⟩:=zdK H14.out;clear hat hown1 hgrow))
       all_goals
        go_wp2_with fail
        go_meet
        case rel=>exact⟨rfl,hidE (zgn xs.reverse x X (C:=(λF=>#[F,.slice AT nT cT])) 0 L14.out B2.out HW2.out HXE.out (by rw[HZ.out];rfl) (heap_setCell_same _ _ 0 _ _ _ H14.out))⟩
      ·have hfv:=HF.out.1
       obtain⟨A',c',he,hcl⟩:=hfv;injection he with e1 e2 e3;subst e1 e3;rw[zaJ]at e2 hcl
       have hk0:0<n0:=by rw[e2];exact List.length_pos_iff.2 hz
       have hk6:n0<=1000000:=by have:=HNB.out;omega
       obtain⟨g0,rfl,hg0,hcells⟩:=hcl (by omega);have HSL:Hid ((strV xs.reverse).length=n0*1):=hidE (by rw[zaJ,Nat.mul_one];exact e2.symm);have HCELLS:Hid (∀W':World,Below W1.heap.size W1 W'->∀j u,(strV xs.reverse)[j]?=some u->W'.cell? ((⟨g0,0,none⟩:Addr).add j)=some u):=hidE λW' hb j u hu=>by
        rw[zaQ,hb.cell (p:=⟨g0,j,none⟩) (Nat.lt_of_lt_of_le hg0 PB.out.size),PB.out.cell (p:=⟨g0,j,none⟩) hg0];exact hcells j u hu
       have SOF:Hid (∀W,Below W1.heap.size W1 W->(λW=>W.cell? ⟨w.heap.size+1,0,none⟩=some (.slice (some ⟨g0,0,none⟩) n0 c0)/\W.cell? ⟨w.heap.size,1,none⟩=some (.string X)) W):=hidE λW h=>⟨(h.cell (p:=⟨w.heap.size+1,0,none⟩) L6.out).trans (P6.out.cell 0),(h.cell (p:=⟨w.heap.size,1,none⟩) LX.out).trans (PX.out.cell 1)⟩;have SOS:Hid (∀(W:World) (V:Value),Below W1.heap.size W1 W->(λW=>W.cell? ⟨w.heap.size+1,0,none⟩=some (.slice (some ⟨g0,0,none⟩) n0 c0)/\W.cell? ⟨w.heap.size,1,none⟩=some (.string X)) (W.setCell ⟨w.heap.size+4,0,none⟩ V)):=hidE λW V h=>⟨(zbt _ _ _ _ _ (by show w.heap.size+1≠w.heap.size+4;omega)).trans (SOF.out _ h).1,(zbt _ _ _ _ _ (by show w.heap.size≠w.heap.size+4;omega)).trans (SOF.out _ h).2⟩;clear hz hcl hcells e2;try clear he
       go_region_held3 (λW=>W.cell? ⟨w.heap.size+1,0,none⟩=some (.slice (some ⟨g0,0,none⟩) n0 c0)/\W.cell? ⟨w.heap.size,1,none⟩=some (.string X)) (first|(with_reducible exact SOF.out _ B2.out)|(exact SOS.out _ _ B2.out)|(refine SOF.out _ ?_;repeat first|exact Below.refl _ _|exact B2.out|exact B1.out|(refine Below.alloc ?_ (by first|omega|(simp;done)|(simp;omega)) _)|(refine Below.drew ?_))|go_keep)
        (first|((refine step_append_lies _ (by rfl) _ _ _ (by rfl) (W1.heap.size) 9 i0 _ 1 16 Tryz.underlying22 hi0 hz0 hz1 hz2 rfl (by omega) _ 0 [] (by rfl) (zba (by first|exact alloc_at _ _ _ (by simp)|exact zae _ _ _ _ (alloc_at _ _ _ (by simp))) (by first|omega|(simp;done)|(simp;omega))) ⟨g0,0,none⟩ n0 c0 (strV xs.reverse) (by rfl) HSL.out (HCELLS.out _ (by repeat first|exact Below.refl _ _|exact B1.out|(refine Below.alloc ?_ (by first|omega|(simp;done)|(simp;omega)) _)|(refine Below.drew ?_))) (zcg xs.reverse) hk0 (by unfold maxLen;omega) (by omega) (by first|omega|(simp;done)|(simp;omega)) _ rfl ?_);intro gg cap w1 hown1 hgrow hat hlt;simp only[Nat.zero_add,List.nil_append]at hown1 ⊢;have B1:Hid (Below W1.heap.size W1 w1):=hidE (Below.grown (by repeat first|exact Below.refl _ _|exact B1.out|(refine Below.alloc ?_ (by first|omega|(simp;done)|(simp;omega)) _)|(refine Below.drew ?_)) hgrow (by first|omega|(simp;done)|(simp;omega)) (by intro k hk;simp[Value.ownBlock]at hk;omega));have HW1:=hidE hown1;have HGE:W1.heap.size<=gg:=(hown1.lt gg rfl).1;first|(have HXB:Hid (w1.heap[W1.heap.size+1]?=some (.cells #[.string X] 9 (0,0))):=hidE ((hgrow.block _ (by first|omega|(simp;done)|(simp;omega)) (by simp[Value.ownBlock])).trans (alloc_at _ _ _ (by simp))))|(have HXB:Hid (w1.heap[W1.heap.size]?=some (.cells #[.string X] 9 (0,0))):=hidE ((hgrow.block _ (by first|omega|(simp;done)|(simp;omega)) (by simp[Value.ownBlock])).trans (zae _ _ _ _ (alloc_at _ _ _ (by simp)))))|skip;clear hat hown1)|((refine step_append_lies _ (by rfl) _ _ _ (by rfl) (W1.heap.size) 9 i0 _ 1 16 Tryz.underlying22 hi0 hz0 hz1 hz2 rfl (by omega) _ n0 (strV xs.reverse) (by rfl) (by first|exact HW1.out|exact HW1.out.alloc _) _ 1 1 [.string X] (by rfl) (by rfl) (World.news_of_block (cs:=#[.string X]) (t:=9) (fr:=(0,0)) (by first|exact HXB.out|exact alloc_at _ _ _ (by simp))) (by simp[Value.oneCell']) (by omega) (by unfold maxLen;omega) (by omega) (by first|omega|(simp;done)|(simp;omega)) _ rfl ?_);intro gg2 cap2 w2 hown2 hgrow2' hat2 hlt2;have hgrow2:World.grownBy _ w2 (some gg):=hgrow2';clear hgrow2';have B2:Hid (Below W1.heap.size W1 w2):=hidE (Below.grown (by repeat first|exact Below.refl _ _|exact B1.out|(refine Below.alloc ?_ (by first|omega|(simp;done)|(simp;omega)) _)|(refine Below.drew ?_)) hgrow2 (by first|omega|(simp;done)|(simp;omega)) (by intro k hk;injection hk with hk;omega));have HW2:=hidE hown2;have H14:=hidE (P14.out.below B2.out L14.out);obtain⟨m0,m1,m2,m3,m4⟩:=zdK H14.out;clear hat2 hown2))
       all_goals
        go_wp2_with fail
        go_meet
        case rel=>exact⟨rfl,hidE (zgn xs.reverse x X (C:=(λF=>#[F,.slice AT nT cT])) 0 L14.out B2.out HW2.out HXE.out rfl (heap_setCell_same _ _ 0 _ _ _ H14.out))⟩
     case rest =>
      rename World=>V1;obtain⟨rfl,hsn⟩:=hcut;have hsn2:=hsn.out;unfold Snoc at hsn2;obtain⟨A2,n2,c2,r14,-,hrk1,hvs,hvk,hvb⟩:=hsn2;have HRK1:=hidE hrk1;have HVK:=hidE hvk;have HVS:=hidE hvs;replace PB:=hidE (PB.out.trans (hvb.mono (Nat.le_add_right _ 4)));replace P12:Hid (Blk V1 (w.heap.size+3) 29 #[.int .i64 K,.string Y,.int .i64 Z,.slice none 0 0]):=hidE ((hvk _ (by have:=L14.out;omega) (by omega)).trans P12.out);replace PX:Hid (Blk V1 w.heap.size 29 #[.int .i64 K,.string X,.int .i64 Z,.slice A m c]):=hidE ((hvk _ (by have:=L14.out;omega) (by omega)).trans PX.out);replace P6:Hid (Blk V1 (w.heap.size+1) 76 #[.slice A0 n0 c0,.slice AT nT cT]):=hidE ((hvk _ (by have:=L14.out;omega) (by omega)).trans P6.out);replace P10:Hid (Blk V1 (w.heap.size+2) 29 #[.int .i64 0,.string ⟨#[]⟩,.int .i64 0,.slice none 0 0]):=hidE ((hvk _ (by have:=L14.out;omega) (by omega)).trans P10.out);replace P14:Hid (Blk V1 (w.heap.size+4) 76 #[.slice A2 n2 c2,.slice AT nT cT]):=hidE r14;have LW:Hid (w.heap.size+4<W1.heap.size):=L14;replace L14:Hid (w.heap.size+4<V1.heap.size):=hidE (by have:=L14.out;omega);have LX3:Hid (w.heap.size+3<V1.heap.size):=hidE (by have:=L14.out;omega);replace L6:Hid (w.heap.size+1<V1.heap.size):=hidE (by have:=L14.out;omega);have lv14:=L14.out;have cv61:V1.cell? ⟨w.heap.size+1,1,none⟩=some (.slice AT nT cT):=P6.out.cell 1;have cv121:V1.cell? ⟨w.heap.size+3,1,none⟩=some (.string Y):=P12.out.cell 1;replace HNB:Hid (ys.reverse.length<=1000000):=hidE (by have:=HXL.out;have:=HXY.out;simp;omega);clear hsn hrk1 hvs hvk hvb r14 c60 c61 c51 l14;go_upto_region 19 with fail
      go_cut [4] from 90 to 98 (λs4 wx=>s4=.int .i64 ((N:Int)+1)/\Hid (Snoc V1 wx (w.heap.size+4) (λF=>#[.slice A2 n2 c2,F]) (ys.reverse++[(nm lc N)])))
      case first =>
       by_cases hz:ys.reverse=[]
       ·have hnil:=HT.out.2 (by rw[hz];rfl)
        injection hnil with e1 e2 e3;subst e1 e2 e3;have HZ:=hidE hz;have SOF:Hid (∀W,Below V1.heap.size V1 W->(λW=>W.cell? ⟨w.heap.size+1,1,none⟩=some (.slice none 0 0)/\W.cell? ⟨w.heap.size+3,1,none⟩=some (.string Y)) W):=hidE λW h=>⟨(h.cell (p:=⟨w.heap.size+1,1,none⟩) L6.out).trans (P6.out.cell 1),(h.cell (p:=⟨w.heap.size+3,1,none⟩) LX3.out).trans (P12.out.cell 1)⟩;have SOS:Hid (∀(W:World) (V:Value),Below V1.heap.size V1 W->(λW=>W.cell? ⟨w.heap.size+1,1,none⟩=some (.slice none 0 0)/\W.cell? ⟨w.heap.size+3,1,none⟩=some (.string Y)) (W.setCell ⟨w.heap.size+4,1,none⟩ V)):=hidE λW V h=>⟨(zbt _ _ _ _ _ (by show w.heap.size+1≠w.heap.size+4;omega)).trans (SOF.out _ h).1,(zbt _ _ _ _ _ (by show w.heap.size+3≠w.heap.size+4;omega)).trans (SOF.out _ h).2⟩;clear hz;try clear hnil
        go_region_held3 (λW=>W.cell? ⟨w.heap.size+1,1,none⟩=some (.slice none 0 0)/\W.cell? ⟨w.heap.size+3,1,none⟩=some (.string Y)) (first|(with_reducible exact SOF.out _ B2.out)|(exact SOS.out _ _ B2.out)|(refine SOF.out _ ?_;repeat first|exact Below.refl _ _|exact B2.out|exact B1.out|(refine Below.alloc ?_ (by first|omega|(simp;done)|(simp;omega)) _)|(refine Below.drew ?_))|go_keep)
         (((refine step_append_lies _ (by rfl) _ _ _ (by rfl) (V1.heap.size) 9 i0 _ 1 16 Tryz.underlying22 hi0 hz0 hz1 hz2 rfl (by omega) _ 0 [] (by rfl) (zba (by first|exact alloc_at _ _ _ (by simp)|exact zae _ _ _ _ (alloc_at _ _ _ (by simp))) (by first|omega|(simp;done)|(simp;omega))) _ 1 1 [.string Y] (by rfl) (by rfl) (World.news_of_block (cs:=#[.string Y]) (t:=9) (fr:=(0,0)) (by first|exact alloc_at _ _ _ (by simp)|exact zae _ _ _ _ (alloc_at _ _ _ (by simp)))) (by simp[Value.oneCell']) (by omega) (by unfold maxLen;omega) (by omega) (by first|omega|(simp;done)|(simp;omega)) _ rfl ?_);intro gg cap w2 hown1 hgrow hat hlt;have B2:Hid (Below V1.heap.size V1 w2):=hidE (Below.grown (by repeat first|exact Below.refl _ _|exact B1.out|(refine Below.alloc ?_ (by first|omega|(simp;done)|(simp;omega)) _)|(refine Below.drew ?_)) hgrow (by first|omega|(simp;done)|(simp;omega)) (by intro k hk;simp[Value.ownBlock]at hk;omega));have HW2:=hidE hown1;have H14:=hidE (P14.out.below B2.out L14.out);obtain⟨m0,m1,m2,m3,m4⟩:=zdK H14.out;clear hat hown1 hgrow))
        all_goals
         go_wp2_with fail
         go_meet
         case rel=>exact⟨rfl,hidE (zgn ys.reverse (nm lc N) Y (C:=(λF=>#[.slice A2 n2 c2,F])) 1 L14.out B2.out HW2.out HYE.out (by rw[HZ.out];rfl) (heap_setCell_same _ _ 1 _ _ _ H14.out))⟩
       ·have hfv:=HT.out.1
        obtain⟨A',c',he,hcl⟩:=hfv;injection he with e1 e2 e3;subst e1 e3;rw[zaJ]at e2 hcl
        have hk0:0<nT:=by rw[e2];exact List.length_pos_iff.2 hz
        have hk6:nT<=1000000:=by have:=HNB.out;omega
        obtain⟨g0,rfl,hg0,hcells⟩:=hcl (by omega);have HSL:Hid ((strV ys.reverse).length=nT*1):=hidE (by rw[zaJ,Nat.mul_one];exact e2.symm);have HCELLS:Hid (∀W':World,Below V1.heap.size V1 W'->∀j u,(strV ys.reverse)[j]?=some u->W'.cell? ((⟨g0,0,none⟩:Addr).add j)=some u):=hidE λW' hb j u hu=>by
         rw[zaQ,hb.cell (p:=⟨g0,j,none⟩) (Nat.lt_of_lt_of_le hg0 PB.out.size),PB.out.cell (p:=⟨g0,j,none⟩) hg0];exact hcells j u hu
        have SOF:Hid (∀W,Below V1.heap.size V1 W->(λW=>W.cell? ⟨w.heap.size+1,1,none⟩=some (.slice (some ⟨g0,0,none⟩) nT cT)/\W.cell? ⟨w.heap.size+3,1,none⟩=some (.string Y)) W):=hidE λW h=>⟨(h.cell (p:=⟨w.heap.size+1,1,none⟩) L6.out).trans (P6.out.cell 1),(h.cell (p:=⟨w.heap.size+3,1,none⟩) LX3.out).trans (P12.out.cell 1)⟩;have SOS:Hid (∀(W:World) (V:Value),Below V1.heap.size V1 W->(λW=>W.cell? ⟨w.heap.size+1,1,none⟩=some (.slice (some ⟨g0,0,none⟩) nT cT)/\W.cell? ⟨w.heap.size+3,1,none⟩=some (.string Y)) (W.setCell ⟨w.heap.size+4,1,none⟩ V)):=hidE λW V h=>⟨(zbt _ _ _ _ _ (by show w.heap.size+1≠w.heap.size+4;omega)).trans (SOF.out _ h).1,(zbt _ _ _ _ _ (by show w.heap.size+3≠w.heap.size+4;omega)).trans (SOF.out _ h).2⟩;clear hz hcl hcells e2;try clear he
        go_region_held3 (λW=>W.cell? ⟨w.heap.size+1,1,none⟩=some (.slice (some ⟨g0,0,none⟩) nT cT)/\W.cell? ⟨w.heap.size+3,1,none⟩=some (.string Y)) (first|(with_reducible exact SOF.out _ B2.out)|(exact SOS.out _ _ B2.out)|(refine SOF.out _ ?_;repeat first|exact Below.refl _ _|exact B2.out|exact B1.out|(refine Below.alloc ?_ (by first|omega|(simp;done)|(simp;omega)) _)|(refine Below.drew ?_))|go_keep)
         (first|((refine step_append_lies _ (by rfl) _ _ _ (by rfl) (V1.heap.size) 9 i0 _ 1 16 Tryz.underlying22 hi0 hz0 hz1 hz2 rfl (by omega) _ 0 [] (by rfl) (zba (by first|exact alloc_at _ _ _ (by simp)|exact zae _ _ _ _ (alloc_at _ _ _ (by simp))) (by first|omega|(simp;done)|(simp;omega))) ⟨g0,0,none⟩ nT cT (strV ys.reverse) (by rfl) HSL.out (HCELLS.out _ (by repeat first|exact Below.refl _ _|exact B1.out|(refine Below.alloc ?_ (by first|omega|(simp;done)|(simp;omega)) _)|(refine Below.drew ?_))) (zcg ys.reverse) hk0 (by unfold maxLen;omega) (by omega) (by first|omega|(simp;done)|(simp;omega)) _ rfl ?_);intro gg cap w1 hown1 hgrow hat hlt;simp only[Nat.zero_add,List.nil_append]at hown1 ⊢;have B1:Hid (Below V1.heap.size V1 w1):=hidE (Below.grown (by repeat first|exact Below.refl _ _|exact B1.out|(refine Below.alloc ?_ (by first|omega|(simp;done)|(simp;omega)) _)|(refine Below.drew ?_)) hgrow (by first|omega|(simp;done)|(simp;omega)) (by intro k hk;simp[Value.ownBlock]at hk;omega));have HW1:=hidE hown1;have HGE:V1.heap.size<=gg:=(hown1.lt gg rfl).1;first|(have HXB:Hid (w1.heap[V1.heap.size+1]?=some (.cells #[.string Y] 9 (0,0))):=hidE ((hgrow.block _ (by first|omega|(simp;done)|(simp;omega)) (by simp[Value.ownBlock])).trans (alloc_at _ _ _ (by simp))))|(have HXB:Hid (w1.heap[V1.heap.size]?=some (.cells #[.string Y] 9 (0,0))):=hidE ((hgrow.block _ (by first|omega|(simp;done)|(simp;omega)) (by simp[Value.ownBlock])).trans (zae _ _ _ _ (alloc_at _ _ _ (by simp)))))|skip;clear hat hown1)|((refine step_append_lies _ (by rfl) _ _ _ (by rfl) (V1.heap.size) 9 i0 _ 1 16 Tryz.underlying22 hi0 hz0 hz1 hz2 rfl (by omega) _ nT (strV ys.reverse) (by rfl) (by first|exact HW1.out|exact HW1.out.alloc _) _ 1 1 [.string Y] (by rfl) (by rfl) (World.news_of_block (cs:=#[.string Y]) (t:=9) (fr:=(0,0)) (by first|exact HXB.out|exact alloc_at _ _ _ (by simp))) (by simp[Value.oneCell']) (by omega) (by unfold maxLen;omega) (by omega) (by first|omega|(simp;done)|(simp;omega)) _ rfl ?_);intro gg2 cap2 w2 hown2 hgrow2' hat2 hlt2;have hgrow2:World.grownBy _ w2 (some gg):=hgrow2';clear hgrow2';have B2:Hid (Below V1.heap.size V1 w2):=hidE (Below.grown (by repeat first|exact Below.refl _ _|exact B1.out|(refine Below.alloc ?_ (by first|omega|(simp;done)|(simp;omega)) _)|(refine Below.drew ?_)) hgrow2 (by first|omega|(simp;done)|(simp;omega)) (by intro k hk;injection hk with hk;omega));have HW2:=hidE hown2;have H14:=hidE (P14.out.below B2.out L14.out);obtain⟨m0,m1,m2,m3,m4⟩:=zdK H14.out;clear hat2 hown2))
        all_goals
         go_wp2_with fail
         go_meet
         case rel=>exact⟨rfl,hidE (zgn ys.reverse (nm lc N) Y (C:=(λF=>#[.slice A2 n2 c2,F])) 1 L14.out B2.out HW2.out HYE.out rfl (heap_setCell_same _ _ 1 _ _ _ H14.out))⟩
      case rest =>
       rename World=>V2;obtain⟨rfl,hsn⟩:=hcut;have hsn2:=hsn.out;unfold Snoc at hsn2;obtain⟨A3,n3,c3,r14,-,hrk2,hvs,hvk,hvb⟩:=hsn2;go_wp2_with fail
       go_meet
       case rel =>
        have hl:=L14.out;refine⟨by rw[<-HNN.out];rfl,hidE ⟨A2,n2,c2,A3,n3,c3,r14,?_,?_,(hvk _ (by omega) (by omega)).trans P10.out,((World.cell?_of_block (w:=V1) (a:=⟨w.heap.size,3,none⟩) (hvk w.heap.size (by omega) (by omega))).trans (PX.out.cell 3)),by omega,PB.out.trans (hvb.mono (Nat.le_add_right _ 4))⟩⟩
        ·intro W hs hk
         refine⟨.slice A2 n2 c2,.slice A3 n3 c3,rfl,?_,?_⟩
         ·show RowN W _ (strV (x::xs).reverse)
          rw[List.reverse_cons]
          exact HRK1.out W (Nat.le_trans hvs hs) (λg h1 h2=>(hk g (Nat.lt_of_lt_of_le h2 hvs) (by have:=LW.out;omega)).trans (hvk g h2 (by have:=LW.out;omega)))
         ·show RowN W _ (strV (nm lc (zal lc but k0)::ys).reverse)
          rw[List.reverse_cons,HNN.out]
          exact hrk2 W hs (λg h1 h2=>hk g h2 (by omega))
        ·show Blk V2 _ _ #[_,.string ⟨(nm lc (zal lc but k0)).toArray⟩,_,_]
         rw[HNN.out,HYE.out]
         exact(hvk _ (by omega) (by omega)).trans P12.out
 case rest =>
  rename World=>V0;obtain⟨rfl,hcx⟩:=hcut;have hbx:=zrv t xs;have hbxy:=bxys lc but t xs ys k0 HXY.out;have hbk:=zoi lc but t k0 HK0.out;have HNM0:=hcx.out;unfold Mid at HNM0;obtain⟨xs1,hxs1⟩:∃l,bxs t xs=l:=⟨_,rfl⟩;obtain⟨ys1,hys1⟩:∃l,bys lc but t ys k0=l:=⟨_,rfl⟩;obtain⟨k1,hk1⟩:∃k,bkk lc but t k0=k:=⟨_,rfl⟩;obtain⟨Y1,hY1⟩:∃Y,bnm lc but t k0=Y:=⟨_,rfl⟩;rw[hxs1,hys1,hk1]at HQ1 HQ5
  rw[hY1]at HQ3
  rw[hxs1,hys1,hY1]at HNM0
  rw[hxs1]at hbx hbxy
  rw[hys1]at hbxy
  rw[hk1]at hbk ⊢
  obtain⟨A0,n0,c0,AT,nT,cT,k14,kft,k12,k10,hA3,hsz,kb⟩:=HNM0;have HXL1:Hid (xs1.length+t.size<=1000001):=hidE (by have:=HXL.out;omega);have HXY1:=hidE hbxy;have HK1:=hidE hbk;have HNM:=hidE kft;have HSZ1:=hidE hsz;have K14':=hidE k14;have K12':=hidE k12;have K10':=hidE k10;have KB':=hidE kb;clear hcx hxs1 hys1 hk1 hY1 hbx hbxy hbk k14 kft k12 k10 kb hsz HXL HXY HK0 HFT HF HT HX HQ K5 K6 K10 K12 K14 KB HSZ;go_wp2_with fail
  have HSZ:=HSZ1;have K12:=K12';have K10:=K10';have K14:=K14';have KB:=KB';clear HSZ1 K12' K10' K14' KB';obtain⟨i0,hi0,hz0,hz1,hz2⟩:=info_parts zeo;go_loopg [4,16] m (λgg vk vi wr=>HeadNumb t lc but xs1 ys1 k1 m (V0.heap.size) (w.heap.size+3) K Y1 Z w V0 gg vk vi wr)
  case atStart=>exact⟨0,k1,[],.slice none 0 0,rfl,rfl,rfl,Nat.zero_le _,hidE (by simp[zat]),rfl,Built.nil _ _ _ _,K12.out,Nat.le_refl _,λ_ _ _=>rfl,KB.out⟩
  case round =>
   obtain⟨i,kk,done,v',rfl,rfl,rfl,hi,hnb,hdl,hbuilt,hb12,hB,hkeep,hbel⟩:=hrel;obtain⟨vs,hown,hrow⟩:=hbuilt;obtain⟨A',c',rfl⟩:=zaz hown;have c3:wr.cell? ⟨w.heap.size,3,none⟩=some (.slice A m c):=(World.cell?_of_block (w:=V0) (a:=⟨w.heap.size,3,none⟩) (hkeep w.heap.size (by have:=HSZ.out;omega) (by omega))).trans hA3;have hb14:Blk wr (w.heap.size+4) 76 #[.slice A0 n0 c0,.slice AT nT cT]:=(hkeep _ (by have:=HSZ.out;omega) (by omega)).trans K14.out;have hb10:Blk wr (w.heap.size+2) 29 #[.int .i64 0,.string ⟨#[]⟩,.int .i64 0,.slice none 0 0]:=(hkeep _ (by have:=HSZ.out;omega) (by omega)).trans K10.out;have HOWN:=hidE hown;have HROW:=hidE hrow;have HB12:=hidE hb12;have HB14:=hidE hb14;have HB10:=hidE hb10;have HKEEP:=hidE hkeep;have HBEL:=hidE hbel;have HB:=hidE hB;have HDL:=hidE hdl;have HLT:=hidE hown.lt;by_cases hlt:i<m
   ·obtain⟨g,u,K1,X1,Z1,A1,n1,c1,rfl,hg,e0,e1,e2,e3,hu,hrd,hsz⟩:=zaP (w':=wr) HA.out HM.out hlt (λg hg=>hbel.block g (HS.out g hg))
    have hgw:g<wr.heap.size:=by have:=hbel.size;have:=HS.out g hg;omega
    have hkb:=zgG lc but xs1 ys1 t u i k1 kk done hu hnb HK1.out;have SOF:Hid (∀W,Below wr.heap.size wr W->(λW=>W.cell? ⟨w.heap.size,3,none⟩=some (.slice (some ⟨g,0,none⟩) m c)/\W.cell? ⟨g,i*4,none⟩=some (.int .i64 K1)/\W.cell? ⟨g,i*4+1,none⟩=some (.string X1)/\W.cell? ⟨g,i*4+2,none⟩=some (.int .i64 Z1)/\W.cell? ⟨g,i*4+3,none⟩=some (.slice A1 n1 c1)/\W.cell? ⟨w.heap.size+4,0,none⟩=some (.slice A0 n0 c0)/\W.cell? ⟨w.heap.size+4,1,none⟩=some (.slice AT nT cT)) W) :=
     hidE λW h=>⟨(h.cell (p:=⟨w.heap.size,3,none⟩) (by have:=HB.out;have:=HSZ.out;show w.heap.size<_;omega)).trans c3,(h.cell (p:=⟨g,i*4,none⟩) hgw).trans e0,(h.cell (p:=⟨g,i*4+1,none⟩) hgw).trans e1,(h.cell (p:=⟨g,i*4+2,none⟩) hgw).trans e2,(h.cell (p:=⟨g,i*4+3,none⟩) hgw).trans e3,
      (h.cell (p:=⟨w.heap.size+4,0,none⟩) (by have:=HB.out;have:=HSZ.out;show w.heap.size+4<_;omega)).trans (HB14.out.cell 0),(h.cell (p:=⟨w.heap.size+4,1,none⟩) (by have:=HB.out;have:=HSZ.out;show w.heap.size+4<_;omega)).trans (HB14.out.cell 1)⟩
    have F1:=hidE (λW (h:Below wr.heap.size wr W)=>HIH.out u S _ (.agg #[.slice A0 n0 c0,.slice AT nT cT]) vbut lc but xs1 ys1 kk W (by have:=HN.out;omega) (hrd.keep (S':=S) (λ_ h=>h) (λg hg=>h.block g (by have:=HS.out g hg;have:=HBEL.out.size;omega))) (λg hg=>by have:=HS.out g hg;have:=HBEL.out.size;have:=h.size;omega)
     (HNM.out W (Nat.le_trans HB.out h.size) (λg hg hne=>(h.block g (Nat.lt_of_lt_of_le hg HB.out)).trans (HKEEP.out g hg hne))) (HBUT.out.below (zac HBEL.out h)) HXY1.out (by have:=HXL1.out;omega) HBL.out hkb)
    obtain⟨o,ho⟩:∃o,numb lc but xs1 ys1 u kk=o:=⟨_,rfl⟩;have hnx:=hidE (zhC lc but xs1 ys1 (kids t) i k1 u done kk hnb hu);rw[ho]at F1 hnx
    have B0:Hid (Below wr.heap.size wr wr.drew):=hidE (Below.refl _ wr).drew;have d0:wr.cell? ⟨w.heap.size+4,0,none⟩=some (.slice A0 n0 c0):=HB14.out.cell 0;have d1:wr.cell? ⟨w.heap.size+4,1,none⟩=some (.slice AT nT cT):=HB14.out.cell 1;clear hnb hkb hrd hu ho hsz hown hrow hbel hb12 hb14 hb10 hkeep hdl;have BA:Hid (Below wr.heap.size wr (wr.alloc (.cells #[.int .i64 0,.string ⟨#[]⟩,.int .i64 0,.slice none 0 0] 29)).drew):=hidE ((Below.refl _ wr).alloc (Nat.le_refl _) _).drew;go_upto_region 23 with fail
    go_cut [17,18] from 99 to 125 (λs17 s18 wx=>s18=.int .i64 (o.2:Nat)/\Hid (∃b,s17=.pointer (some ⟨b,0,none⟩)/\CutN wr b o.1 wx))
    case first =>
     go_region_held3 (λW=>W.cell? ⟨w.heap.size,3,none⟩=some (.slice (some ⟨g,0,none⟩) m c)/\W.cell? ⟨g,i*4,none⟩=some (.int .i64 K1)/\W.cell? ⟨g,i*4+1,none⟩=some (.string X1)/\W.cell? ⟨g,i*4+2,none⟩=some (.int .i64 Z1)/\W.cell? ⟨g,i*4+3,none⟩=some (.slice A1 n1 c1)/\W.cell? ⟨w.heap.size+4,0,none⟩=some (.slice A0 n0 c0)/\W.cell? ⟨w.heap.size+4,1,none⟩=some (.slice AT nT cT)) (first|(with_reducible exact SOF.out _ B0.out)|(with_reducible exact SOF.out _ BA.out)|(with_reducible exact SOF.out _ NB.out)|(with_reducible exact SOF.out _ (NB.out.alloc NB.out.size _))|(with_reducible exact SOF.out _ (zaf NB.out _ _ _ _ (Nat.le_refl _))))
      ((first
       |((with_reducible refine(F1.out _ B0.out).mono ?_);rintro e w1 ⟨b1,K2,X2,Z2,A2,m2,c2,rfl,hr2⟩;have HR:=hidE hr2;have NB:=hidE (zac B0.out b1);clear b1 hr2)
       |((with_reducible refine(F1.out _ BA.out).mono ?_);rintro e w1 ⟨b1,K2,X2,Z2,A2,m2,c2,rfl,hr2⟩;have hz:=zkn b1;obtain⟨y0,y1,y2,y3,y4,y5,y6,y7,y8⟩:=zaa hz;have HZ:=hidE hz;have HR:=hidE hr2;have NB:=hidE (zac BA.out b1);clear b1 hr2 hz)))
     all_goals
      go_wp2_with fail
      go_meet
      case rel=>first|(have hzz:=HZ.out;exact⟨rfl,hidE ⟨_,rfl,zp8 NB.out hzz HR.out⟩⟩)|exact⟨rfl,hidE ⟨_,rfl,zko B0.out NB.out HR.out⟩⟩
    case rest =>
     obtain⟨rfl,hcx⟩:=hcut;have HCX:=hidE hcx.out;obtain⟨b,rfl,K2,X2,Z2,A2,m2,c2,hbk,hble,hr2,hb2⟩:=HCX.out;obtain⟨p0,p1,p2,p3,p4,p5,p6,p7,p8⟩:=zaa hbk;have hx12:=HB12.out.below hb2 (by have:=HB.out;have:=HSZ.out;omega);obtain⟨y0,y1,y2,y3,y4,y5,y6,y7,y8⟩:=zaa hx12;have HX12:=hidE hx12;have HR2:=hidE hr2;have HB2:=hidE hb2;have hown2:=hidE ((own_below HOWN.out hb2).alloc (.cells #[.int .i64 K2,.string X2,.int .i64 Z2,.slice A2 m2 c2] 29));have hdl6:done.length<=1000000:=by have:=HDL.out;omega
     clear hcx HCX hbk hr2 hb2 hx12 SOF F1 B0 BA;go_wp2_with (at_builtin;refine wpList_append_own_at _ rfl (.tmp 121) (.tmp 123) 27 rfl V0.heap.size 29 i0 _ 4 56 Tryz.underlying27 hi0 hz0 hz1 hz2 rfl (by decide) _ done.length vs rfl hown2.out ⟨wc.heap.size,0,none⟩ 1 1 [.int .i64 K2,.string X2,.int .i64 Z2,.slice A2 m2 c2] rfl rfl (zaK _ _ _ _ (by simp)) (by intro u hu;simp at hu;rcases hu with rfl|rfl|rfl|rfl <;> rfl) (by unfold maxLen;omega) (by omega) (by have:=HB2.out.size;have:=HB.out;simp;omega) ?_;intro v2 w3 hown3 hgrow _ hat3;obtain⟨A3,c5,rfl⟩:=zaz hown3;have HO3:=hidE hown3;have HG3:=hidE hgrow;have HT3:=hidE hat3;clear hown3 hgrow hat3;have hc1:=(HX12.out.alloc _).grown HG3.out (λe=>by have:=HLT.out _ e.symm;have:=HSZ.out;omega);obtain⟨x0,x1,x2,x3,z0,z1,z2,z3,hly⟩:=zaa hc1;have HD1:=hidE hc1;clear hc1)
     go_roundg (m-(i+1))
     case measure=>omega
     case rel =>
      have hsz3:=HBEL.out.size;have hsz2:=HB2.out.size;have hszb:=HB.out;have hszv:=HSZ.out;have hb:=Built.next (w:=wr) (w1:=wc) (λ_ h=>h.elim) HB.out HOWN.out HROW.out HB2.out (HR2.out.keep (λ_ h=>.inr h) (λ_ _=>rfl)) ((Below.refl _ wc).alloc (Nat.le_refl _) _) HO3.out HG3.out HT3.out;have hbl:Below w.heap.size w w3:=(((HBEL.out.trans (HB2.out.mono hsz3)).alloc (by omega) _).grown HG3.out (by simp;omega) (λj hj=>by have:=HLT.out _ hj;omega));refine⟨i+1,o.2,done++[o.1],_,rfl,rfl,by go_num,by omega,hnx,by rw[List.length_append,HDL.out];rfl,hb.setCell _ (by show w.heap.size+3<_;omega) (λh=>h),heap_setCell_same _ _ 3 _ _ _ HD1.out,?_,λg hg hne=>?_,hbl.setCell (p:=⟨w.heap.size+3,3,none⟩) (by show w.heap.size<=w.heap.size+3;omega) _⟩
      ·have:=HG3.out.size
       simp at this ⊢;omega
      ·rw[Below.heap_setCell _ _ _ _ hne,HG3.out.block g (by simp;omega) (λe=>by have:=HLT.out g e.symm;omega),Below.heap_alloc _ _ _ (by omega),HB2.out.block g (by omega)]
       exact HKEEP.out g hg hne
   ·have himn:i=m:=by omega
    have hnm:Hid (zat lc but xs1 ys1 (kids t) k1=(done,kk)):=hidE (by
     have:=hnb.out;rwa [List.take_of_length_le (by rw[HM.out];omega)]at this)
    have hq1:O.2=kk:=by rw[HQ1.out,hnm.out]
    have hq5:kids O.1=done:=by rw[HQ5.out,hnm.out]
    have hargs:=Built.args (t:=O.1) (show Built (λ_=>False) V0.heap.size 29 wr (kids O.1) (.slice A' done.length c') from by rw[hq5];exact⟨vs,HOWN.out,HROW.out⟩);have HARG:=hidE hargs.2;have HLEN:=hidE hargs.1;have HQQ:=hidE hq1;obtain⟨y0,y1,y2,y3,y4,y5,y6,y7,y8⟩:=zaa hb12;obtain⟨z0,z1,z2,z3,z4,z5,z6,z7,z8⟩:=zaa hb10;clear hnb hown hrow hbel hb12 hb14 hb10 hkeep hdl hargs hq1 hq5 hnm;go_wp2_with fail
    try simp only[Exit.inBlock,Exit.then]
    refine bodyPost_ret (zah rfl _ _ (w.heap.size+2) 29 _ (0,0) _ rfl (zad _ _ _ _ HB10.out) Tryz.underlying29 rfl (by kernel_rfl)) rfl ?_;refine⟨zaf HBEL.out _ _ _ _ (by omega),K,Y1,Z,A',done.length,c',by rw[HQQ.out];rfl,ziU HK.out HQ3.out.symm HZ.out HLEN.out ?_⟩;refine Args.keep (λg hg=>?_) (λg hg=>zaj _ _ _ _ _ _ _ ?_) _ _ HARG.out
    ·have:=HSZ.out
     rcases hg with hg|hg
     ·exact hg.elim
     ·simp;omega
    ·have:=HSZ.out
     rcases hg with hg|hg
     ·exact hg.elim
     ·omega
end Go.Proofs.YtaomnlcplmkokaaGreatDoor
