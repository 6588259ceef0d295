import Derived.Test.YtfafilmklhnngaaGreatDoorBkAC
import Derived.Test.YtfafilmklhnngaaGreatDoorBkAA
set_option maxHeartbeats 12800000
namespace Go.Proofs.YtfafilmklhnngaaGreatDoor
open Go.RowKit Lx Tx Go.Maps Go.WideMaps Go.Shelf
set_option maxRecDepth 100000
structure NewI (c:UInt8) (lb nb sb mb:Nat) (but:List Name) (k:Nat) (w:World):Prop where
 let_:Blk w lb 9 #[.string ⟨#[c]⟩]
 num:Blk w nb 3 #[.int .i64 (k:Nat)]
 cel:Blk w sb 93 #[.map (some mb)]
 set:MapE mkSet w mb (units but)
theorem NewI.keep {c:UInt8} {lb nb sb mb:Nat} {but:List Name} {k:Nat} {w w':World}(h:NewI c lb nb sb mb but k w)(h0:w'.heap[lb]?=w.heap[lb]?)(h1:w'.heap[nb]?=w.heap[nb]?)(h2:w'.heap[sb]?=w.heap[sb]?)(h3:w'.heap[mb]?=w.heap[mb]?):NewI c lb nb sb mb but k w' :=
 ⟨h.let_.same h0,h.num.same h1,h.cel.same h2,h.set.keep h3⟩
theorem NewI.below {c:UInt8} {lb nb sb mb:Nat} {but:List Name} {k:Nat} {w w':World}(h:NewI c lb nb sb mb but k w)(hb:Below w.heap.size w w'):NewI c lb nb sb mb but k w' :=
 h.keep (hb.block _ h.let_.lt) (hb.block _ h.num.lt) (hb.block _ h.cel.lt) (hb.block _ h.set.lt)
theorem zpd(j:Nat)(h:j<10 ^ 15):(nm 120 j).length<=24:=by
 have:=zbo (Nm.var _ (zkV j h));exact AB (BP (show(nm 120 j).length=(nm 120 j).toArray.size by simp)) this
theorem znO(c:UInt8)(but:List Name)(f j r:Nat)(h:zbs c but f j=r)(hf:1<=f)(hin:nm c j∈but):zbs c but (f-1) (j+1)=r:=by
 obtain⟨f,rfl⟩:∃g,f=g+1:=⟨f-1,by omega⟩;rw[zbs,Aq hin]at h
 exact h
theorem zlT(c:UInt8)(but:List Name)(f j r:Nat)(h:zbs c but f j=r)(hin:nm c j∉but):r=j:=by
 cases f with
 |zero=>exact h.symm
 |succ f=>rw[zbs,Am hin]at h;exact h.symm
def zqh(c:UInt8)(lb nb sb mb:Nat)(but:List Name)(k:Nat)(w0:World)(gg:Nat)(wr:World):Prop :=
 ∃j:Nat,gg=k+but.length+1-j/\k<=j/\zbs c but (but.length+1-(j-k)) j=zau c but k/\j<=zau c but k/\NewI c lb nb sb mb but j wr/\Chg (only nb) w0 wr
theorem zlU(c:UInt8)(lb nb sb mb:Nat)(but:List Name)(k:Nat)(w:World)(h:NewI c lb nb sb mb but k w)(ht:Tab w)(h0:nb≠lb)(h1:nb≠sb)(h2:nb≠mb)(h3:nb≠0)(hk:k+but.length+1<10 ^ 15):Calls Tryz.prog 85 #[.pointer (some ⟨lb,0,none⟩),.pointer (some ⟨nb,0,none⟩),.pointer (some ⟨sb,0,none⟩)] w λe w'=>e=.returned (.string ⟨(nm c (zau c but k)).toArray⟩)/\NewI c lb nb sb mb but (zau c but k+1) w'/\Chg (only nb) w w':=by
 obtain⟨_,gH,fw⟩:=zbl c but k (by omega);have H:=CS h;have HT:=CS ht;have H3:=CS h3;clear h ht h3;go_enter Tryz.func85,Tryz.ntmps85
 go_wp2_with fail
 go_loopg [] (but.length+1) (λgg wr=>zqh c lb nb sb mb but k w gg wr)
 case atStart =>
  exact⟨k,by omega,Ai _,by rw[Nat.sub_self];rfl,gH,H.out,Chg.refl _ _⟩
 case round =>
  obtain⟨j,kY,re,hf,hj,hi,hc⟩:=hrel;obtain⟨z0,z1,z2⟩:=zad hi.let_;obtain⟨x0,x1,x2⟩:=zad hi.num;obtain⟨y0,y1,y2⟩:=zad hi.cel;have HI:=CS hi;have HC:=CS hc;have HF:=CS hf;have hit:=zjO j wr.drew (by omega) ((HT.out.keep (hc.block _ HT.out.lt (by unfold only;exact λe=>H3.out e.symm))).keep rfl);have HIT:=CS hit;have aD:(nm 120 j).length<=24:=zpd j (by omega);have fJ:¬9223372036854775807<1+(dec j).length:=by have:(nm 120 j).length=(dec j).length+1:=rfl;omega
  have jz:Hid (NewI c lb nb sb mb but j wr.drew):=CS (hi.keep rfl rfl rfl rfl);have ck:Hid (∀W:World,NewI c lb nb sb mb but j W->W.cell? ⟨lb,0,none⟩=some (.string ⟨#[c]⟩)/\W.cell? ⟨nb,0,none⟩=some (.int .i64 (j:Nat))):=CS λW h=>⟨h.let_.cell 0,h.num.cell 0⟩;clear hi hc hf hit;go_wp2_with fail
  go_region_held3 (λW=>W.cell? ⟨lb,0,none⟩=some (.string ⟨#[c]⟩)/\W.cell? ⟨nb,0,none⟩=some (.int .i64 (j:Nat))) (first|(with_reducible exact⟨z0,x0⟩)|(with_reducible exact ck.out _ jz.out)|(with_reducible exact ck.out _ gR.out))
   ((first|((with_reducible refine HIT.out.mono ?_);rintro e w1 ⟨rfl,b1⟩;have gR:=CS (jz.out.below b1);have B1:=CS b1;clear b1)))
  have i1:=gR.out;obtain⟨p0,p1,p2⟩:=zad i1.num;obtain⟨q0,q1,q2⟩:=zad i1.cel;clear i1 HIT;obtain⟨X,hX⟩:∃X:ByteArray,(({ data:=#[c] } : ByteArray)++{ data:=(dec j).toArray })=X:=⟨_,rfl⟩;have hXl:X.data.toList=nm c j:=by rw[<-hX];simp[nm]
  have bT:X.size<=maxLen:=by show X.data.size<=maxLen;rw[<-CN,hXl];have:(nm c j).length=(nm 120 j).length:=rfl;unfold maxLen;omega
  have cB:MapE mkSet (w1.setCell ⟨nb,0,none⟩ (.int .i64 ((j:Int)+1))) mb (units but):=gR.out.set.keep (Below.heap_setCell w1 ⟨nb,0,none⟩ _ mb (λe=>h2 e.symm));have aR:=cB.getOk X bT;rw[zef,hXl]at aR
  have rN:=CS hXl;have HJ:Hid (j<10 ^ 15):=CS (by omega);have I2:Hid (NewI c lb nb sb mb but (j+1) (w1.setCell ⟨nb,0,none⟩ (.int .i64 ((j:Int)+1)))):=CS ⟨gR.out.let_.far (p:=⟨nb,0,none⟩) (λe=>h0 e.symm) _,by
   have:=one_setCell (u:=.int .i64 ((j:Int)+1)) gR.out.num;exact this,gR.out.cel.far (p:=⟨nb,0,none⟩) (λe=>h1 e.symm) _,cB⟩
  have C2:Hid (Chg (only nb) w (w1.setCell ⟨nb,0,none⟩ (.int .i64 ((j:Int)+1)))):=CS ((HC.out.drew.below B1.out).setCell (p:=⟨nb,0,none⟩) (.inr rfl) _);clear aD cB hXl;by_cases hin:nm c j∈but
  ·rw[Aq hin]at aR
   replace aR:(Instr.lookup 93 (.map (some mb)) (.string X) true).run Tryz.prog (w1.setCell ⟨nb,0,none⟩ (.int .i64 ((j:Int)+1)))=.ok (.tuple #[.agg #[],.bool true]) (w1.setCell ⟨nb,0,none⟩ (.int .i64 ((j:Int)+1))):=aR;have hf:=HF.out;have uU:j≠k+but.length+1:=by omega
   have af:j≠zau c but k:=λe=>by
    have:=(zbl c but k (by omega)).1;rw[<-e]at this
    exact this hin
   have HF2:=CS (znO c but _ j _ hf (by omega) hin);clear hin hf;go_wp2_with fail
   go_roundg (k+but.length+1-(j+1))
   case measure=>omega
   case rel =>
    refine⟨j+1,rfl,by omega,?_,by omega,⟨I2.out.let_.alloc _,I2.out.num.alloc _,I2.out.cel.alloc _,I2.out.set.keep (Below.heap_alloc _ _ _ I2.out.set.lt)⟩,C2.out.alloc _⟩;rw[show but.length+1-(j+1-k)=but.length+1-(j-k)-1 by omega]
    exact HF2.out
  ·rw[Am hin]at aR
   replace aR:(Instr.lookup 93 (.map (some mb)) (.string X) true).run Tryz.prog (w1.setCell ⟨nb,0,none⟩ (.int .i64 ((j:Int)+1)))=.ok (.tuple #[.agg #[],.bool false]) (w1.setCell ⟨nb,0,none⟩ (.int .i64 ((j:Int)+1))):=aR;have HK:=CS (zlT c but _ j _ HF.out hin);clear hin;go_wp2_with fail
   go_ret
   rw[HK.out]
   refine⟨?_,⟨I2.out.let_.alloc _,I2.out.num.alloc _,I2.out.cel.alloc _,I2.out.set.keep (Below.heap_alloc _ _ _ I2.out.set.lt)⟩,C2.out.alloc _⟩;rw[<-rN.out,<-hX]
   rfl
def newV(lb nb sb:Nat):Value:=.func (.func 85) #[] #[.pointer (some ⟨lb,0,none⟩),.pointer (some ⟨nb,0,none⟩),.pointer (some ⟨sb,0,none⟩)]
theorem zfv(c:UInt8)(X:ByteArray)(hX:X=⟨#[c]⟩)(mb:Nat)(but:List Name)(w:World)(h:MapE mkSet w mb (units but)):Calls Tryz.prog 40 #[.string X,.map (some mb)] w λe w'=>e=.returned (newV w.heap.size (w.heap.size+2) (w.heap.size+1))/\NewI c w.heap.size (w.heap.size+2) (w.heap.size+1) mb but 0 w'/\Below w.heap.size w w':=by
 subst hX;have iI:∀(fn:Fn) (first cap:Array Value) (w:World),(Instr.makeFunc fn first cap).run Tryz.prog w=.ok (.func fn first cap) w:=λ_ _ _ _=>rfl;have H:=CS h;clear h;go_enter Tryz.func40,Tryz.ntmps40
 go_wp2_with fail
 go_ret
 obtain⟨h0,h1,h2,bk,aT⟩:=zcw w (.cells #[.string ⟨#[c]⟩] 9) (.cells #[.map (some mb)] 93) (.cells #[.int .i64 0] 3);exact⟨rfl,⟨h0,h2,h1,H.out.keep (aT.block _ H.out.lt)⟩,aT⟩
def atV(k:Int)(s:ByteArray):Value:=.agg #[.int .i64 k,.string s,.int .i64 0,.slice none 0 0]
theorem zjT {k k':Int} {s s':ByteArray}(h:atV k s=atV k' s'):k=k'/\s=s':=by
 unfold atV at h;injection h with h;have h:=Az Array.toList h;simp only[BB,Value.int.injEq,Value.string.injEq,and_true,true_and]at h;exact h
open Classical in
noncomputable def tyElem (v:Value):Option (DataW Unit × List MemPlace) :=
 if h:∃s:ByteArray,v=atV 1 s then some (.lit (.string h.choose.data.toList),[]) else if v=atV 0 ⟨#[]⟩ then some (.nil,[]) else none
theorem zkJ(s:ByteArray):tyElem (atV 1 s)=some (.lit (.string s.data.toList),[]):=by
 have h:∃s':ByteArray,atV 1 s=atV 1 s':=⟨s,rfl⟩;unfold tyElem;rw[dif_pos h,<-(zjT h.choose_spec).2]
theorem znR:tyElem (atV 0 ⟨#[]⟩)=some (.nil,[]):=by
 unfold tyElem;rw[dif_neg (λ⟨s,h⟩=>by have:=(zjT h).1;omega),Aq rfl]
theorem zkK {x:Value} {v:Name} {ps:List MemPlace}(h:tyElem x=some (.lit (.string v),ps)):x=atV 1 ⟨v.toArray⟩:=by
 unfold tyElem at h;split at h
 ·rename_i hx
  injection h with h;injection h with h _;injection h with h;injection h with h;rw[<-h]
  exact hx.choose_spec
 ·split at h
  ·injection h with h
   injection h with h _;cases h
  ·cases h
theorem zjx {x:Value} {ps:List MemPlace}(h:tyElem x=some (.nil,ps)):x=atV 0 ⟨#[]⟩:=by
 unfold tyElem at h;split at h
 ·injection h with h
  injection h with h _;cases h
 ·split at h
  ·rename_i hx;exact hx
  ·cases h
noncomputable def mkTy:MK Name where
 t:=160
 e:=37
 R:=tyElem
 enc y:=.lit (.string y)
 val y:=atV 1 ⟨y.toArray⟩
 ok _:=True
 z:=atV 0 ⟨#[]⟩
 zd:=.nil
 hT:=Tryz.underlying160
 hz _:=by kernel_rfl
 hR y _:=zkJ _
 hzd:=znR
 inv _ _ _ h:=zkK h
 invz _ _ h:=zjx h
def kO:Option Name->Int
 |none=>0
 |some _=>1
def sO:Option Name->ByteArray
 |none=>⟨#[]⟩
 |some y=>⟨y.toArray⟩
theorem zjU(o:Option Name):mkTy.valO o=.agg #[.int .i64 (kO o),.string (sO o),.int .i64 0,.slice none 0 0]:=by
 cases o <;> rfl
def CovT(w:World)(N mb:Nat)(X:ByteArray)(env:List (Name × Name)):Prop :=
 Blk w N 160 #[.map (some mb)]/\Blk w (N+1) 9 #[.string X]/\Blk w (N+3) 37 #[.int .i64 (kO (look X.data.toList env)),.string (sO (look X.data.toList env)),.int .i64 0,.slice none 0 0]/\Blk w (N+4) 4 #[.bool (look X.data.toList env).isSome]
theorem CovT.keep {w w':World} {N mb:Nat} {X:ByteArray} {env:List (Name × Name)}(h:CovT w N mb X env)(hk:∀k,N<=k->k<=N+4->w'.heap[k]?=w.heap[k]?):CovT w' N mb X env :=
 ⟨h.1.same (hk _ (by omega) (by omega)),h.2.1.same (hk _ (by omega) (by omega)),h.2.2.1.same (hk _ (by omega) (by omega)),h.2.2.2.same (hk _ (by omega) (by omega))⟩
def zlW(N:Nat):Value:=.func (.func 171) #[] #[.pointer (some ⟨N+4,0,none⟩),.pointer (some ⟨N+3,0,none⟩),.pointer (some ⟨N,0,none⟩),.pointer (some ⟨N+1,0,none⟩)]
theorem zqi(w:World)(o0 o1 o2 o3 o4:Obj):(((((w.alloc o0).alloc o1).alloc o2).alloc o3).alloc o4).heap[w.heap.size]?=some o0/\(((((w.alloc o0).alloc o1).alloc o2).alloc o3).alloc o4).heap[w.heap.size+1]?=some o1 /\
  (((((w.alloc o0).alloc o1).alloc o2).alloc o3).alloc o4).heap[w.heap.size+3]?=some o3/\(((((w.alloc o0).alloc o1).alloc o2).alloc o3).alloc o4).heap[w.heap.size+4]?=some o4/\(((((w.alloc o0).alloc o1).alloc o2).alloc o3).alloc o4).heap.size=w.heap.size+5 /\
  Below w.heap.size w (((((w.alloc o0).alloc o1).alloc o2).alloc o3).alloc o4):=by
 obtain⟨h0,h1,h2,h3,hs,hb⟩:=zcU w o0 o1 o2 o3;exact⟨(Below.heap_alloc _ _ _ (by omega)).trans h0,(Below.heap_alloc _ _ _ (by omega)).trans h1,(Below.heap_alloc _ _ _ (by omega)).trans h3,by have:=heap_alloc_new ((((w.alloc o0).alloc o1).alloc o2).alloc o3) o4;rw[hs]at this;exact this,(size_alloc _ _).trans (by omega),hb.alloc (by omega) _⟩
theorem zlX(mb:Nat)(env:List (Name × Name))(X Y:ByteArray)(w:World)(h:MapE mkTy w mb env)(hX:X.size<=maxLen)(hn:env.length<1000000000):Calls Tryz.prog 133 #[.map (some mb),.string X,.agg #[.int .i64 1,.string Y,.int .i64 0,.slice none 0 0]] w λe w'=>e=.returned (zlW w.heap.size)/\CovT w' w.heap.size mb X env/\MapE mkTy w' mb ((X.data.toList,Y.data.toList)::env)/\Chg (only mb) w w':=by
 have ah:=h.lt;have nI:=(zcw w (.cells #[.map (some mb)] 160) (.cells #[.string X] 9) (.cells #[.int .i64 1,.string Y,.int .i64 0,.slice none 0 0] 37)).2.2.2.2;have h1:=h.keep (nI.block _ ah);have bV:=h1.getOk X hX;rw[zjU]at bV
 obtain⟨k,hk⟩:∃k,kO (look X.data.toList env)=k:=⟨_,rfl⟩;obtain⟨s,hs⟩:∃s,sO (look X.data.toList env)=s:=⟨_,rfl⟩;obtain⟨q,hq⟩:∃q,(look X.data.toList env).isSome=q:=⟨_,rfl⟩;unfold CovT;rw[hk,hs,hq]at bV ⊢
 replace bV:(Instr.lookup 160 (.map (some mb)) (.string X) true).run Tryz.prog _=.ok (.tuple #[.agg #[.int .i64 k,.string s,.int .i64 0,.slice none 0 0],.bool q]) _:=bV;obtain⟨l0,l1,l3,l4,ls,lb⟩:=zqi w (.cells #[.map (some mb)] 160) (.cells #[.string X] 9) (.cells #[.int .i64 1,.string Y,.int .i64 0,.slice none 0 0] 37) (.cells #[.int .i64 k,.string s,.int .i64 0,.slice none 0 0] 37) (.cells #[.bool q] 4);have HM:=CS (h.keep (lb.block _ ah));have HX:=CS hX;have HN:=CS hn;have L0:=CS l0;have L1:=CS l1;have L3:=CS l3;have L4:=CS l4;have LS:=CS ls;have LB:=CS lb;have iI:∀(fn:Fn) (first cap:Array Value) (w:World),(Instr.makeFunc fn first cap).run Tryz.prog w=.ok (.func fn first cap) w:=λ_ _ _ _=>rfl;clear h h1 hk hs hq hX hn nI l0 l1 l3 l4 ls lb;go_enter Tryz.func133,Tryz.ntmps133
 go_wp2_with (at_mapUpdate;refine zcT mkTy _ rfl _ _ _ rfl mb env rfl HM.out HN.out X HX.out rfl Y.data.toList trivial rfl ?_;intro w1 aX aY;have dH:=CS aX;have oT:=CS aY;clear aX aY)
 go_ret
 have hk:∀k,k<w.heap.size+5->k≠mb->_:=λk hk af=>oT.out.block k (by rw[LS.out];exact hk) (λe=>af (by injection e));exact⟨rfl,⟨(hk _ (by omega) (by omega)).trans L0.out,(hk _ (by omega) (by omega)).trans L1.out,(hk _ (by omega) (by omega)).trans L3.out,(hk _ (by omega) (by omega)).trans L4.out⟩,dH.out,(Chg.of_below LB.out).grown oT.out (λk hk=>.inr (by injection hk with hk;exact hk.symm))⟩
end Go.Proofs.YtfafilmklhnngaaGreatDoor
namespace Go.Proofs.YtfafilmklhnngaaGreatDoor
open Go.RowKit Lx Tx Go.Maps Go.WideMaps Go.Shelf
set_option maxRecDepth 100000
theorem zjy(N mb:Nat)(env:List (Name × Name))(X:ByteArray)(y:Name)(u:FrameMode)(w:World)(hc:CovT w N mb X env)(h:MapE mkTy w mb ((X.data.toList,y)::env))(eB:Canon (envD mkTy.enc env))(hX:X.size<=maxLen)(hn:env.length<1000000000):CallsD Tryz.prog 171 #[.pointer (some ⟨N+4,0,none⟩),.pointer (some ⟨N+3,0,none⟩),.pointer (some ⟨N,0,none⟩),.pointer (some ⟨N+1,0,none⟩)] u w λe u' w'=>u'=u/\e=.returned (.tuple #[])/\MapE mkTy w' mb env/\Chg (only mb) w w':=by
 obtain⟨h0,h1,h2,h3⟩:=hc;obtain⟨a0,-,l0⟩:=zad h0;obtain⟨a1,-,l1⟩:=zad h1;obtain⟨p0,p1,p2,p3,s0,s1,s2,s3,di⟩:=zaa h2;obtain⟨a3,-,l3⟩:=zad h3;clear h0 h1 h2 h3;have HM:=CS h;have HX:=CS hX;have HN:=CS hn;have HC:=CS eB;cases hl:look X.data.toList env with
 |none =>
  rw[hl]at a3
  replace a3:w.cell? ⟨N+4,0,none⟩=some (.bool false):=a3;have HL:=CS hl;clear h hX hn eB hl p0 p1 p2 p3 s0 s1 s2 s3;go_enter_d Tryz.func171,Tryz.ntmps171
  go_wp2_with (at_delete;refine zft mkTy _ rfl _ _ rfl mb env rfl X y HM.out HL.out HC.out HX.out rfl ?_;intro w1 aX aY)
  go_end0
  exact⟨rfl,aX,(Chg.refl (only mb) w).grown aY (λk hk=>.inr (by injection hk with hk;exact hk.symm))⟩
 |some z =>
  rw[hl]at a3 p0 p1
  replace a3:w.cell? ⟨N+4,0,none⟩=some (.bool true):=a3;replace p0:w.cell? ⟨N+3,0,none⟩=some (.int .i64 1):=p0;replace p1:w.cell? ⟨N+3,1,none⟩=some (.string ⟨z.toArray⟩):=p1;have HL:=CS hl;clear h hX hn eB hl;go_enter_d Tryz.func171,Tryz.ntmps171
  go_wp2_with (at_mapUpdate;refine zfs mkTy _ rfl _ _ _ rfl mb env rfl X y z HM.out HL.out HC.out HN.out HX.out rfl trivial rfl ?_;intro w1 aX aY)
  go_end0
  exact⟨rfl,aX,(Chg.refl (only mb) w).grown aY (λk hk=>.inr (by injection hk with hk;exact hk.symm))⟩
set_option maxRecDepth 100000
theorem zdB {P:Program}(w:World)(g:Nat)(t ty:TypeId)(x:Value)(d:TypeDesc)(hg:Blk w g t #[x])(hu:P.underlying ty=some d)(hd:(match d with|.struct _|.array _ _=>true|_=>false)=false):(loadVar ty ⟨g,0,none⟩).run P w=.ok x w:=by
 have hagg:(isAgg ty).run P w=.ok false w:=by
  unfold isAgg;rw[Sem.run_bind,run_underlying hu w]
  cases d <;> simp_all
 have hc:w.cell? ⟨g,0,none⟩=some x:=hg.cell 0;simp[loadVar,Sem.run_bind,hagg,hc]
theorem zel {P:Program} {fn:Func} {p q:Tmp} {ty ty':TypeId}(h:fn.results=#[.cell p ty,.cell q ty'])(tmps:Array Value)(w:World)(g g':Nat)(t t':TypeId)(x x':Value)(d d':TypeDesc)
  (hp:tmps.getD p undef=.pointer (some ⟨g,0,none⟩))(hq:tmps.getD q undef=.pointer (some ⟨g',0,none⟩))(hg:Blk w g t #[x])(oH:Blk w g' t' #[x'])
  (hu:P.underlying ty=some d)(hd:(match d with|.struct _|.array _ _=>true|_=>false)=false)(my:P.underlying ty'=some d')(iL:(match d' with|.struct _|.array _ _=>true|_=>false)=false):(results fn tmps).run P w=.ok (.tuple #[x,x']) w:=by
 have df:tmps[p]?.getD undef=.pointer (some ⟨g,0,none⟩):=by simpa using hp
 have eV:tmps[q]?.getD undef=.pointer (some ⟨g',0,none⟩):=by simpa using hq
 simp[results,h,df,eV,asAddr,zdB w g t ty x d hg hu hd,zdB w g' t' ty' x' d' oH my iL]
def placesOf(ak:Ty->Bool)(t:Ty):Pl:=thr (plCome ak) plLeave [] t ⟨[],[],0⟩
theorem zl8(kp:Nat)(cp:Array Value)(J:World->Prop)(KJ:Nat->Prop)(ak:Ty->Bool)(hJ:∀w w',J w->(∀g,KJ g->w'.heap[g]?=w.heap[g]?)->J w')(ep:∀args w,(callFunc kp args).run Tryz.prog w=.ok (.enter kp args) w)(HP:IsPl kp cp J ak)
  (t:Ty)(S:Nat->Prop)(v:Value)(w:World)(hj:J w)(nQ:∀g,KJ g->g<w.heap.size)(hv:RdV S w t v)(hS:∀g,S g->g<w.heap.size/\¬KJ g)(az:Nm t)(aD:t.size<=1000000):Calls Tryz.prog 112 #[v,fnV kp cp] w λe w'=>∃A c,e=.returned (.tuple #[.int .i64 ((placesOf ak t).al:Nat),.slice A (placesOf ak t).wi.length c])/\w'.ownsRow w.heap.size 3 1 (.slice A (placesOf ak t).wi.length c) (placesOf ak t).wi.length (intV (placesOf ak t).wi) /\
   (placesOf ak t).al<=2*t.size/\J w'/\Chg KJ w w':=by
 obtain⟨K,X,Z,A,m,cq,rfl,-,-,-,-,-⟩:=hv.parts;have iI:∀(fn:Fn) (first cap:Array Value) (w:World),(Instr.makeFunc fn first cap).run Tryz.prog w=.ok (.func fn first cap) w:=λ_ _ _ _=>rfl;have dY:∀w,(Instr.makeMap 116 none).run Tryz.prog w=.ok (.map (some w.heap.size)) (w.alloc (.map #[] 0)):=λ_=>rfl;obtain⟨W4,iN⟩:∃W,W=(((w.alloc (.cells #[.int .i64 K,.string X,.int .i64 Z,.slice A m cq] 37)).alloc (.cells #[fnV kp cp] 58)).alloc (.cells #[.int .i64 0] 3)).alloc (.cells #[.slice none 0 0] 61):=⟨_,rfl⟩;obtain⟨W7,rF⟩:∃W,W=((W4.alloc (.map #[] 0)).alloc (.cells #[.map (some (w.heap.size+4))] 116)).alloc (.cells #[.slice none 0 0] 61):=⟨_,rfl⟩;obtain⟨l0,l1,l2,l3,ls,lb⟩:=zcU w (.cells #[.int .i64 K,.string X,.int .i64 Z,.slice A m cq] 37) (.cells #[fnV kp cp] 58) (.cells #[.int .i64 0] 3) (.cells #[.slice none 0 0] 61);obtain⟨m0,m1,m2,ms,mb⟩:=zcw W4 (.map #[] 0) (.cells #[.map (some (w.heap.size+4))] 116) (.cells #[.slice none 0 0] 61);rw[<-iN]at l0 l1 l2 l3 ls lb
 rw[<-rF]at m0 m1 m2 ms mb
 rw[ls]at m0 m1 m2 ms mb
 have ef:Below w.heap.size w W7:=lb.trans (mb.mono (by omega));have jS:∀q,q<w.heap.size+4->W7.heap[q]?=W4.heap[q]?:=mb.block;obtain⟨wf1,-,-,-,-⟩:=zlV ak t.size t [] ⟨[],[],0⟩ (Ai _) (λa ha=>absurd ha (by simp));have hT:=zlN t.size 153 154 #[.pointer (some ⟨w.heap.size+1+5,0,none⟩),.pointer (some ⟨w.heap.size+1+2,0,none⟩),.pointer (some ⟨w.heap.size+1+1,0,none⟩),.pointer (some ⟨w.heap.size+1+4,0,none⟩),.pointer (some ⟨w.heap.size+1,0,none⟩)]
  #[.pointer (some ⟨w.heap.size+1+5,0,none⟩),.pointer (some ⟨w.heap.size+1+1,0,none⟩),.pointer (some ⟨w.heap.size+1+2,0,none⟩)] (w.heap.size+1+3) (PlI (w.heap.size+1) kp cp J KJ) plOK (plCome ak) plLeave (PlI.inv _ kp cp J KJ hJ)
  (enters_of Tryz.func153 (by kernel_rfl) rfl) (enters_of Tryz.func154 (by kernel_rfl) rfl) (zjv _ kp cp J KJ ak hJ ep HP) (zjw _ kp cp J KJ hJ)
  0 ⟨[],[],0⟩ (λg=>KJ g\/g=w.heap.size+1\/g=w.heap.size+1+1\/g=w.heap.size+1+2\/g=w.heap.size+1+4\/g=w.heap.size+1+5) [] t S _ W7 (Ai _) aD
  {isp:=(jS _ (by omega)).trans l1
   num:=(jS _ (by omega)).trans l2
   cel:=m1
   nums:=⟨none,0,none,0,⟨m2,World.ownsRow_nil _ _ _ _⟩,⟨(jS _ (by omega)).trans l3,World.ownsRow_nil _ _ _ _⟩,λa h=>(by cases h),λa h=>(by cases h),λa a' h=>(by cases h)⟩
   low:=⟨.inr (.inl rfl),.inr (.inr (.inl rfl)),.inr (.inr (.inr (.inl rfl))),.inr (.inr (.inr (.inr (.inl rfl)))),.inr (.inr (.inr (.inr (.inr rfl))))⟩
   jj:=hJ w _ hj (λg hg=>ef.block g (nQ g hg))
   kj:=λg hg=>⟨.inl hg,by have:=nQ g hg;omega⟩
   all:=λg hg=>by rcases hg with h|h|h|h|h|h;have:=nQ g h;omega;all_goals omega
   len:=⟨Ai _,Ai _,Ai _⟩ }
  (MapE.laid mkInt m0) (λh=>by rcases h with h|h|h|h|h|h;have:=nQ _ h;omega;all_goals omega)
  (hv.keep (λ_ h=>h) (λg hg=>ef.block g (hS g hg).1)) (λg hg=>by
   obtain⟨x1,x2⟩:=hS g hg;refine⟨by omega,λh=>?_,by omega⟩;rcases h with h|h|h|h|h|h
   ·exact x2 h
   all_goals omega) az (by omega) (by simp;omega) wf1
 unfold fnV at hT;have HT:=CS hT;have HB7:=CS ef;have oS:=CS nQ;obtain⟨⟨ar,wi,al⟩,hP⟩:∃P,placesOf ak t=P:=⟨_,rfl⟩;obtain⟨n,hn⟩:∃n,wi.length=n:=⟨_,rfl⟩;have j9:=CS hP;have HN:=CS hn;rw[hP]
 simp only[hn];clear hT ef hv hj nQ hS az l0 l1 l2 l3 ls lb m0 m1 m2 ms mb jS wf1 hP hn;unfold fnV at iN ⊢;go_enter Tryz.func112,Tryz.ntmps112
 go_wp2_with fail
 rw[rF,iN]at HT HB7
 refine HT.out.mono ?_;rintro e w1 ⟨rfl,M1,i1,-,fY,b1⟩;change PlI (w.heap.size+1) kp cp J KJ (0+2*t.size-0) (placesOf ak t) M1 w1 at i1
 rw[j9.out]at i1
 obtain⟨A1,c1,A2,c2,h1,h2,h3,h4,h5⟩:=i1.nums;have hlen:=i1.len.2.2;have cA:=i1.num;have pa:=h2.1;have aJ:=h2.2;rw[HN.out]at pa aJ
 obtain⟨x0,x1,x2⟩:=zad cA;obtain⟨y0,y1,y2⟩:=zad pa;have og:=CS cA;have vy:=CS pa;have kh:=CS i1;have dG:=CS aJ;have dU:=CS hlen;have B1:=CS b1;have dH:=CS fY;have H4:=CS h4;clear cA pa i1 h1 h2 h3 h4 h5 aJ HT b1 fY rF iN hlen;go_wp2_with fail
 go_region
 all_goals
  go_wp2_with fail
 have hi:=kh.out;have e1:∀q,q≠w.heap.size+1+1->q≠w.heap.size+1+1+1->(((w1.setCell ⟨w.heap.size+1+1,0,none⟩ (.int .i64 (al:Nat))).setCell ⟨w.heap.size+1+1+1,0,none⟩ (.slice A2 n c2)).drew).heap[q]?=w1.heap[q]?:=λq h1 h2 =>
  (Below.heap_setCell _ ⟨w.heap.size+1+1+1,0,none⟩ _ q h2).trans (Below.heap_setCell w1 ⟨w.heap.size+1+1,0,none⟩ _ q h1)
 have k1:Blk (((w1.setCell ⟨w.heap.size+1+1,0,none⟩ (.int .i64 (al:Nat))).setCell ⟨w.heap.size+1+1+1,0,none⟩ (.slice A2 n c2)).drew) (w.heap.size+1+1) 3 #[.int .i64 (al:Nat)] :=
  Blk.far (one_setCell (u:=.int .i64 (al:Nat)) og.out) (p:=⟨w.heap.size+1+1+1,0,none⟩) (by show w.heap.size+1+1≠w.heap.size+1+1+1;omega) _
 have k2:Blk (((w1.setCell ⟨w.heap.size+1+1,0,none⟩ (.int .i64 (al:Nat))).setCell ⟨w.heap.size+1+1+1,0,none⟩ (.slice A2 n c2)).drew) (w.heap.size+1+1+1) 61 #[.slice A2 n c2] :=
  one_setCell (u:=.slice A2 n c2) (vy.out.far (p:=⟨w.heap.size+1+1,0,none⟩) (by show w.heap.size+1+1+1≠w.heap.size+1+1;omega) (.int .i64 (al:Nat)))
 refine bodyPost_ret (zel rfl _ _ (w.heap.size+1+1) (w.heap.size+1+1+1) 3 61 _ _ _ _ rfl rfl k1 k2 Tryz.underlying3 rfl Tryz.underlying61 rfl) rfl ⟨A2,c2,rfl,?_,?_,?_,?_⟩
 ·refine zaY (zcn dG.out (by omega)) (λa ha=>e1 _ ?_ ?_)
  ·have:=(dG.out.lt a.block (by rw[ha];rfl)).1;omega
  ·have:=(dG.out.lt a.block (by rw[ha];rfl)).1;omega
 ·have:=dU.out
  have h2:al<=0+2*t.size-0:=this;omega
 ·exact hJ w1 _ hi.jj (λg hg=>e1 g (by have:=(hi.kj g hg).2;omega) (by have:=(hi.kj g hg).2;omega))
 ·refine Chg.drew (Chg.setCell (Chg.setCell ((Chg.of_below (M:=KJ) HB7.out).trans' B1.out (λq hq h=>?_)) (p:=⟨w.heap.size+1+1,0,none⟩) (.inl (by show w.heap.size<=w.heap.size+1+1;omega)) _) (p:=⟨w.heap.size+1+1+1,0,none⟩) (.inl (by show w.heap.size<=w.heap.size+1+1+1;omega)) _)
  rcases h with(h|h|h|h|h|h)|h
  ·exact h
  all_goals omega
end Go.Proofs.YtfafilmklhnngaaGreatDoor
namespace Go.Proofs.YtfafilmklhnngaaGreatDoor
open Go.RowKit Lx Tx Go.Maps Go.WideMaps Go.Shelf
set_option maxRecDepth 100000
mutual
def smT(el er:List (Name × Nat)):Ty->Ty->Nat->Bool × Nat
 |.var x,u,m=>match u with
  |.var y=>(decide ((look x el).getD 0=(look y er).getD 0/\(0<(look x el).getD 0\/x=y)),m)
  |_=>(false,m)
 |.mt n,u,m=>match u with
  |.mt k=>(decide (n=k),m)
  |_=>(false,m)
 |.con c l,u,m=>match u with
  |.con d r=>if l.length=r.length/\c=d then smL el er l r m else(false,m)
  |_=>(false,m)
 |.fn a b,u,m=>match u with
  |.fn c d=>if(smT el er a c m).1=true then smT el er b d (smT el er a c m).2 else(false,(smT el er a c m).2)
  |_=>(false,m)
 |.all x t,u,m=>match u with
  |.all y s=>smT ((x,m+1)::el) ((y,m+1)::er) t s (m+1)
  |_=>(false,m)
def smL(el er:List (Name × Nat)):List Ty->List Ty->Nat->Bool × Nat
 |[],_,m=>(true,m)
 |t::r,l2,m=>match l2 with
  |[]=>(true,m)
  |u::s=>if(smT el er t u m).1=true then smL el er r s (smT el er t u m).2 else(false,(smT el er t u m).2)
end
theorem znW(el er:List (Name × Nat)):∀(l r:List Ty)(i m m':Nat)(t u:Ty),l[i]?=some t->r[i]?=some u->smL el er (l.take i) (r.take i) m=(true,m')->smL el er (l.take (i+1)) (r.take (i+1)) m=smT el er t u m':=by
 intro l;induction l with
 |nil=>intro r i m m' t u h;simp at h
 |cons a l ih =>
  intro r i m m' t u h1 h2 h3;cases r with
  |nil=>simp at h2
  |cons b r =>
   cases i with
   |zero =>
    injection h1 with h1;injection h2 with h2;subst h1 h2;rw[Ba,Ba,smL]at h3
    injection h3 with _ h3;subst h3;rw[AZ,AZ,Ba,Ba,smL]
    show(if(smT el er a b m).1=true then smL el er [] [] (smT el er a b m).2 else(false,(smT el er a b m).2))=_;rw[smL]
    cases hq:smT el er a b m with
    |mk q z=>cases q <;> rfl
   |succ i =>
    rw[AZ,AZ,smL]at h3 ⊢
    change (if(smT el er a b m).1=true then smL el er (l.take i) (r.take i) (smT el er a b m).2 else(false,(smT el er a b m).2))=_ at h3
    show(if(smT el er a b m).1=true then smL el er (l.take (i+1)) (r.take (i+1)) (smT el er a b m).2 else(false,(smT el er a b m).2))=_;by_cases hq:(smT el er a b m).1=true
    ·rw[Aq hq]at h3 ⊢
     exact ih r i _ m' t u h1 h2 h3
    ·rw[Am hq]at h3
     cases h3
theorem zmc(el er:List (Name × Nat)):∀(l r:List Ty)(i m m':Nat),i<l.length->i<r.length->smL el er (l.take (i+1)) (r.take (i+1)) m=(false,m')->smL el er l r m=(false,m'):=by
 intro l;induction l with
 |nil=>intro r i m m' h;simp at h
 |cons a l ih =>
  intro r i m m' h1 h2 h3;cases r with
  |nil=>simp at h2
  |cons b r =>
   rw[AZ,AZ,smL]at h3
   change (if(smT el er a b m).1=true then smL el er (l.take i) (r.take i) (smT el er a b m).2 else(false,(smT el er a b m).2))=_ at h3
   rw[smL]
   show(if(smT el er a b m).1=true then smL el er l r (smT el er a b m).2 else(false,(smT el er a b m).2))=_;by_cases hq:(smT el er a b m).1=true
   ·rw[Aq hq]at h3 ⊢
    cases i with
    |zero=>rw[Ba,Ba,smL]at h3;cases h3
    |succ i=>exact ih r i _ m' (by simpa using h1) (by simpa using h2) h3
   ·rw[Am hq]at h3 ⊢
    exact h3
theorem znX(el er:List (Name × Nat))(t u:Ty)(m:Nat)(h:kd t≠kd u\/(kids t).length≠(kids u).length):smT el er t u m=(false,m):=by
 cases t <;> cases u <;> first
  |(exfalso;simp[kd,kids]at h;done)
  |(simp[smT];done)
  |skip
 rw[smT,Am]
 intro e;rcases h with h|h
 ·exact h rfl
 ·exact h e.1
theorem zmd(el er:List (Name × Nat))(x y:Name)(m:Nat):smT el er (.var x) (.var y) m=(decide ((look x el).getD 0=(look y er).getD 0/\(0<(look x el).getD 0\/x=y)),m):=by rw[smT]
theorem zoL(el er:List (Name × Nat))(n k m:Nat):smT el er (.mt n) (.mt k) m=(decide (n=k),m):=by rw[smT]
theorem zpY(el er:List (Name × Nat))(c d:Name)(l r:List Ty)(m:Nat)(h:l.length=r.length):smT el er (.con c l) (.con d r) m=if c=d then smL el er l r m else(false,m):=by
 rw[smT]
 show(if l.length=r.length/\c=d then smL el er l r m else(false,m))=_;by_cases hc:c=d
 ·rw[Aq ⟨h,hc⟩,Aq hc]
 ·rw[Am (λe=>hc e.2),Am hc]
theorem zqk(el er:List (Name × Nat))(a b c d:Ty)(m:Nat):smT el er (.fn a b) (.fn c d) m=smL el er [a,b] [c,d] m:=by
 rw[smT,smL]
 show(if(smT el er a c m).1=true then smT el er b d (smT el er a c m).2 else(false,(smT el er a c m).2))=(if(smT el er a c m).1=true then smL el er [b] [d] (smT el er a c m).2 else(false,(smT el er a c m).2));by_cases hq:(smT el er a c m).1=true
 ·rw[Aq hq,Aq hq,smL]
  show _=(if(smT el er b d (smT el er a c m).2).1=true then smL el er [] [] (smT el er b d (smT el er a c m).2).2 else(false,(smT el er b d (smT el er a c m).2).2));rw[smL]
  cases hz:smT el er b d (smT el er a c m).2 with
  |mk q z=>cases q <;> rfl
 ·rw[Am hq,Am hq]
theorem zpZ(el er:List (Name × Nat))(x y:Name)(t s:Ty)(m:Nat):smT el er (.all x t) (.all y s) m=smL ((x,m+1)::el) ((y,m+1)::er) [t] [s] (m+1):=by
 rw[smT,smL]
 show smT ((x,m+1)::el) ((y,m+1)::er) t s (m+1)=(if(smT ((x,m+1)::el) ((y,m+1)::er) t s (m+1)).1=true then smL ((x,m+1)::el) ((y,m+1)::er) [] [] (smT ((x,m+1)::el) ((y,m+1)::er) t s (m+1)).2 else(false,(smT ((x,m+1)::el) ((y,m+1)::er) t s (m+1)).2));rw[smL]
 cases hz:smT ((x,m+1)::el) ((y,m+1)::er) t s (m+1) with
 |mk q z=>cases q <;> rfl
mutual
theorem zdV:(t:Ty)->∀(el er:List (Name × Nat))(u:Ty)(m:Nat),m<=(smT el er t u m).2/\(smT el er t u m).2<=m+t.size
 |.var x,el,er,u,m=>by
  cases u <;> simp[smT]
 |.mt n,el,er,u,m=>by
  cases u <;> simp[smT]
 |.con c l,el,er,u,m=>by
  cases u with
  |con d r =>
   rw[smT]
   split
   ·have:=zgM l el er r m
    rw[zaj]
    exact⟨this.1,AB this.2 (by show m+zaf l<=m+(zaf l+1);omega)⟩
   ·exact⟨Ai _,BK _ _⟩
  |_=>simp[smT]
 |.fn a b,el,er,u,m=>by
  cases u with
  |fn c d =>
   rw[smT,zaj]
   simp only[kids,zaf];have h1:=zdV a el er c m;have h2:=zdV b el er d (smT el er a c m).2;split
   ·omega
   ·exact⟨h1.1,by show(smT el er a c m).2<=_;omega⟩
  |_=>simp[smT]
 |.all x t,el,er,u,m=>by
  cases u with
  |all y s =>
   rw[smT,zaj]
   simp only[kids,zaf];have h1:=zdV t ((x,m+1)::el) ((y,m+1)::er) s (m+1);omega
  |_=>simp[smT]
theorem zgM:(l:List Ty)->∀(el er:List (Name × Nat))(r:List Ty)(m:Nat),m<=(smL el er l r m).2/\(smL el er l r m).2<=m+zaf l
 |[],el,er,r,m=>by rw[smL];exact⟨Ai _,BK _ _⟩
 |a::l,el,er,r,m=>by
  cases r with
  |nil=>simp[smL]
  |cons u s =>
   rw[smL,zaf]
   have h1:=zdV a el er u m;have h2:=zgM l el er s (smT el er a u m).2;split
   ·omega
   ·exact⟨h1.1,by show(smT el er a u m).2<=_;omega⟩
end
structure PairI (pb lb rb:Nat) (el er:List (Name × Nat)) (m:Nat) (w:World):Prop where
 pr:Blk w pb 118 #[.map (some lb),.map (some rb),.int .i64 (m:Nat)]
 le:MapE mkInt w lb el
 ri:MapE mkInt w rb er
 ne:pb≠lb/\pb≠rb/\lb≠rb
def PM(pb lb rb g:Nat):Prop:=g=pb\/g=lb\/g=rb
theorem PairI.keep {pb lb rb:Nat} {el er:List (Name × Nat)} {m:Nat} {w w':World}(h:PairI pb lb rb el er m w)(hk:∀g,PM pb lb rb g->w'.heap[g]?=w.heap[g]?):PairI pb lb rb el er m w' :=
 ⟨h.pr.same (hk _ (.inl rfl)),h.le.keep (hk _ (.inr (.inl rfl))),h.ri.keep (hk _ (.inr (.inr rfl))),h.ne⟩
theorem PairI.lt {pb lb rb:Nat} {el er:List (Name × Nat)} {m:Nat} {w:World}(h:PairI pb lb rb el er m w)(g:Nat)(hg:PM pb lb rb g):g<w.heap.size:=by
 rcases hg with rfl|rfl|rfl
 ·exact h.pr.lt
 ·exact h.le.lt
 ·exact h.ri.lt
theorem PairI.below {pb lb rb:Nat} {el er:List (Name × Nat)} {m:Nat} {w w':World}(h:PairI pb lb rb el er m w)(hb:Below w.heap.size w w'):PairI pb lb rb el er m w':=h.keep λg hg=>hb.block g (h.lt g hg)
def SPst(pb lb rb:Nat)(el er:List (Name × Nat))(p:Bool × Nat)(w:World)(e:Ending)(w':World):Prop :=
 e=.returned (.bool p.1)/\PairI pb lb rb el er p.2 w'/\Chg (PM pb lb rb) w w'
def zeV(n pb lb rb:Nat):Prop:=∀(t u:Ty)(el er:List (Name × Nat))(m:Nat)(S Su:Nat->Prop)(v uv:Value)(w:World),t.size<=n->n<=100000000->PairI pb lb rb el er m w->RdV S w t v->RdV Su w u uv ->
 (∀g,S g->g<w.heap.size/\¬PM pb lb rb g)->(∀g,Su g->g<w.heap.size/\¬PM pb lb rb g)->Nm t->Nm u->el.length+t.size<=500000000->er.length+t.size<=500000000->m+t.size<=1000000000 ->
 Calls Tryz.prog 60 #[.pointer (some ⟨pb,0,none⟩),v,uv] w (SPst pb lb rb el er (smT el er t u m) w)
end Go.Proofs.YtfafilmklhnngaaGreatDoor
