import Derived.Test.YtfafilmklhnngaaGreatDoorBiAC
import Derived.Test.YtfafilmklhnngaaGreatDoorBiAA
set_option maxHeartbeats 12800000
namespace Go.Proofs.YtfafilmklhnngaaGreatDoor
open Go.RowKit Lx Tx Go.Maps Go.WideMaps Go.Shelf
set_option maxRecDepth 100000
structure NewI (c:UInt8) (lb nb sb mb:Nat) (but:List Name) (k:Nat) (w:World):Prop where
 let_:Blk w lb 9 #[.string ⟨#[c]⟩]
 num:Blk w nb 3 #[.int .i64 (k:Nat)]
 cel:Blk w sb 93 #[.map (some mb)]
 set:MapE mkSet w mb (units but)
theorem NewI.keep {c:UInt8} {lb nb sb mb:Nat} {but:List Name} {k:Nat} {w w':World}(h:NewI c lb nb sb mb but k w)(h0:w'.heap[lb]?=w.heap[lb]?)(h1:w'.heap[nb]?=w.heap[nb]?)(h2:w'.heap[sb]?=w.heap[sb]?)(h3:w'.heap[mb]?=w.heap[mb]?):NewI c lb nb sb mb but k w' :=
 ⟨h.let_.same h0,h.num.same h1,h.cel.same h2,h.set.keep h3⟩
theorem NewI.below {c:UInt8} {lb nb sb mb:Nat} {but:List Name} {k:Nat} {w w':World}(h:NewI c lb nb sb mb but k w)(hb:Below w.heap.size w w'):NewI c lb nb sb mb but k w' :=
 h.keep (hb.block _ h.let_.lt) (hb.block _ h.num.lt) (hb.block _ h.cel.lt) (hb.block _ h.set.lt)
theorem zn3(j:Nat)(h:j<10 ^ 15):(nm 120 j).length<=24:=by
 have:=zbh (Nm.var _ (znz j h));exact Nat.le_trans (Nat.le_of_eq (show(nm 120 j).length=(nm 120 j).toArray.size by simp)) this
theorem zmD(c:UInt8)(but:List Name)(f j r:Nat)(h:zbl c but f j=r)(hf:1<=f)(hin:nm c j∈but):zbl c but (f-1) (j+1)=r:=by
 obtain⟨f,rfl⟩:∃g,f=g+1:=⟨f-1,by omega⟩;rw[zbl,if_pos hin]at h
 exact h
theorem zkO(c:UInt8)(but:List Name)(f j r:Nat)(h:zbl c but f j=r)(hin:nm c j∉but):r=j:=by
 cases f with
 |zero=>exact h.symm
 |succ f=>rw[zbl,if_neg hin]at h;exact h.symm
def zo4(c:UInt8)(lb nb sb mb:Nat)(but:List Name)(k:Nat)(w0:World)(gg:Nat)(wr:World):Prop :=
 ∃j:Nat,gg=k+but.length+1-j/\k<=j/\zbl c but (but.length+1-(j-k)) j=zaz c but k/\j<=zaz c but k/\NewI c lb nb sb mb but j wr/\Chg (only nb) w0 wr
theorem zoJ(c:UInt8)(lb nb sb mb:Nat)(but:List Name)(k:Nat)(w:World)(h:NewI c lb nb sb mb but k w)(ht:Tab w)(h0:nb≠lb)(h1:nb≠sb)(h2:nb≠mb)(h3:nb≠0)(hk:k+but.length+1<10 ^ 15):Calls Tryz.prog 85 #[.pointer (some ⟨lb,0,none⟩),.pointer (some ⟨nb,0,none⟩),.pointer (some ⟨sb,0,none⟩)] w λe w'=>e=.returned (.string ⟨(nm c (zaz c but k)).toArray⟩)/\NewI c lb nb sb mb but (zaz c but k+1) w'/\Chg (only nb) w w':=by
 obtain⟨_,hn1,hn2⟩:=zb6 c but k (by omega);have H:=hidE h;have HT:=hidE ht;have H3:=hidE h3;clear h ht h3;go_enter Tryz.func85,Tryz.ntmps85
 go_wp2_with fail
 go_loopg [] (but.length+1) (λgg wr=>zo4 c lb nb sb mb but k w gg wr)
 case atStart =>
  exact⟨k,by omega,Nat.le_refl _,by rw[Nat.sub_self];rfl,hn1,H.out,Chg.refl _ _⟩
 case round =>
  obtain⟨j,hgg,hkj,hf,hj,hi,hc⟩:=hrel;obtain⟨z0,z1,z2⟩:=zai hi.let_;obtain⟨x0,x1,x2⟩:=zai hi.num;obtain⟨y0,y1,y2⟩:=zai hi.cel;have HI:=hidE hi;have HC:=hidE hc;have HF:=hidE hf;have hit:=ziO j wr.drew (by omega) ((HT.out.keep (hc.block _ HT.out.lt (by unfold only;exact λe=>H3.out e.symm))).keep rfl);have HIT:=hidE hit;have hsz:(nm 120 j).length<=24:=zn3 j (by omega);have hcat:¬9223372036854775807<1+(dec j).length:=by have:(nm 120 j).length=(dec j).length+1:=rfl;omega
  have NB0:Hid (NewI c lb nb sb mb but j wr.drew):=hidE (hi.keep rfl rfl rfl rfl);have SOF:Hid (∀W:World,NewI c lb nb sb mb but j W->W.cell? ⟨lb,0,none⟩=some (.string ⟨#[c]⟩)/\W.cell? ⟨nb,0,none⟩=some (.int .i64 (j:Nat))):=hidE λW h=>⟨h.let_.cell 0,h.num.cell 0⟩;clear hi hc hf hit;go_wp2_with fail
  go_region_held3 (λW=>W.cell? ⟨lb,0,none⟩=some (.string ⟨#[c]⟩)/\W.cell? ⟨nb,0,none⟩=some (.int .i64 (j:Nat))) (first|(with_reducible exact⟨z0,x0⟩)|(with_reducible exact SOF.out _ NB0.out)|(with_reducible exact SOF.out _ NB1.out))
   ((first|((with_reducible refine HIT.out.mono ?_);rintro e w1 ⟨rfl,b1⟩;have NB1:=hidE (NB0.out.below b1);have B1:=hidE b1;clear b1)))
  have i1:=NB1.out;obtain⟨p0,p1,p2⟩:=zai i1.num;obtain⟨q0,q1,q2⟩:=zai i1.cel;clear i1 HIT;obtain⟨X,hX⟩:∃X:ByteArray,(({ data:=#[c] } : ByteArray)++{ data:=(dec j).toArray })=X:=⟨_,rfl⟩;have hXl:X.data.toList=nm c j:=by rw[<-hX];simp[nm]
  have hX24:X.size<=maxLen:=by show X.data.size<=maxLen;rw[<-Array.length_toList,hXl];have:(nm c j).length=(nm 120 j).length:=rfl;unfold maxLen;omega
  have hm2:MapE mkSet (w1.setCell ⟨nb,0,none⟩ (.int .i64 ((j:Int)+1))) mb (units but):=NB1.out.set.keep (Below.heap_setCell w1 ⟨nb,0,none⟩ _ mb (λe=>h2 e.symm));have hlk0:=hm2.getOk X hX24;rw[zft,hXl]at hlk0
  have HXL:=hidE hXl;have HJ:Hid (j<10 ^ 15):=hidE (by omega);have I2:Hid (NewI c lb nb sb mb but (j+1) (w1.setCell ⟨nb,0,none⟩ (.int .i64 ((j:Int)+1)))):=hidE ⟨NB1.out.let_.far (p:=⟨nb,0,none⟩) (λe=>h0 e.symm) _,by
   have:=one_setCell (u:=.int .i64 ((j:Int)+1)) NB1.out.num;exact this,NB1.out.cel.far (p:=⟨nb,0,none⟩) (λe=>h1 e.symm) _,hm2⟩
  have C2:Hid (Chg (only nb) w (w1.setCell ⟨nb,0,none⟩ (.int .i64 ((j:Int)+1)))):=hidE ((HC.out.drew.below B1.out).setCell (p:=⟨nb,0,none⟩) (.inr rfl) _);clear hsz hm2 hXl;by_cases hin:nm c j∈but
  ·rw[if_pos hin]at hlk0
   replace hlk0:(Instr.lookup 93 (.map (some mb)) (.string X) true).run Tryz.prog (w1.setCell ⟨nb,0,none⟩ (.int .i64 ((j:Int)+1)))=.ok (.tuple #[.agg #[],.bool true]) (w1.setCell ⟨nb,0,none⟩ (.int .i64 ((j:Int)+1))):=hlk0;have hf:=HF.out;have hn3:j≠k+but.length+1:=by omega
   have hne:j≠zaz c but k:=λe=>by
    have:=(zb6 c but k (by omega)).1;rw[<-e]at this
    exact this hin
   have HF2:=hidE (zmD c but _ j _ hf (by omega) hin);clear hin hf;go_wp2_with fail
   go_roundg (k+but.length+1-(j+1))
   case measure=>omega
   case rel =>
    refine⟨j+1,rfl,by omega,?_,by omega,⟨I2.out.let_.alloc _,I2.out.num.alloc _,I2.out.cel.alloc _,I2.out.set.keep (Below.heap_alloc _ _ _ I2.out.set.lt)⟩,C2.out.alloc _⟩;rw[show but.length+1-(j+1-k)=but.length+1-(j-k)-1 by omega]
    exact HF2.out
  ·rw[if_neg hin]at hlk0
   replace hlk0:(Instr.lookup 93 (.map (some mb)) (.string X) true).run Tryz.prog (w1.setCell ⟨nb,0,none⟩ (.int .i64 ((j:Int)+1)))=.ok (.tuple #[.agg #[],.bool false]) (w1.setCell ⟨nb,0,none⟩ (.int .i64 ((j:Int)+1))):=hlk0;have HK:=hidE (zkO c but _ j _ HF.out hin);clear hin;go_wp2_with fail
   go_ret
   rw[HK.out]
   refine⟨?_,⟨I2.out.let_.alloc _,I2.out.num.alloc _,I2.out.cel.alloc _,I2.out.set.keep (Below.heap_alloc _ _ _ I2.out.set.lt)⟩,C2.out.alloc _⟩;rw[<-HXL.out,<-hX]
   rfl
def newV(lb nb sb:Nat):Value:=.func (.func 85) #[] #[.pointer (some ⟨lb,0,none⟩),.pointer (some ⟨nb,0,none⟩),.pointer (some ⟨sb,0,none⟩)]
theorem ziu(c:UInt8)(X:ByteArray)(hX:X=⟨#[c]⟩)(mb:Nat)(but:List Name)(w:World)(h:MapE mkSet w mb (units but)):Calls Tryz.prog 40 #[.string X,.map (some mb)] w λe w'=>e=.returned (newV w.heap.size (w.heap.size+2) (w.heap.size+1))/\NewI c w.heap.size (w.heap.size+2) (w.heap.size+1) mb but 0 w'/\Below w.heap.size w w':=by
 subst hX;have hmf:∀(fn:Fn) (first cap:Array Value) (w:World),(Instr.makeFunc fn first cap).run Tryz.prog w=.ok (.func fn first cap) w:=λ_ _ _ _=>rfl;have H:=hidE h;clear h;go_enter Tryz.func40,Tryz.ntmps40
 go_wp2_with fail
 go_ret
 obtain⟨h0,h1,h2,hs2,hb2⟩:=zcE w (.cells #[.string ⟨#[c]⟩] 9) (.cells #[.map (some mb)] 93) (.cells #[.int .i64 0] 3);exact⟨rfl,⟨h0,h2,h1,H.out.keep (hb2.block _ H.out.lt)⟩,hb2⟩
def atV(k:Int)(s:ByteArray):Value:=.agg #[.int .i64 k,.string s,.int .i64 0,.slice none 0 0]
theorem ziR {k k':Int} {s s':ByteArray}(h:atV k s=atV k' s'):k=k'/\s=s':=by
 unfold atV at h;injection h with h;have h:=congrArg Array.toList h;simp only[List.cons.injEq,Value.int.injEq,Value.string.injEq,and_true,true_and]at h;exact h
open Classical in
noncomputable def tyElem (v:Value):Option (DataW Unit × List MemPlace) :=
 if h:∃s:ByteArray,v=atV 1 s then some (.lit (.string h.choose.data.toList),[]) else if v=atV 0 ⟨#[]⟩ then some (.nil,[]) else none
theorem zjE(s:ByteArray):tyElem (atV 1 s)=some (.lit (.string s.data.toList),[]):=by
 have h:∃s':ByteArray,atV 1 s=atV 1 s':=⟨s,rfl⟩;unfold tyElem;rw[dif_pos h,<-(ziR h.choose_spec).2]
theorem zmE:tyElem (atV 0 ⟨#[]⟩)=some (.nil,[]):=by
 unfold tyElem;rw[dif_neg (λ⟨s,h⟩=>by have:=(ziR h).1;omega),if_pos rfl]
theorem zjF {x:Value} {v:Name} {ps:List MemPlace}(h:tyElem x=some (.lit (.string v),ps)):x=atV 1 ⟨v.toArray⟩:=by
 unfold tyElem at h;split at h
 ·rename_i hx
  injection h with h;injection h with h _;injection h with h;injection h with h;rw[<-h]
  exact hx.choose_spec
 ·split at h
  ·injection h with h
   injection h with h _;cases h
  ·cases h
theorem ziv {x:Value} {ps:List MemPlace}(h:tyElem x=some (.nil,ps)):x=atV 0 ⟨#[]⟩:=by
 unfold tyElem at h;split at h
 ·injection h with h
  injection h with h _;cases h
 ·split at h
  ·rename_i hx;exact hx
  ·cases h
noncomputable def mkTy:MK Name where
 t:=160
 e:=37
 R:=tyElem
 enc y:=.lit (.string y)
 val y:=atV 1 ⟨y.toArray⟩
 ok _:=True
 z:=atV 0 ⟨#[]⟩
 zd:=.nil
 hT:=Tryz.underlying160
 hz _:=by kernel_rfl
 hR y _:=zjE _
 hzd:=zmE
 inv _ _ _ h:=zjF h
 invz _ _ h:=ziv h
def kO:Option Name->Int
 |none=>0
 |some _=>1
def sO:Option Name->ByteArray
 |none=>⟨#[]⟩
 |some y=>⟨y.toArray⟩
theorem ziS(o:Option Name):mkTy.valO o=.agg #[.int .i64 (kO o),.string (sO o),.int .i64 0,.slice none 0 0]:=by
 cases o <;> rfl
def CovT(w:World)(N mb:Nat)(X:ByteArray)(env:List (Name × Name)):Prop :=
 Blk w N 160 #[.map (some mb)]/\Blk w (N+1) 9 #[.string X]/\Blk w (N+3) 37 #[.int .i64 (kO (look X.data.toList env)),.string (sO (look X.data.toList env)),.int .i64 0,.slice none 0 0]/\Blk w (N+4) 4 #[.bool (look X.data.toList env).isSome]
theorem CovT.keep {w w':World} {N mb:Nat} {X:ByteArray} {env:List (Name × Name)}(h:CovT w N mb X env)(hk:∀k,N<=k->k<=N+4->w'.heap[k]?=w.heap[k]?):CovT w' N mb X env :=
 ⟨h.1.same (hk _ (by omega) (by omega)),h.2.1.same (hk _ (by omega) (by omega)),h.2.2.1.same (hk _ (by omega) (by omega)),h.2.2.2.same (hk _ (by omega) (by omega))⟩
def zkP(N:Nat):Value:=.func (.func 171) #[] #[.pointer (some ⟨N+4,0,none⟩),.pointer (some ⟨N+3,0,none⟩),.pointer (some ⟨N,0,none⟩),.pointer (some ⟨N+1,0,none⟩)]
theorem zo5(w:World)(o0 o1 o2 o3 o4:Obj):(((((w.alloc o0).alloc o1).alloc o2).alloc o3).alloc o4).heap[w.heap.size]?=some o0/\(((((w.alloc o0).alloc o1).alloc o2).alloc o3).alloc o4).heap[w.heap.size+1]?=some o1 /\
  (((((w.alloc o0).alloc o1).alloc o2).alloc o3).alloc o4).heap[w.heap.size+3]?=some o3/\(((((w.alloc o0).alloc o1).alloc o2).alloc o3).alloc o4).heap[w.heap.size+4]?=some o4/\(((((w.alloc o0).alloc o1).alloc o2).alloc o3).alloc o4).heap.size=w.heap.size+5 /\
  Below w.heap.size w (((((w.alloc o0).alloc o1).alloc o2).alloc o3).alloc o4):=by
 obtain⟨h0,h1,h2,h3,hs,hb⟩:=zeG w o0 o1 o2 o3;exact⟨(Below.heap_alloc _ _ _ (by omega)).trans h0,(Below.heap_alloc _ _ _ (by omega)).trans h1,(Below.heap_alloc _ _ _ (by omega)).trans h3,by have:=heap_alloc_new ((((w.alloc o0).alloc o1).alloc o2).alloc o3) o4;rw[hs]at this;exact this,(size_alloc _ _).trans (by omega),hb.alloc (by omega) _⟩
theorem zkQ(mb:Nat)(env:List (Name × Name))(X Y:ByteArray)(w:World)(h:MapE mkTy w mb env)(hX:X.size<=maxLen)(hn:env.length<1000000000):Calls Tryz.prog 133 #[.map (some mb),.string X,.agg #[.int .i64 1,.string Y,.int .i64 0,.slice none 0 0]] w λe w'=>e=.returned (zkP w.heap.size)/\CovT w' w.heap.size mb X env/\MapE mkTy w' mb ((X.data.toList,Y.data.toList)::env)/\Chg (only mb) w w':=by
 have hlt:=h.lt;have hb3:=(zcE w (.cells #[.map (some mb)] 160) (.cells #[.string X] 9) (.cells #[.int .i64 1,.string Y,.int .i64 0,.slice none 0 0] 37)).2.2.2.2;have h1:=h.keep (hb3.block _ hlt);have hlk:=h1.getOk X hX;rw[ziS]at hlk
 obtain⟨k,hk⟩:∃k,kO (look X.data.toList env)=k:=⟨_,rfl⟩;obtain⟨s,hs⟩:∃s,sO (look X.data.toList env)=s:=⟨_,rfl⟩;obtain⟨q,hq⟩:∃q,(look X.data.toList env).isSome=q:=⟨_,rfl⟩;unfold CovT;rw[hk,hs,hq]at hlk ⊢
 replace hlk:(Instr.lookup 160 (.map (some mb)) (.string X) true).run Tryz.prog _=.ok (.tuple #[.agg #[.int .i64 k,.string s,.int .i64 0,.slice none 0 0],.bool q]) _:=hlk;obtain⟨l0,l1,l3,l4,ls,lb⟩:=zo5 w (.cells #[.map (some mb)] 160) (.cells #[.string X] 9) (.cells #[.int .i64 1,.string Y,.int .i64 0,.slice none 0 0] 37) (.cells #[.int .i64 k,.string s,.int .i64 0,.slice none 0 0] 37) (.cells #[.bool q] 4);have HM:=hidE (h.keep (lb.block _ hlt));have HX:=hidE hX;have HN:=hidE hn;have L0:=hidE l0;have L1:=hidE l1;have L3:=hidE l3;have L4:=hidE l4;have LS:=hidE ls;have LB:=hidE lb;have hmf:∀(fn:Fn) (first cap:Array Value) (w:World),(Instr.makeFunc fn first cap).run Tryz.prog w=.ok (.func fn first cap) w:=λ_ _ _ _=>rfl;clear h h1 hk hs hq hX hn hb3 l0 l1 l3 l4 ls lb;go_enter Tryz.func133,Tryz.ntmps133
 go_wp2_with (at_mapUpdate;refine zcD mkTy _ rfl _ _ _ rfl mb env rfl HM.out HN.out X HX.out rfl Y.data.toList trivial rfl ?_;intro w1 hm1 hg1;have HM1:=hidE hm1;have HG1:=hidE hg1;clear hm1 hg1)
 go_ret
 have hk:∀k,k<w.heap.size+5->k≠mb->_:=λk hk hne=>HG1.out.block k (by rw[LS.out];exact hk) (λe=>hne (by injection e));exact⟨rfl,⟨(hk _ (by omega) (by omega)).trans L0.out,(hk _ (by omega) (by omega)).trans L1.out,(hk _ (by omega) (by omega)).trans L3.out,(hk _ (by omega) (by omega)).trans L4.out⟩,HM1.out,(Chg.of_below LB.out).grown HG1.out (λk hk=>.inr (by injection hk with hk;exact hk.symm))⟩
end Go.Proofs.YtfafilmklhnngaaGreatDoor
namespace Go.Proofs.YtfafilmklhnngaaGreatDoor
open Go.RowKit Lx Tx Go.Maps Go.WideMaps Go.Shelf
set_option maxRecDepth 100000
theorem ziw(N mb:Nat)(env:List (Name × Name))(X:ByteArray)(y:Name)(u:FrameMode)(w:World)(hc:CovT w N mb X env)(h:MapE mkTy w mb ((X.data.toList,y)::env))(hcan:Canon (envD mkTy.enc env))(hX:X.size<=maxLen)(hn:env.length<1000000000):CallsD Tryz.prog 171 #[.pointer (some ⟨N+4,0,none⟩),.pointer (some ⟨N+3,0,none⟩),.pointer (some ⟨N,0,none⟩),.pointer (some ⟨N+1,0,none⟩)] u w λe u' w'=>u'=u/\e=.returned (.tuple #[])/\MapE mkTy w' mb env/\Chg (only mb) w w':=by
 obtain⟨h0,h1,h2,h3⟩:=hc;obtain⟨a0,-,l0⟩:=zai h0;obtain⟨a1,-,l1⟩:=zai h1;obtain⟨p0,p1,p2,p3,s0,s1,s2,s3,hlx⟩:=zaa h2;obtain⟨a3,-,l3⟩:=zai h3;clear h0 h1 h2 h3;have HM:=hidE h;have HX:=hidE hX;have HN:=hidE hn;have HC:=hidE hcan;cases hl:look X.data.toList env with
 |none =>
  rw[hl]at a3
  replace a3:w.cell? ⟨N+4,0,none⟩=some (.bool false):=a3;have HL:=hidE hl;clear h hX hn hcan hl p0 p1 p2 p3 s0 s1 s2 s3;go_enter_d Tryz.func171,Tryz.ntmps171
  go_wp2_with (at_delete;refine zeX mkTy _ rfl _ _ rfl mb env rfl X y HM.out HL.out HC.out HX.out rfl ?_;intro w1 hm1 hg1)
  go_end0
  exact⟨rfl,hm1,(Chg.refl (only mb) w).grown hg1 (λk hk=>.inr (by injection hk with hk;exact hk.symm))⟩
 |some z =>
  rw[hl]at a3 p0 p1
  replace a3:w.cell? ⟨N+4,0,none⟩=some (.bool true):=a3;replace p0:w.cell? ⟨N+3,0,none⟩=some (.int .i64 1):=p0;replace p1:w.cell? ⟨N+3,1,none⟩=some (.string ⟨z.toArray⟩):=p1;have HL:=hidE hl;clear h hX hn hcan hl;go_enter_d Tryz.func171,Tryz.ntmps171
  go_wp2_with (at_mapUpdate;refine zeW mkTy _ rfl _ _ _ rfl mb env rfl X y z HM.out HL.out HC.out HN.out HX.out rfl trivial rfl ?_;intro w1 hm1 hg1)
  go_end0
  exact⟨rfl,hm1,(Chg.refl (only mb) w).grown hg1 (λk hk=>.inr (by injection hk with hk;exact hk.symm))⟩
set_option maxRecDepth 100000
theorem zdh {P:Program}(w:World)(g:Nat)(t ty:TypeId)(x:Value)(d:TypeDesc)(hg:Blk w g t #[x])(hu:P.underlying ty=some d)(hd:(match d with|.struct _|.array _ _=>true|_=>false)=false):(loadVar ty ⟨g,0,none⟩).run P w=.ok x w:=by
 have hagg:(isAgg ty).run P w=.ok false w:=by
  unfold isAgg;rw[Sem.run_bind,run_underlying hu w]
  cases d <;> simp_all
 have hc:w.cell? ⟨g,0,none⟩=some x:=hg.cell 0;simp[loadVar,Sem.run_bind,hagg,hc]
theorem zfz {P:Program} {fn:Func} {p q:Tmp} {ty ty':TypeId}(h:fn.results=#[.cell p ty,.cell q ty'])(tmps:Array Value)(w:World)(g g':Nat)(t t':TypeId)(x x':Value)(d d':TypeDesc)
  (hp:tmps.getD p undef=.pointer (some ⟨g,0,none⟩))(hq:tmps.getD q undef=.pointer (some ⟨g',0,none⟩))(hg:Blk w g t #[x])(hg':Blk w g' t' #[x'])
  (hu:P.underlying ty=some d)(hd:(match d with|.struct _|.array _ _=>true|_=>false)=false)(hu':P.underlying ty'=some d')(hd':(match d' with|.struct _|.array _ _=>true|_=>false)=false):(results fn tmps).run P w=.ok (.tuple #[x,x']) w:=by
 have hp':tmps[p]?.getD undef=.pointer (some ⟨g,0,none⟩):=by simpa using hp
 have hq':tmps[q]?.getD undef=.pointer (some ⟨g',0,none⟩):=by simpa using hq
 simp[results,h,hp',hq',asAddr,zdh w g t ty x d hg hu hd,zdh w g' t' ty' x' d' hg' hu' hd']
end Go.Proofs.YtfafilmklhnngaaGreatDoor
namespace Go.Proofs.YtfafilmklhnngaaGreatDoor
open Go.RowKit Lx Tx Go.Maps Go.WideMaps Go.Shelf
set_option maxRecDepth 100000
mutual
def smT(el er:List (Name × Nat)):Ty->Ty->Nat->Bool × Nat
 |.var x,u,m=>match u with
  |.var y=>(decide ((look x el).getD 0=(look y er).getD 0/\(0<(look x el).getD 0\/x=y)),m)
  |_=>(false,m)
 |.mt n,u,m=>match u with
  |.mt k=>(decide (n=k),m)
  |_=>(false,m)
 |.con c l,u,m=>match u with
  |.con d r=>if l.length=r.length/\c=d then smL el er l r m else(false,m)
  |_=>(false,m)
 |.fn a b,u,m=>match u with
  |.fn c d=>if(smT el er a c m).1=true then smT el er b d (smT el er a c m).2 else(false,(smT el er a c m).2)
  |_=>(false,m)
 |.all x t,u,m=>match u with
  |.all y s=>smT ((x,m+1)::el) ((y,m+1)::er) t s (m+1)
  |_=>(false,m)
def smL(el er:List (Name × Nat)):List Ty->List Ty->Nat->Bool × Nat
 |[],_,m=>(true,m)
 |t::r,l2,m=>match l2 with
  |[]=>(true,m)
  |u::s=>if(smT el er t u m).1=true then smL el er r s (smT el er t u m).2 else(false,(smT el er t u m).2)
end
theorem zmK(el er:List (Name × Nat)):∀(l r:List Ty)(i m m':Nat)(t u:Ty),l[i]?=some t->r[i]?=some u->smL el er (l.take i) (r.take i) m=(true,m')->smL el er (l.take (i+1)) (r.take (i+1)) m=smT el er t u m':=by
 intro l;induction l with
 |nil=>intro r i m m' t u h;simp at h
 |cons a l ih =>
  intro r i m m' t u h1 h2 h3;cases r with
  |nil=>simp at h2
  |cons b r =>
   cases i with
   |zero =>
    injection h1 with h1;injection h2 with h2;subst h1 h2;rw[List.take_zero,List.take_zero,smL]at h3
    injection h3 with _ h3;subst h3;rw[List.take_succ_cons,List.take_succ_cons,List.take_zero,List.take_zero,smL]
    show(if(smT el er a b m).1=true then smL el er [] [] (smT el er a b m).2 else(false,(smT el er a b m).2))=_;rw[smL]
    cases hq:smT el er a b m with
    |mk q z=>cases q <;> rfl
   |succ i =>
    rw[List.take_succ_cons,List.take_succ_cons,smL]at h3 ⊢
    change (if(smT el er a b m).1=true then smL el er (l.take i) (r.take i) (smT el er a b m).2 else(false,(smT el er a b m).2))=_ at h3
    show(if(smT el er a b m).1=true then smL el er (l.take (i+1)) (r.take (i+1)) (smT el er a b m).2 else(false,(smT el er a b m).2))=_;by_cases hq:(smT el er a b m).1=true
    ·rw[if_pos hq]at h3 ⊢
     exact ih r i _ m' t u h1 h2 h3
    ·rw[if_neg hq]at h3
     cases h3
theorem zk2(el er:List (Name × Nat)):∀(l r:List Ty)(i m m':Nat),i<l.length->i<r.length->smL el er (l.take (i+1)) (r.take (i+1)) m=(false,m')->smL el er l r m=(false,m'):=by
 intro l;induction l with
 |nil=>intro r i m m' h;simp at h
 |cons a l ih =>
  intro r i m m' h1 h2 h3;cases r with
  |nil=>simp at h2
  |cons b r =>
   rw[List.take_succ_cons,List.take_succ_cons,smL]at h3
   change (if(smT el er a b m).1=true then smL el er (l.take i) (r.take i) (smT el er a b m).2 else(false,(smT el er a b m).2))=_ at h3
   rw[smL]
   show(if(smT el er a b m).1=true then smL el er l r (smT el er a b m).2 else(false,(smT el er a b m).2))=_;by_cases hq:(smT el er a b m).1=true
   ·rw[if_pos hq]at h3 ⊢
    cases i with
    |zero=>rw[List.take_zero,List.take_zero,smL]at h3;cases h3
    |succ i=>exact ih r i _ m' (by simpa using h1) (by simpa using h2) h3
   ·rw[if_neg hq]at h3 ⊢
    exact h3
theorem zmL(el er:List (Name × Nat))(t u:Ty)(m:Nat)(h:kd t≠kd u\/(kids t).length≠(kids u).length):smT el er t u m=(false,m):=by
 cases t <;> cases u <;> first
  |(exfalso;simp[kd,kids]at h;done)
  |(simp[smT];done)
  |skip
 rw[smT,if_neg]
 intro e;rcases h with h|h
 ·exact h rfl
 ·exact h e.1
theorem zk3(el er:List (Name × Nat))(x y:Name)(m:Nat):smT el er (.var x) (.var y) m=(decide ((look x el).getD 0=(look y er).getD 0/\(0<(look x el).getD 0\/x=y)),m):=by rw[smT]
theorem zny(el er:List (Name × Nat))(n k m:Nat):smT el er (.mt n) (.mt k) m=(decide (n=k),m):=by rw[smT]
theorem zoL(el er:List (Name × Nat))(c d:Name)(l r:List Ty)(m:Nat)(h:l.length=r.length):smT el er (.con c l) (.con d r) m=if c=d then smL el er l r m else(false,m):=by
 rw[smT]
 show(if l.length=r.length/\c=d then smL el er l r m else(false,m))=_;by_cases hc:c=d
 ·rw[if_pos ⟨h,hc⟩,if_pos hc]
 ·rw[if_neg (λe=>hc e.2),if_neg hc]
theorem zo6(el er:List (Name × Nat))(a b c d:Ty)(m:Nat):smT el er (.fn a b) (.fn c d) m=smL el er [a,b] [c,d] m:=by
 rw[smT,smL]
 show(if(smT el er a c m).1=true then smT el er b d (smT el er a c m).2 else(false,(smT el er a c m).2))=(if(smT el er a c m).1=true then smL el er [b] [d] (smT el er a c m).2 else(false,(smT el er a c m).2));by_cases hq:(smT el er a c m).1=true
 ·rw[if_pos hq,if_pos hq,smL]
  show _=(if(smT el er b d (smT el er a c m).2).1=true then smL el er [] [] (smT el er b d (smT el er a c m).2).2 else(false,(smT el er b d (smT el er a c m).2).2));rw[smL]
  cases hz:smT el er b d (smT el er a c m).2 with
  |mk q z=>cases q <;> rfl
 ·rw[if_neg hq,if_neg hq]
theorem zoM(el er:List (Name × Nat))(x y:Name)(t s:Ty)(m:Nat):smT el er (.all x t) (.all y s) m=smL ((x,m+1)::el) ((y,m+1)::er) [t] [s] (m+1):=by
 rw[smT,smL]
 show smT ((x,m+1)::el) ((y,m+1)::er) t s (m+1)=(if(smT ((x,m+1)::el) ((y,m+1)::er) t s (m+1)).1=true then smL ((x,m+1)::el) ((y,m+1)::er) [] [] (smT ((x,m+1)::el) ((y,m+1)::er) t s (m+1)).2 else(false,(smT ((x,m+1)::el) ((y,m+1)::er) t s (m+1)).2));rw[smL]
 cases hz:smT ((x,m+1)::el) ((y,m+1)::er) t s (m+1) with
 |mk q z=>cases q <;> rfl
mutual
theorem zdu:(t:Ty)->∀(el er:List (Name × Nat))(u:Ty)(m:Nat),m<=(smT el er t u m).2/\(smT el er t u m).2<=m+t.size
 |.var x,el,er,u,m=>by
  cases u <;> simp[smT]
 |.mt n,el,er,u,m=>by
  cases u <;> simp[smT]
 |.con c l,el,er,u,m=>by
  cases u with
  |con d r =>
   rw[smT]
   split
   ·have:=zf8 l el er r m
    rw[zas]
    exact⟨this.1,Nat.le_trans this.2 (by show m+zah l<=m+(zah l+1);omega)⟩
   ·exact⟨Nat.le_refl _,Nat.le_add_right _ _⟩
  |_=>simp[smT]
 |.fn a b,el,er,u,m=>by
  cases u with
  |fn c d =>
   rw[smT,zas]
   simp only[kids,zah];have h1:=zdu a el er c m;have h2:=zdu b el er d (smT el er a c m).2;split
   ·omega
   ·exact⟨h1.1,by show(smT el er a c m).2<=_;omega⟩
  |_=>simp[smT]
 |.all x t,el,er,u,m=>by
  cases u with
  |all y s =>
   rw[smT,zas]
   simp only[kids,zah];have h1:=zdu t ((x,m+1)::el) ((y,m+1)::er) s (m+1);omega
  |_=>simp[smT]
theorem zf8:(l:List Ty)->∀(el er:List (Name × Nat))(r:List Ty)(m:Nat),m<=(smL el er l r m).2/\(smL el er l r m).2<=m+zah l
 |[],el,er,r,m=>by rw[smL];exact⟨Nat.le_refl _,Nat.le_add_right _ _⟩
 |a::l,el,er,r,m=>by
  cases r with
  |nil=>simp[smL]
  |cons u s =>
   rw[smL,zah]
   have h1:=zdu a el er u m;have h2:=zf8 l el er s (smT el er a u m).2;split
   ·omega
   ·exact⟨h1.1,by show(smT el er a u m).2<=_;omega⟩
end
structure PairI (pb lb rb:Nat) (el er:List (Name × Nat)) (m:Nat) (w:World):Prop where
 pr:Blk w pb 118 #[.map (some lb),.map (some rb),.int .i64 (m:Nat)]
 le:MapE mkInt w lb el
 ri:MapE mkInt w rb er
 ne:pb≠lb/\pb≠rb/\lb≠rb
def PM(pb lb rb g:Nat):Prop:=g=pb\/g=lb\/g=rb
theorem PairI.keep {pb lb rb:Nat} {el er:List (Name × Nat)} {m:Nat} {w w':World}(h:PairI pb lb rb el er m w)(hk:∀g,PM pb lb rb g->w'.heap[g]?=w.heap[g]?):PairI pb lb rb el er m w' :=
 ⟨h.pr.same (hk _ (.inl rfl)),h.le.keep (hk _ (.inr (.inl rfl))),h.ri.keep (hk _ (.inr (.inr rfl))),h.ne⟩
theorem PairI.lt {pb lb rb:Nat} {el er:List (Name × Nat)} {m:Nat} {w:World}(h:PairI pb lb rb el er m w)(g:Nat)(hg:PM pb lb rb g):g<w.heap.size:=by
 rcases hg with rfl|rfl|rfl
 ·exact h.pr.lt
 ·exact h.le.lt
 ·exact h.ri.lt
theorem PairI.below {pb lb rb:Nat} {el er:List (Name × Nat)} {m:Nat} {w w':World}(h:PairI pb lb rb el er m w)(hb:Below w.heap.size w w'):PairI pb lb rb el er m w':=h.keep λg hg=>hb.block g (h.lt g hg)
def SPst(pb lb rb:Nat)(el er:List (Name × Nat))(p:Bool × Nat)(w:World)(e:Ending)(w':World):Prop :=
 e=.returned (.bool p.1)/\PairI pb lb rb el er p.2 w'/\Chg (PM pb lb rb) w w'
def zer(n pb lb rb:Nat):Prop:=∀(t u:Ty)(el er:List (Name × Nat))(m:Nat)(S Su:Nat->Prop)(v uv:Value)(w:World),t.size<=n->n<=100000000->PairI pb lb rb el er m w->RdV S w t v->RdV Su w u uv ->
 (∀g,S g->g<w.heap.size/\¬PM pb lb rb g)->(∀g,Su g->g<w.heap.size/\¬PM pb lb rb g)->Nm t->Nm u->el.length+t.size<=500000000->er.length+t.size<=500000000->m+t.size<=1000000000 ->
 Calls Tryz.prog 60 #[.pointer (some ⟨pb,0,none⟩),v,uv] w (SPst pb lb rb el er (smT el er t u m) w)
end Go.Proofs.YtfafilmklhnngaaGreatDoor
