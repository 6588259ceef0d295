import Derived.Test.YtfafilmklhnngaaGreatDoorBsAB
import Derived.Test.YtfafilmklhnngaaGreatDoorBsZ
set_option maxHeartbeats 12800000
set_option maxRecDepth 100000
namespace Go.Proofs.YtfafilmklhnngaaGreatDoor
open Tryz
section
open Go.RowKit Lx Tx Go.Maps Go.WideMaps Go.Shelf
structure Hs (c:UInt8) (lb nb sb mb:Nat) (but:List Name) (k:Nat) (w:World):Prop where
 let_:ar w lb 9 #[.string ⟨#[c]⟩]
 num:ar w nb 3 #[.int .i64 (k:Nat)]
 LH:ar w sb 93 #[.map (some mb)]
 set:iT mkSet w mb (kj but)
theorem Hs.al {c:UInt8} {lb nb sb mb:Nat} {but:List Name} {k:Nat} {w w':World}(h:Hs c lb nb sb mb but k w)(h0:w'.heap[lb]?=w.heap[lb]?)(h1:w'.heap[nb]?=w.heap[nb]?)(h2:w'.heap[sb]?=w.heap[sb]?)(h3:w'.heap[mb]?=w.heap[mb]?):Hs c lb nb sb mb but k w' :=
 ⟨h.let_.same h0,h.num.same h1,h.LH.same h2,h.set.al h3⟩
theorem Hs.below {c:UInt8} {lb nb sb mb:Nat} {but:List Name} {k:Nat} {w w':World}(h:Hs c lb nb sb mb but k w)(hb:Below w.heap.size w w'):Hs c lb nb sb mb but k w' :=
 h.al (hb.block _ h.let_.lt) (hb.block _ h.num.lt) (hb.block _ h.LH.lt) (hb.block _ h.set.lt)
theorem zqU(j:Nat)(h:j<10 ^ 15):(nm 120 j).length<=24:=by
 have:=J4 (Nm.var _ (UL j h));exact Cm (DD (show(nm 120 j).length=(nm 120 j).toArray.size by simp)) this
theorem zpc(c:UInt8)(but:List Name)(f j r:Nat)(h:KF c but f j=r)(hf:1<=f)(Fw:nm c j∈but):KF c but (f-1) (j+1)=r:=by
 obtain⟨f,rfl⟩:∃g,f=g+1:=⟨f-1,by omega⟩;rw[KF,Ch Fw]at h;exact h
theorem zm0(c:UInt8)(but:List Name)(f j r:Nat)(h:KF c but f j=r)(Fw:nm c j∉but):r=j:=by
 cases f with
 |zero=>exact h.symm
 |succ f=>rw[KF,Cg Fw]at h;exact h.symm
def zrR(c:UInt8)(lb nb sb mb:Nat)(but:List Name)(k:Nat)(w0:World)(gg:Nat)(wr:World):Prop :=
 ∃j:Nat,gg=k+but.length+1-j/\k<=j/\KF c but (but.length+1-(j-k)) j=FY c but k/\j<=FY c but k/\Hs c lb nb sb mb but j wr/\b_ (only nb) w0 wr
theorem zm1(c:UInt8)(lb nb sb mb:Nat)(but:List Name)(k:Nat)(w:World)(h:Hs c lb nb sb mb but k w)(ht:FO w)(h0:nb≠lb)(h1:nb≠sb)(h2:nb≠mb)(h3:nb≠0)(hk:k+but.length+1<10 ^ 15):Calls prog 85 #[.pointer (some ⟨lb,0,none⟩),.pointer (some ⟨nb,0,none⟩),.pointer (some ⟨sb,0,none⟩)] w λe w'=>e=.returned (.string ⟨(nm c (FY c but k)).toArray⟩)/\Hs c lb nb sb mb but (FY c but k+1) w'/\b_ (only nb) w w':=by
 obtain⟨_,iY,lM⟩:=MX c but k (by omega);have H:=EP h;have HT:=EP ht;have H3:=EP h3;clear h ht h3;go_in;go_wp2_with fail;go_loopg [] (but.length+1) (λgg wr=>zrR c lb nb sb mb but k w gg wr)
 case atStart =>
  exact⟨k,by omega,BU _,by rw[Nat.sub_self];rfl,iY,H.o,b_.refl _ _⟩
 case round =>
  obtain⟨j,lS,sG,hf,hj,hi,hc⟩:=hrel;obtain⟨z0,z1,z2⟩:=GG hi.let_;obtain⟨x0,x1,x2⟩:=GG hi.num;obtain⟨y0,y1,y2⟩:=GG hi.LH;have HI:=EP hi;have HC:=EP hc;have HF:=EP hf;have hit:=zkB j wr.drew (by omega) ((HT.o.al (hc.block _ HT.o.lt (by unfold only;exact λe=>H3.o e.symm))).al rfl);have HIT:=EP hit;have aA:(nm 120 j).length<=24:=zqU j (by omega);have fD:¬9223372036854775807<1+(dec j).length:=by have:(nm 120 j).length=(dec j).length+1:=rfl;omega
  have gR:Hid (Hs c lb nb sb mb but j wr.drew):=EP (hi.al rfl rfl rfl rfl);have bh:Hid (∀W:World,Hs c lb nb sb mb but j W->W.cell? ⟨lb,0,none⟩=some (.string ⟨#[c]⟩)/\W.cell? ⟨nb,0,none⟩=some (.int .i64 (j:Nat))):=EP λW h=>⟨h.let_.cell 0,h.num.cell 0⟩;clear hi hc hf hit;go_wp2_with fail
  go_region_held3 (λW=>W.cell? ⟨lb,0,none⟩=some (.string ⟨#[c]⟩)/\W.cell? ⟨nb,0,none⟩=some (.int .i64 (j:Nat))) (first|(with_reducible exact⟨z0,x0⟩)|(with_reducible exact bh.o _ gR.o)|(with_reducible exact bh.o _ fN.o))
   ((first|((with_reducible refine HIT.o.mono ?_);rintro e w1 ⟨rfl,b1⟩;have fN:=EP (gR.o.below b1);have B1:=EP b1;clear b1)))
  have i1:=fN.o;obtain⟨p0,p1,p2⟩:=GG i1.num;obtain⟨q0,q1,q2⟩:=GG i1.LH;clear i1 HIT;obtain⟨X,hX⟩:∃X:ByteArray,(({ data:=#[c] } : ByteArray)++{ data:=(dec j).toArray })=X:=⟨_,rfl⟩;have TG:X.data.toList=nm c j:=by rw[<-hX];simp[nm]
  have bA:X.size<=maxLen:=by show X.data.size<=maxLen;rw[<-EI,TG];have:(nm c j).length=(nm 120 j).length:=rfl;unfold maxLen;omega
  have bL:iT mkSet (w1.setCell ⟨nb,0,none⟩ (.int .i64 ((j:Int)+1))) mb (kj but):=fN.o.set.al (B8 w1 ⟨nb,0,none⟩ _ mb (λe=>h2 e.symm));have bJ:=bL.He X bA;rw[QV,TG]at bJ;have xe:=EP TG;have HJ:Hid (j<10 ^ 15):=EP (by omega);have I2:Hid (Hs c lb nb sb mb but (j+1) (w1.setCell ⟨nb,0,none⟩ (.int .i64 ((j:Int)+1)))):=EP ⟨fN.o.let_.I8 (p:=⟨nb,0,none⟩) (λe=>h0 e.symm) _,by
   have:=one_setCell (u:=.int .i64 ((j:Int)+1)) fN.o.num;exact this,fN.o.LH.I8 (p:=⟨nb,0,none⟩) (λe=>h1 e.symm) _,bL⟩
  have C2:Hid (b_ (only nb) w (w1.setCell ⟨nb,0,none⟩ (.int .i64 ((j:Int)+1)))):=EP ((HC.o.drew.below B1.o).setCell (p:=⟨nb,0,none⟩) (.inr rfl) _);clear aA bL TG;by_cases Fw:nm c j∈but
  ·rw[Ch Fw]at bJ
   replace bJ:(Instr.lookup 93 (.map (some mb)) (.string X) true).run prog (w1.setCell ⟨nb,0,none⟩ (.int .i64 ((j:Int)+1)))=.ok (.tuple #[.agg #[],.bool true]) (w1.setCell ⟨nb,0,none⟩ (.int .i64 ((j:Int)+1))):=bJ;have hf:=HF.o;have sA:j≠k+but.length+1:=by omega
   have ai:j≠FY c but k:=λe=>by
    have:=(MX c but k (by omega)).1;rw[<-e]at this;exact this Fw
   have HF2:=EP (zpc c but _ j _ hf (by omega) Fw);clear Fw hf;go_wp2_with fail;go_roundg (k+but.length+1-(j+1))
   case measure=>omega
   case rel =>
    refine⟨j+1,rfl,by omega,?_,by omega,⟨I2.o.let_.alloc _,I2.o.num.alloc _,I2.o.LH.alloc _,I2.o.set.al (BX _ _ _ I2.o.set.lt)⟩,C2.o.alloc _⟩;rw[show but.length+1-(j+1-k)=but.length+1-(j-k)-1 by omega];exact HF2.o
  ·rw[Cg Fw]at bJ
   replace bJ:(Instr.lookup 93 (.map (some mb)) (.string X) true).run prog (w1.setCell ⟨nb,0,none⟩ (.int .i64 ((j:Int)+1)))=.ok (.tuple #[.agg #[],.bool false]) (w1.setCell ⟨nb,0,none⟩ (.int .i64 ((j:Int)+1))):=bJ;have HK:=EP (zm0 c but _ j _ HF.o Fw);clear Fw;go_wp2_with fail;go_ret
   rw[HK.o];refine⟨?_,⟨I2.o.let_.alloc _,I2.o.num.alloc _,I2.o.LH.alloc _,I2.o.set.al (BX _ _ _ I2.o.set.lt)⟩,C2.o.alloc _⟩;rw[<-xe.o,<-hX];rfl
def G4(lb nb sb:Nat):Value:=.func (.func 85) #[] #[.pointer (some ⟨lb,0,none⟩),.pointer (some ⟨nb,0,none⟩),.pointer (some ⟨sb,0,none⟩)]
theorem zgb(c:UInt8)(X:ByteArray)(hX:X=⟨#[c]⟩)(mb:Nat)(but:List Name)(w:World)(h:iT mkSet w mb (kj but)):Calls prog 40 #[.string X,.map (some mb)] w λe w'=>e=.returned (G4 w.heap.size (w.heap.size+2) (w.heap.size+1))/\Hs c w.heap.size (w.heap.size+2) (w.heap.size+1) mb but 0 w'/\Below w.heap.size w w':=by
 subst hX;have iZ:∀(fn:Fn) (first cap:Array Value) (w:World),(Instr.makeFunc fn first cap).run prog w=.ok (.func fn first cap) w:=λ_ _ _ _=>rfl;have H:=EP h;clear h;go_in
 go_wp2_with fail;go_ret
 obtain⟨h0,h1,h2,aZ,aV⟩:=MU w (.cells #[.string ⟨#[c]⟩] 9) (.cells #[.map (some mb)] 93) (.cells #[.int .i64 0] 3);exact⟨rfl,⟨h0,h2,h1,H.o.al (aV.block _ H.o.lt)⟩,aV⟩
def LI(k:Int)(s:ByteArray):Value:=.agg #[.int .i64 k,.string s,.int .i64 0,.slice none 0 0]
theorem zkF {k k':Int} {s s':ByteArray}(h:LI k s=LI k' s'):k=k'/\s=s':=by
 unfold LI at h;injection h with h;have h:=Cp Array.toList h;simp only[DF,Value.int.injEq,Value.string.injEq,and_true,true_and]at h;exact h
open Classical in
noncomputable def GY (v:Value):Option (DataW Unit × List MemPlace) :=
 if h:∃s:ByteArray,v=LI 1 s then some (.lit (.string h.choose.data.toList),[]) else if v=LI 0 ⟨#[]⟩ then some (.nil,[]) else none
theorem zlF(s:ByteArray):GY (LI 1 s)=some (.lit (.string s.data.toList),[]):=by
 have h:∃s':ByteArray,LI 1 s=LI 1 s':=⟨s,rfl⟩;unfold GY;rw[dif_pos h,<-(zkF h.choose_spec).2]
theorem zpd:GY (LI 0 ⟨#[]⟩)=some (.nil,[]):=by
 unfold GY;rw[dif_neg (λ⟨s,h⟩=>by have:=(zkF h).1;omega),Ch rfl]
theorem zlG {x:Value} {v:Name} {ps:List MemPlace}(h:GY x=some (.lit (.string v),ps)):x=LI 1 ⟨v.toArray⟩:=by
 unfold GY at h;split at h
 ·rename_i hx
  injection h with h;injection h with h _;injection h with h;injection h with h;rw[<-h]
  exact hx.choose_spec
 ·split at h
  ·injection h with h
   injection h with h _;cases h
  ·cases h
theorem zkh {x:Value} {ps:List MemPlace}(h:GY x=some (.nil,ps)):x=LI 0 ⟨#[]⟩:=by
 unfold GY at h;split at h
 ·injection h with h
  injection h with h _;cases h
 ·split at h
  ·rename_i hx;exact hx
  ·cases h
noncomputable def FE:MK Name where
 t:=160
 e:=37
 R:=GY
 enc y:=.lit (.string y)
 val y:=LI 1 ⟨y.toArray⟩
 ok _:=True
 z:=LI 0 ⟨#[]⟩
 zd:=.nil
 hT:=underlying160
 hz _:=by kernel_rfl
 hR y _:=zlF _
 Rf:=zpd
 inv _ _ _ h:=zlG h
 Mm _ _ h:=zkh h
def kO:Option Name->Int
 |none=>0
 |some _=>1
def sO:Option Name->ByteArray
 |none=>⟨#[]⟩
 |some y=>⟨y.toArray⟩
theorem zkG(o:Option Name):FE.J7 o=.agg #[.int .i64 (kO o),.string (sO o),.int .i64 0,.slice none 0 0]:=by
 cases o <;> rfl
def La(w:World)(N mb:Nat)(X:ByteArray)(env:List (Name × Name)):Prop :=
 ar w N 160 #[.map (some mb)]/\ar w (N+1) 9 #[.string X]/\ar w (N+3) 37 #[.int .i64 (kO (look X.data.toList env)),.string (sO (look X.data.toList env)),.int .i64 0,.slice none 0 0]/\ar w (N+4) 4 #[.bool (look X.data.toList env).isSome]
theorem La.al {w w':World} {N mb:Nat} {X:ByteArray} {env:List (Name × Name)}(h:La w N mb X env)(hk:∀k,N<=k->k<=N+4->w'.heap[k]?=w.heap[k]?):La w' N mb X env :=
 ⟨h.1.same (hk _ (by omega) (by omega)),h.2.1.same (hk _ (by omega) (by omega)),h.2.2.1.same (hk _ (by omega) (by omega)),h.2.2.2.same (hk _ (by omega) (by omega))⟩
def RS(N:Nat):Value:=.func (.func 171) #[] #[.pointer (some ⟨N+4,0,none⟩),.pointer (some ⟨N+3,0,none⟩),.pointer (some ⟨N,0,none⟩),.pointer (some ⟨N+1,0,none⟩)]
theorem zrS(w:World)(o0 o1 o2 o3 o4:Obj):(((((w.alloc o0).alloc o1).alloc o2).alloc o3).alloc o4).heap[w.heap.size]?=some o0/\(((((w.alloc o0).alloc o1).alloc o2).alloc o3).alloc o4).heap[w.heap.size+1]?=some o1 /\
  (((((w.alloc o0).alloc o1).alloc o2).alloc o3).alloc o4).heap[w.heap.size+3]?=some o3/\(((((w.alloc o0).alloc o1).alloc o2).alloc o3).alloc o4).heap[w.heap.size+4]?=some o4/\(((((w.alloc o0).alloc o1).alloc o2).alloc o3).alloc o4).heap.size=w.heap.size+5 /\
  Below w.heap.size w (((((w.alloc o0).alloc o1).alloc o2).alloc o3).alloc o4):=by
 obtain⟨h0,h1,h2,h3,hs,hb⟩:=MS w o0 o1 o2 o3;exact⟨(BX _ _ _ (by omega)).trans h0,(BX _ _ _ (by omega)).trans h1,(BX _ _ _ (by omega)).trans h3,by have:=BZ ((((w.alloc o0).alloc o1).alloc o2).alloc o3) o4;rw[hs]at this;exact this,(size_alloc _ _).trans (by omega),hb.alloc (by omega) _⟩
theorem zh0(mb:Nat)(env:List (Name × Name))(X Y:ByteArray)(w:World)(h:iT FE w mb env)(hX:X.size<=maxLen)(hn:env.length<100000000000000):Calls prog 133 #[.map (some mb),.string X,.agg #[.int .i64 1,.string Y,.int .i64 0,.slice none 0 0]] w λe w'=>e=.returned (RS w.heap.size)/\La w' w.heap.size mb X env/\iT FE w' mb ((X.data.toList,Y.data.toList)::env)/\b_ (only mb) w w':=by
 have af:=h.lt;have jA:=(MU w (.cells #[.map (some mb)] 160) (.cells #[.string X] 9) (.cells #[.int .i64 1,.string Y,.int .i64 0,.slice none 0 0] 37)).2.2.2.2;have h1:=h.al (jA.block _ af);have bw:=h1.He X hX;rw[zkG]at bw;obtain⟨k,hk⟩:∃k,kO (look X.data.toList env)=k:=⟨_,rfl⟩;obtain⟨s,hs⟩:∃s,sO (look X.data.toList env)=s:=⟨_,rfl⟩;obtain⟨q,hq⟩:∃q,(look X.data.toList env).isSome=q:=⟨_,rfl⟩;unfold La;rw[hk,hs,hq]at bw ⊢;replace bw:(Instr.lookup 160 (.map (some mb)) (.string X) true).run prog _=.ok (.tuple #[.agg #[.int .i64 k,.string s,.int .i64 0,.slice none 0 0],.bool q]) _:=bw;obtain⟨l0,l1,l3,l4,ls,lb⟩:=zrS w (.cells #[.map (some mb)] 160) (.cells #[.string X] 9) (.cells #[.int .i64 1,.string Y,.int .i64 0,.slice none 0 0] 37) (.cells #[.int .i64 k,.string s,.int .i64 0,.slice none 0 0] 37) (.cells #[.bool q] 4);have HM:=EP (h.al (lb.block _ af));have HX:=EP hX;have HN:=EP hn;have L0:=EP l0;have L1:=EP l1;have L3:=EP l3;have L4:=EP l4;have LS:=EP ls;have LB:=EP lb;have iZ:∀(fn:Fn) (first cap:Array Value) (w:World),(Instr.makeFunc fn first cap).run prog w=.ok (.func fn first cap) w:=λ_ _ _ _=>rfl;clear h h1 hk hs hq hX hn jA l0 l1 l3 l4 ls lb;go_in
 go_wp2_with (at_mapUpdate;refine QW FE _ rfl _ _ _ rfl mb env rfl HM.o HN.o X HX.o rfl Y.data.toList trivial rfl ?_;intro w1 aT aS;have dP:=EP aT;have mh:=EP aS;clear aT aS);go_ret
 have hk:∀k,k<w.heap.size+5->k≠mb->_:=λk hk ai=>mh.o.block k (by rw[LS.o];exact hk) (λe=>ai (by injection e));exact⟨rfl,⟨(hk _ (by omega) (by omega)).trans L0.o,(hk _ (by omega) (by omega)).trans L1.o,(hk _ (by omega) (by omega)).trans L3.o,(hk _ (by omega) (by omega)).trans L4.o⟩,dP.o,(b_.c_ LB.o).grown mh.o (λk hk=>.inr (by injection hk with hk;exact hk.symm))⟩
end
section
open Go.RowKit Lx Tx Go.Maps Go.WideMaps Go.Shelf
set_option maxRecDepth 100000
theorem zgc(N mb:Nat)(env:List (Name × Name))(X:ByteArray)(y:Name)(u:FrameMode)(w:World)(hc:La w N mb X env)(h:iT FE w mb ((X.data.toList,y)::env))(e9:Canon (Fi FE.enc env))(hX:X.size<=maxLen)(hn:env.length<100000000000000):CallsD prog 171 #[.pointer (some ⟨N+4,0,none⟩),.pointer (some ⟨N+3,0,none⟩),.pointer (some ⟨N,0,none⟩),.pointer (some ⟨N+1,0,none⟩)] u w λe u' w'=>u'=u/\e=.returned (.tuple #[])/\iT FE w' mb env/\b_ (only mb) w w':=by
 obtain⟨h0,h1,h2,h3⟩:=hc;obtain⟨a0,-,l0⟩:=GG h0;obtain⟨a1,-,l1⟩:=GG h1;obtain⟨p0,p1,p2,p3,s0,s1,s2,s3,dp⟩:=n_ h2;obtain⟨a3,-,l3⟩:=GG h3;clear h0 h1 h2 h3;have HM:=EP h;have HX:=EP hX;have HN:=EP hn;have HC:=EP e9;cases hl:look X.data.toList env with
 |none =>
  rw[hl]at a3;replace a3:w.cell? ⟨N+4,0,none⟩=some (.bool false):=a3;have HL:=EP hl;clear h hX hn e9 hl p0 p1 p2 p3 s0 s1 s2 s3;go_enter_d func171,ntmps171;go_wp2_with (at_delete;refine zf9 FE _ rfl _ _ rfl mb env rfl X y HM.o HL.o HC.o HX.o rfl ?_;intro w1 aT aS);go_end0
  exact⟨rfl,aT,(b_.refl (only mb) w).grown aS (λk hk=>.inr (by injection hk with hk;exact hk.symm))⟩
 |some z =>
  rw[hl]at a3 p0 p1;replace a3:w.cell? ⟨N+4,0,none⟩=some (.bool true):=a3;replace p0:w.cell? ⟨N+3,0,none⟩=some (.int .i64 1):=p0;replace p1:w.cell? ⟨N+3,1,none⟩=some (.string ⟨z.toArray⟩):=p1;have HL:=EP hl;clear h hX hn e9 hl;go_enter_d func171,ntmps171;go_wp2_with (at_mapUpdate;refine zf8 FE _ rfl _ _ _ rfl mb env rfl X y z HM.o HL.o HC.o HN.o HX.o rfl trivial rfl ?_;intro w1 aT aS);go_end0
  exact⟨rfl,aT,(b_.refl (only mb) w).grown aS (λk hk=>.inr (by injection hk with hk;exact hk.symm))⟩
set_option maxRecDepth 100000
theorem zdU {P:Program}(w:World)(g:Nat)(t ty:TypeId)(x:Value)(d:TypeDesc)(hg:ar w g t #[x])(hu:P.underlying ty=some d)(hd:(match d with|.struct _|.array _ _=>true|_=>false)=false):(loadVar ty ⟨g,0,none⟩).run P w=.ok x w:=by
 have Zy:(isAgg ty).run P w=.ok false w:=by
  unfold isAgg;rw[Sem.run_bind,run_underlying hu w];cases d <;> simp_all
 have hc:w.cell? ⟨g,0,none⟩=some x:=hg.cell 0;simp[loadVar,Sem.run_bind,Zy,hc]
theorem zgV {P:Program} {fn:Func} {p q:Tmp} {ty Wv:TypeId}(h:fn.results=#[.cell p ty,.cell q Wv])(tmps:Array Value)(w:World)(g g':Nat)(t t':TypeId)(x x':Value)(d d':TypeDesc)
  (hp:tmps.getD p undef=.pointer (some ⟨g,0,none⟩))(hq:tmps.getD q undef=.pointer (some ⟨g',0,none⟩))(hg:ar w g t #[x])(jN:ar w g' t' #[x'])
  (hu:P.underlying ty=some d)(hd:(match d with|.struct _|.array _ _=>true|_=>false)=false)(oj:P.underlying Wv=some d')(jO:(match d' with|.struct _|.array _ _=>true|_=>false)=false):(results fn tmps).run P w=.ok (.tuple #[x,x']) w:=by
 have bY:tmps[p]?.getD undef=.pointer (some ⟨g,0,none⟩):=by simpa using hp
 have fx:tmps[q]?.getD undef=.pointer (some ⟨g',0,none⟩):=by simpa using hq
 simp[results,h,bY,fx,asAddr,zdU w g t ty x d hg hu hd,zdU w g' t' Wv x' d' jN oj jO]
end
section
open Go.RowKit Lx Tx Go.Maps Go.WideMaps Go.Shelf
mutual
def t_(el er:List (Name × Nat)):Ty->Ty->Nat->Bool × Nat
 |.var x,u,m=>match u with
  |.var y=>(decide ((look x el).getD 0=(look y er).getD 0/\(0<(look x el).getD 0\/x=y)),m)
  |_=>(false,m)
 |.mt n,u,m=>match u with
  |.mt k=>(decide (n=k),m)
  |_=>(false,m)
 |.h_ c l,u,m=>match u with
  |.h_ d r=>if l.length=r.length/\c=d then Gc el er l r m else(false,m)
  |_=>(false,m)
 |.fn a b,u,m=>match u with
  |.fn c d=>if(t_ el er a c m).1=true then t_ el er b d (t_ el er a c m).2 else(false,(t_ el er a c m).2)
  |_=>(false,m)
 |.all x t,u,m=>match u with
  |.all y s=>t_ ((x,m+1)::el) ((y,m+1)::er) t s (m+1)
  |_=>(false,m)
def Gc(el er:List (Name × Nat)):List Ty->List Ty->Nat->Bool × Nat
 |[],_,m=>(true,m)
 |t::r,l2,m=>match l2 with
  |[]=>(true,m)
  |u::s=>if(t_ el er t u m).1=true then Gc el er r s (t_ el er t u m).2 else(false,(t_ el er t u m).2)
end
theorem zpf(el er:List (Name × Nat)):∀(l r:List Ty)(i m m':Nat)(t u:Ty),l[i]?=some t->r[i]?=some u->Gc el er (l.take i) (r.take i) m=(true,m')->Gc el er (l.take (i+1)) (r.take (i+1)) m=t_ el er t u m':=by
 intro l;induction l with
 |nil=>intro r i m m' t u h;simp at h
 |cons a l ih =>
  intro r i m m' t u h1 h2 h3;cases r with
  |nil=>simp at h2
  |cons b r =>
   cases i with
   |zero =>
    injection h1 with h1;injection h2 with h2;subst h1 h2;rw[CK,CK,Gc]at h3
    injection h3 with _ h3;subst h3;rw[CX,CX,CK,CK,Gc]
    show(if(t_ el er a b m).1=true then Gc el er [] [] (t_ el er a b m).2 else(false,(t_ el er a b m).2))=_;rw[Gc];cases hq:t_ el er a b m with
    |mk q z=>cases q <;> rfl
   |succ i =>
    rw[CX,CX,Gc]at h3 ⊢;change (if(t_ el er a b m).1=true then Gc el er (l.take i) (r.take i) (t_ el er a b m).2 else(false,(t_ el er a b m).2))=_ at h3
    show(if(t_ el er a b m).1=true then Gc el er (l.take (i+1)) (r.take (i+1)) (t_ el er a b m).2 else(false,(t_ el er a b m).2))=_;by_cases hq:(t_ el er a b m).1=true
    ·rw[Ch hq]at h3 ⊢
     exact ih r i _ m' t u h1 h2 h3
    ·rw[Cg hq]at h3
     cases h3
theorem znd(el er:List (Name × Nat)):∀(l r:List Ty)(i m m':Nat),i<l.length->i<r.length->Gc el er (l.take (i+1)) (r.take (i+1)) m=(false,m')->Gc el er l r m=(false,m'):=by
 intro l;induction l with
 |nil=>intro r i m m' h;simp at h
 |cons a l ih =>
  intro r i m m' h1 h2 h3;cases r with
  |nil=>simp at h2
  |cons b r =>
   rw[CX,CX,Gc]at h3;change (if(t_ el er a b m).1=true then Gc el er (l.take i) (r.take i) (t_ el er a b m).2 else(false,(t_ el er a b m).2))=_ at h3
   rw[Gc];show(if(t_ el er a b m).1=true then Gc el er l r (t_ el er a b m).2 else(false,(t_ el er a b m).2))=_;by_cases hq:(t_ el er a b m).1=true
   ·rw[Ch hq]at h3 ⊢
    cases i with
    |zero=>rw[CK,CK,Gc]at h3;cases h3
    |succ i=>exact ih r i _ m' (by simpa using h1) (by simpa using h2) h3
   ·rw[Cg hq]at h3 ⊢
    exact h3
theorem zpg(el er:List (Name × Nat))(t u:Ty)(m:Nat)(h:kd t≠kd u\/(kids t).length≠(kids u).length):t_ el er t u m=(false,m):=by
 cases t <;> cases u <;> first
  |(exfalso;simp[kd,kids]at h;done)
  |(simp[t_];done)
  |skip
 rw[t_,Cg];intro e;rcases h with h|h
 ·exact h rfl
 ·exact h e.1
theorem zne(el er:List (Name × Nat))(x y:Name)(m:Nat):t_ el er (.var x) (.var y) m=(decide ((look x el).getD 0=(look y er).getD 0/\(0<(look x el).getD 0\/x=y)),m):=by rw[t_]
theorem zqj(el er:List (Name × Nat))(n k m:Nat):t_ el er (.mt n) (.mt k) m=(decide (n=k),m):=by rw[t_]
theorem zrx(el er:List (Name × Nat))(c d:Name)(l r:List Ty)(m:Nat)(h:l.length=r.length):t_ el er (.h_ c l) (.h_ d r) m=if c=d then Gc el er l r m else(false,m):=by
 rw[t_];show(if l.length=r.length/\c=d then Gc el er l r m else(false,m))=_;by_cases hc:c=d
 ·rw[Ch ⟨h,hc⟩,Ch hc]
 ·rw[Cg (λe=>hc e.2),Cg hc]
theorem zrT(el er:List (Name × Nat))(a b c d:Ty)(m:Nat):t_ el er (.fn a b) (.fn c d) m=Gc el er [a,b] [c,d] m:=by
 rw[t_,Gc];show(if(t_ el er a c m).1=true then t_ el er b d (t_ el er a c m).2 else(false,(t_ el er a c m).2))=(if(t_ el er a c m).1=true then Gc el er [b] [d] (t_ el er a c m).2 else(false,(t_ el er a c m).2));by_cases hq:(t_ el er a c m).1=true
 ·rw[Ch hq,Ch hq,Gc]
  show _=(if(t_ el er b d (t_ el er a c m).2).1=true then Gc el er [] [] (t_ el er b d (t_ el er a c m).2).2 else(false,(t_ el er b d (t_ el er a c m).2).2));rw[Gc];cases hz:t_ el er b d (t_ el er a c m).2 with
  |mk q z=>cases q <;> rfl
 ·rw[Cg hq,Cg hq]
theorem zry(el er:List (Name × Nat))(x y:Name)(t s:Ty)(m:Nat):t_ el er (.all x t) (.all y s) m=Gc ((x,m+1)::el) ((y,m+1)::er) [t] [s] (m+1):=by
 rw[t_,Gc];show t_ ((x,m+1)::el) ((y,m+1)::er) t s (m+1)=(if(t_ ((x,m+1)::el) ((y,m+1)::er) t s (m+1)).1=true then Gc ((x,m+1)::el) ((y,m+1)::er) [] [] (t_ ((x,m+1)::el) ((y,m+1)::er) t s (m+1)).2 else(false,(t_ ((x,m+1)::el) ((y,m+1)::er) t s (m+1)).2));rw[Gc];cases hz:t_ ((x,m+1)::el) ((y,m+1)::er) t s (m+1) with
 |mk q z=>cases q <;> rfl
mutual
theorem Px:(t:Ty)->∀(el er:List (Name × Nat))(u:Ty)(m:Nat),m<=(t_ el er t u m).2/\(t_ el er t u m).2<=m+t.size
 |.var x,el,er,u,m=>by
  cases u <;> simp[t_]
 |.mt n,el,er,u,m=>by
  cases u <;> simp[t_]
 |.h_ c l,el,er,u,m=>by
  cases u with
  |h_ d r =>
   rw[t_];split
   ·have:=U6 l el er r m
    rw[Gv];exact⟨this.1,Cm this.2 (by show m+q_ l<=m+(q_ l+1);omega)⟩
   ·exact⟨BU _,D4 _ _⟩
  |_=>simp[t_]
 |.fn a b,el,er,u,m=>by
  cases u with
  |fn c d =>
   rw[t_,Gv];simp only[kids,q_];have h1:=Px a el er c m;have h2:=Px b el er d (t_ el er a c m).2;split
   ·omega
   ·exact⟨h1.1,by show(t_ el er a c m).2<=_;omega⟩
  |_=>simp[t_]
 |.all x t,el,er,u,m=>by
  cases u with
  |all y s =>
   rw[t_,Gv];simp only[kids,q_];have h1:=Px t ((x,m+1)::el) ((y,m+1)::er) s (m+1);omega
  |_=>simp[t_]
theorem U6:(l:List Ty)->∀(el er:List (Name × Nat))(r:List Ty)(m:Nat),m<=(Gc el er l r m).2/\(Gc el er l r m).2<=m+q_ l
 |[],el,er,r,m=>by rw[Gc];exact⟨BU _,D4 _ _⟩
 |a::l,el,er,r,m=>by
  cases r with
  |nil=>simp[Gc]
  |cons u s =>
   rw[Gc,q_];have h1:=Px a el er u m;have h2:=U6 l el er s (t_ el er a u m).2;split
   ·omega
   ·exact⟨h1.1,by show(t_ el er a u m).2<=_;omega⟩
end
structure FK (pb lb rb:Nat) (el er:List (Name × Nat)) (m:Nat) (w:World):Prop where
 pr:ar w pb 118 #[.map (some lb),.map (some rb),.int .i64 (m:Nat)]
 le:iT mkInt w lb el
 ri:iT mkInt w rb er
 ne:pb≠lb/\pb≠rb/\lb≠rb
def PM(pb lb rb g:Nat):Prop:=g=pb\/g=lb\/g=rb
theorem FK.al {pb lb rb:Nat} {el er:List (Name × Nat)} {m:Nat} {w w':World}(h:FK pb lb rb el er m w)(hk:∀g,PM pb lb rb g->w'.heap[g]?=w.heap[g]?):FK pb lb rb el er m w' :=
 ⟨h.pr.same (hk _ (.inl rfl)),h.le.al (hk _ (.inr (.inl rfl))),h.ri.al (hk _ (.inr (.inr rfl))),h.ne⟩
theorem FK.lt {pb lb rb:Nat} {el er:List (Name × Nat)} {m:Nat} {w:World}(h:FK pb lb rb el er m w)(g:Nat)(hg:PM pb lb rb g):g<w.heap.size:=by
 rcases hg with rfl|rfl|rfl
 ·exact h.pr.lt
 ·exact h.le.lt
 ·exact h.ri.lt
theorem FK.below {pb lb rb:Nat} {el er:List (Name × Nat)} {m:Nat} {w w':World}(h:FK pb lb rb el er m w)(hb:Below w.heap.size w w'):FK pb lb rb el er m w':=h.al λg hg=>hb.block g (h.lt g hg)
def Ju(pb lb rb:Nat)(el er:List (Name × Nat))(p:Bool × Nat)(w:World)(e:Ending)(w':World):Prop :=
 e=.returned (.bool p.1)/\FK pb lb rb el er p.2 w'/\b_ (PM pb lb rb) w w'
def Qh(n pb lb rb:Nat):Prop:=∀(t u:Ty)(el er:List (Name × Nat))(m:Nat)(S Su:Nat->Prop)(v uv:Value)(w:World),t.size<=n->n<=10000000000000->FK pb lb rb el er m w->nc S w t v->nc Su w u uv ->
 (∀g,S g->g<w.heap.size/\¬PM pb lb rb g)->(∀g,Su g->g<w.heap.size/\¬PM pb lb rb g)->Nm t->Nm u->el.length+t.size<=50000000000000->er.length+t.size<=50000000000000->m+t.size<=100000000000000 ->
 Calls prog 60 #[.pointer (some ⟨pb,0,none⟩),v,uv] w (Ju pb lb rb el er (t_ el er t u m) w)
end
end Go.Proofs.YtfafilmklhnngaaGreatDoor
