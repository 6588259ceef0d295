import Derived.Test.YtaomnlcplmkokaaGreatDoorBiAF
import Derived.Test.YtaomnlcplmkokaaGreatDoorBiAH
set_option maxHeartbeats 12800000
namespace Go.Proofs.YtaomnlcplmkokaaGreatDoor
open Go.RowKit Lx Tx Go.Maps Go.WideMaps Go.Shelf
set_option maxRecDepth 100000
def zaZ:List (Name × Ty)->List UInt8
 |[]=>[]
 |(x,t)::l=>59::(x++61::(t.canonT.print++zaZ l))
theorem zfd(x:Name)(t:Ty):(l:List (Name × Ty))->zaZ (l++[(x,t)])=zaZ l++(59::(x++61::t.canonT.print))
 |[]=>by simp[zaZ]
 |(y,u)::l=>by rw[List.cons_append,zaZ,zaZ,zfd x t l];simp
theorem ziQ(l:List (Name × Ty))(h:∀e∈l,e.1.length<=24/\Nm e.2/\e.2.size<=1000):(zaZ l).length<=41000*l.length:=by
 induction l with
 |nil=>simp[zaZ]
 |cons e l ih =>
  obtain⟨x,t⟩:=e;obtain⟨h1,h2,h3⟩:=h _ List.mem_cons_self;have h1:x.length<=24:=h1;have h2:Nm t:=h2;have h3:t.size<=1000:=h3;have h4:=ih (λe he=>h e (List.mem_cons_of_mem _ he));have h5:=(zbE t.canonT (zcN t h2 (by omega))).1;have h6:t.canonT.size=t.size:=by rw[<-zcM];exact zb7 _ _ _ _
  rw[zaZ]
  simp only[List.length_cons,List.length_append];omega
theorem zke(q:List (Name × TV))(i:Nat)(hi:i<q.length):(za2 q)[i*5]?=some (.string ⟨q[i].1.toArray⟩)/\(za2 q)[i*5+1]?=some (.int .i64 q[i].2.k)/\(za2 q)[i*5+2]?=some (.string q[i].2.x)/\(za2 q)[i*5+3]?=some (.int .i64 q[i].2.z)/\(za2 q)[i*5+4]?=some (.slice q[i].2.a q[i].2.m q[i].2.p):=by
 induction q generalizing i with
 |nil=>simp at hi
 |cons e q ih =>
  cases i with
  |zero=>exact⟨rfl,rfl,rfl,rfl,rfl⟩
  |succ i =>
   have hh:=ih i (by simpa using hi);have e5:(i+1)*5=i*5+1+1+1+1+1:=by omega
   have hb:za2 (e::q)=.string ⟨e.1.toArray⟩::.int .i64 e.2.k::.string e.2.x::.int .i64 e.2.z::.slice e.2.a e.2.m e.2.p::za2 q:=rfl;rw[hb,e5]
   simpa using hh
theorem RelV.at {S:Nat->Prop} {w:World} : ∀(r:List (Name × Ty))(q:List (Name × TV))(i:Nat)(hr:i<r.length)(hq:i<q.length),RelV S w r q->r[i].1=q[i].1/\RdV S w r[i].2 q[i].2.val
 |[],_,i,hr,_,_=>by simp at hr
 |_::_,[],i,_,hq,_=>by simp at hq
 |(x,t)::r,(y,v)::q,i,hr,hq,h=>by
  rw[RelV]at h
  cases i with
  |zero=>exact⟨h.1,h.2.1⟩
  |succ i=>exact RelV.at r q i (by simpa using hr) (by simpa using hq) h.2.2
theorem zn5 {w:World} {B n cp:Nat} {A:Option Addr} {q:List (Name × TV)}(h:w.ownsRow B 56 5 (.slice A n cp) n (za2 q)) {i:Nat}(hi:i<n):∃g,A=some ⟨g,0,none⟩/\g<w.heap.size/\∀W:World,W.heap[g]?=w.heap[g]?->∀(k:Nat) u,(za2 q)[k]?=some u->W.cell? ⟨g,k,none⟩=some u:=by
 have hc:=λg hg=>h.cells (g:=g) hg;have hlt:=h.lt;rcases h.2 with⟨h0,h1⟩|⟨g,cap,cur,hv,hB,_⟩
 ·omega
 ·injection hv with h1 h2 h3
  subst h1;refine⟨g,rfl,(hlt g rfl).2,λW hW k u hu=>?_⟩;have h4:=hc g rfl k u hu;have hadd:(⟨g,0,none⟩:Addr).add k=⟨g,k,none⟩:=by unfold Addr.add;split <;> simp_all
  rw[hadd]at h4
  exact(World.cell?_of_block (w:=w) (a:=⟨g,k,none⟩) hW).trans h4
def HeadTd(l:List (Name × Ty))(n:Nat)(w0:World)(gg:Nat)(vs vi:Value)(wr:World):Prop :=
 ∃i,gg=n-i/\vi=.int .i64 (i:Nat)/\i<=n/\vs=.string ⟨([121,101,115]++zaZ (l.take i)).toArray⟩/\Below w0.heap.size w0 wr
theorem zlV(l:List (Name × Ty))(S:Nat->Prop)(B:Nat)(A:Option Addr)(n cp:Nat)(w:World)(ht:Tab w)(hb:BindR S B w (.slice A n cp) n l)(hS:∀g,S g->g<w.heap.size)(hl:∀e∈l,e.1.length<=24/\Nm e.2/\e.2.size<=1000)(hn6:n<=1000):Calls Tryz.prog 13 #[.slice A n cp,.bool true] w λe w'=>e=.returned (.string ⟨([121,101,115]++zaZ l).toArray⟩)/\Below w.heap.size w w':=by
 obtain⟨q,hrel,hq,hown⟩:=hb;have hln:l.length=n:=by rw[RelV.len l q hrel,hq]
 have HREL:=hidE hrel;have HQ:=hidE hq;have HOWN:=hidE hown;have HS:=hidE hS;have HL:=hidE hl;have HLN:=hidE hln;have HT:=hidE ht;clear hrel hq hown hS hl hln ht;go_enter Tryz.func13,Tryz.ntmps13
 go_wp2_with fail
 go_loopg [5,6] n (λgg vs vi wr=>HeadTd l n w gg vs vi wr)
 case atStart=>exact⟨0,rfl,rfl,Nat.zero_le _,by rw[List.take_zero,zaZ];rfl,Below.refl _ _⟩
 case round =>
  obtain⟨i,rfl,rfl,hin,rfl,hbw⟩:=hrel;have HBW:=hidE hbw;have hszr:=hbw.size;clear hbw;by_cases hlt:i<n
  ·have hil:i<l.length:=by rw[HLN.out];exact hlt
   have hiq:i<q.length:=by rw[HQ.out];exact hlt
   obtain⟨g,rfl,hg1,hg2⟩:=zn5 HOWN.out hlt;obtain⟨c0,c1,c2,c3,c4⟩:=zke q i hiq;obtain⟨hx,hrd⟩:=RelV.at l q i hil hiq HREL.out;obtain⟨hx24,hnt,hst⟩:=HL.out _ (List.getElem_mem hil);have hsn:zaZ (l.take (i+1))=zaZ (l.take i)++(59::(l[i].1++61::l[i].2.canonT.print)):=by
    rw[List.take_succ_eq_append_getElem hil]
    exact zfd l[i].1 l[i].2 (l.take i)
   have hlen:=ziQ (l.take i) (λe he=>HL.out e (List.mem_of_mem_take he));rw[List.length_take]at hlen
   have hcl:=(zbE l[i].2.canonT (zcN _ hnt (by omega))).1;have hcs:l[i].2.canonT.size=l[i].2.size:=by rw[<-zcM];exact zb7 _ _ _ _
   rw[<-hx]at c0
   obtain⟨⟨x,t⟩,he⟩:∃e,l[i]=e:=⟨_,rfl⟩;obtain⟨⟨y,k5,x5,z5,a5,m5,p5⟩,hq'⟩:∃e,q[i]=e:=⟨_,rfl⟩;rw[he]at hx24 hnt hst hsn hcl hcs hrd c0
   rw[hq']at c1 c2 c3 c4 hrd
   replace hrd:RdV S w t (.agg #[.int .i64 k5,.string x5,.int .i64 z5,.slice a5 m5 p5]):=hrd;have HC:=hidE (λ(W:World) (hW:Below w.heap.size w W)=>zkY t S _ W (hrd.keep (S':=S) (w':=W) (λ_ h=>h) (λg hg=>hW.block g (HS.out g hg))) (λg hg=>by have:=HS.out g hg;have:=hW.size;omega) hnt (by have h:t.size<=1000:=hst;omega) (HT.out.below hW));obtain⟨PS,hPS⟩:∃PS:ByteArray,(⟨([121,101,115]++zaZ (l.take i)).toArray⟩:ByteArray)=PS:=⟨_,rfl⟩;obtain⟨PX,hPX⟩:∃PX:ByteArray,(⟨x.toArray⟩:ByteArray)=PX:=⟨_,rfl⟩;obtain⟨PC,hPC⟩:∃PC:ByteArray,(⟨t.canonT.print.toArray⟩:ByteArray)=PC:=⟨_,rfl⟩;have hPSs:PS.size<=50000000:=by
    rw[<-hPS];show(([121,101,115]++zaZ (l.take i)).toArray).size<=_
    rw[List.size_toArray,List.length_append];simp;omega
   have hPXs:PX.size<=24:=by rw[<-hPX];show x.toArray.size<=_;rw[List.size_toArray];exact hx24
   have hPCs:PC.size<=50000:=by rw[<-hPC];show t.canonT.print.toArray.size<=_;rw[List.size_toArray];have h:t.size<=1000:=hst;have h2:t.canonT.size=t.size:=hcs;have h3:t.canonT.print.length+6<=40*t.canonT.size:=hcl;omega
   have SOF:Hid (∀W:World,Below w.heap.size w W->(λW:World=>W.cell? ⟨g,i*5,none⟩=some (.string PX)/\W.cell? ⟨g,i*5+1,none⟩=some (.int .i64 k5)/\W.cell? ⟨g,i*5+2,none⟩=some (.string x5)/\W.cell? ⟨g,i*5+3,none⟩=some (.int .i64 z5)/\W.cell? ⟨g,i*5+4,none⟩=some (.slice a5 m5 p5)) W):=hidE λW hW=>by
    have hk:=hW.block g hg1;refine⟨?_,hg2 W hk _ _ c1,hg2 W hk _ _ c2,hg2 W hk _ _ c3,hg2 W hk _ _ c4⟩;rw[<-hPX]
    exact hg2 W hk _ _ c0
   have HNX:Hid ((⟨([121,101,115]++zaZ (l.take (i+1))).toArray⟩:ByteArray)=(((PS++⟨#[59]⟩)++PX)++⟨#[61]⟩)++PC):=hidE (by
    rw[hsn,<-hPS,<-hPX,<-hPC]
    simp[ByteArray.ext_iff])
   rw[hPC]at HC
   rw[hPS]
   have B0:Hid (Below w.heap.size w wr.drew):=hidE HBW.out.drew;have hb1:¬9223372036854775807<PS.size+1:=by omega
   have hb2:¬9223372036854775807<PS.size+1+PX.size:=by omega
   have hb3:¬9223372036854775807<PS.size+1+PX.size+1:=by omega
   have hb4:¬9223372036854775807<PS.size+1+PX.size+1+PC.size:=by omega
   clear hx24 hnt hst hsn hlen hcl hcs hrd c0 c1 c2 c3 c4 hx he hq' hPS hPX hPC hil hiq hg2;go_upto_region 7 with fail
   go_region_held3 (λW:World=>W.cell? ⟨g,i*5,none⟩=some (.string PX)/\W.cell? ⟨g,i*5+1,none⟩=some (.int .i64 k5)/\W.cell? ⟨g,i*5+2,none⟩=some (.string x5)/\W.cell? ⟨g,i*5+3,none⟩=some (.int .i64 z5)/\W.cell? ⟨g,i*5+4,none⟩=some (.slice a5 m5 p5)) (first|(with_reducible exact SOF.out _ B0.out))
    ((first|((with_reducible refine(HC.out _ B0.out).mono ?_);rintro e w5 ⟨rfl,b5⟩;replace B0:=hidE (B0.out.trans (b5.mono B0.out.size));clear b5)))
   all_goals
    go_wp2_with fail
    go_roundg (n-(i+1))
    case measure=>omega
    case rel=>exact⟨i+1,rfl,by go_num,by omega,by rw[HNX.out],B0.out⟩
  ·have hend:l.take i=l:=List.take_of_length_le (by rw[HLN.out];omega)
   have HE:=hidE hend;clear hend;go_wp2_with fail
   go_ret
   rw[HE.out]
   exact⟨rfl,HBW.out⟩
def mxA:Ty:=.fn (.var [97]) (.con [84] [.var [98]])
def msA:ByteArray:={ data:=#[97,32,45,62,32,84,32,98] }
theorem zg1:parse msA.data.toList=.ok mxA:=by kernel_rfl
def mxB:Ty:=.fn (.con [73,110,116] []) (.con [84] [.con [85] [.var [99]]])
def msB:ByteArray:={ data:=#[73,110,116,32,45,62,32,84,32,40,85,32,99,41] }
theorem zg2:parse msB.data.toList=.ok mxB:=by kernel_rfl
def mxC:Ty:=.fn (.var [97]) (.var [97])
def msC:ByteArray:={ data:=#[97,32,45,62,32,97] }
theorem zkf:parse msC.data.toList=.ok mxC:=by kernel_rfl
def mxD:Ty:=.fn (.con [73,110,116] []) (.con [85] [])
def msD:ByteArray:={ data:=#[73,110,116,32,45,62,32,85] }
theorem zkg:parse msD.data.toList=.ok mxD:=by kernel_rfl
def mxE:Ty:=.all [97] (.all [98] (.fn (.var [97]) (.var [98])))
def msE:ByteArray:={ data:=#[102,111,114,97,108,108,32,97,32,98,46,32,97,32,45,62,32,98] }
theorem zkh:parse msE.data.toList=.ok mxE:=by kernel_rfl
def mxF:Ty:=.all [99] (.fn (.var [99]) (.var [99]))
def msF:ByteArray:={ data:=#[102,111,114,97,108,108,32,99,46,32,99,32,45,62,32,99] }
theorem zki:parse msF.data.toList=.ok mxF:=by kernel_rfl
def mxG:Ty:=.all [97] (.fn (.var [97]) (.var [97]))
def msG:ByteArray:={ data:=#[102,111,114,97,108,108,32,97,46,32,97,32,45,62,32,97] }
theorem zkj:parse msG.data.toList=.ok mxG:=by kernel_rfl
def mxH:Ty:=.all [99] (.all [100] (.fn (.var [99]) (.var [100])))
def msH:ByteArray:={ data:=#[102,111,114,97,108,108,32,99,32,100,46,32,99,32,45,62,32,100] }
theorem zfe:parse msH.data.toList=.ok mxH:=by kernel_rfl
theorem zlW(w:World)(l:List Name)(t:TypeId):RowV (w.alloc (.cells (strV l).toArray t)) (.slice (some ⟨w.heap.size,0,none⟩) l.length l.length) (strV l):=by
 refine⟨_,_,by rw[zaJ],λ_=>⟨w.heap.size,rfl,by simp,λj u hu=>?_⟩⟩;have h:=zaK w (strV l).toArray t w.heap.size rfl j u (by simpa using hu);have hadd:(⟨w.heap.size,0,none⟩:Addr).add j=⟨w.heap.size,j,none⟩:=by unfold Addr.add;split <;> simp_all
 rw[hadd]at h
 exact h
theorem ziR {vars:List Name} {p t:Ty}(h1:((zau vars p t).all λe=>!e.2.poly)=true)(h2:(smT [] [] (putP (zay (zau vars p t)) p) t 0).1=true):zca vars p t:=by
 refine⟨?_,(same_iff _ _).1 h2⟩;rintro⟨x,u,hl,hq⟩;have h:=List.all_eq_true.1 h1 _ (zbF x u _ hl);have h:(!u.poly)=true:=h;rw[hq]at h
 cases h
theorem zhA {vars:List Name} {p t:Ty}(h2:(smT [] [] (putP (zay (zau vars p t)) p) t 0).1=false):¬zca vars p t:=λh=>by
 have:=(same_iff _ _).2 h.2;rw[h2]at this
 cases this
theorem mAB:zca [[97],[98]] mxA mxB:=ziR (by kernel_rfl) (by kernel_rfl)
theorem mCD:¬zca [[97]] mxC mxD:=zhA (by kernel_rfl)
theorem mEF:zdH mxE mxF:=ziR (by kernel_rfl) (by kernel_rfl)
theorem mGH:¬zdH mxG mxH:=zhA (by kernel_rfl)
theorem mtold:(⟨([121,101,115]++zaZ (za7 (zau [[97],[98]] mxA mxB) (zam mxA))).toArray⟩:ByteArray) = { data:=#[121,101,115,59,97,61,73,110,116,59,98,61,85,32,99] }:=by kernel_rfl
theorem mlist:(za7 (zau [[97],[98]] mxA mxB) (zam mxA)).length=2:=by kernel_rfl
theorem mpeel:(zaG 112 (zam mxH) mxH 0).length=2:=by kernel_rfl
theorem mprint:(⟨(zaV 112 (zam mxH) mxH 0).print.toArray⟩:ByteArray) = { data:=#[112,48,32,45,62,32,112,49] }:=by kernel_rfl
theorem zcb {s:ByteArray} {t:Ty}(h:parse s.data.toList=.ok t):Nm t:=(zhc _ _ h).1
theorem zg3(vars:List Name)(p t:Ty)(hp:Nm p)(ht:Nm t)(hs:t.size<=1000):∀e∈za7 (zau vars p t) (zam p),e.1.length<=24/\Nm e.2/\e.2.size<=1000:=λe he=>by
 obtain⟨h1,h2⟩:=zfT _ _ e he;obtain⟨h3,h4⟩:=zdq vars 1000 p t ht hs _ _ h2;exact⟨zcv p hp _ h1,h3,h4⟩
theorem BindR.below {S:Nat->Prop} {B n:Nat} {w w':World} {v:Value} {l:List (Name × Ty)}(h:BindR S B w v n l)(hS:∀g,S g->g<w.heap.size)(hb:Below w.heap.size w w'):BindR S B w' v n l:=by
 obtain⟨q,h1,h2,h3⟩:=h;exact⟨q,RelV.keep (λ_ h=>h) (λg hg=>hb.block g (hS g hg)) _ _ h1,h2,own_below h3 hb⟩
theorem zkk(w:World)(ht:Tab w):Calls Tryz.prog 9 #[] w λe w'=>e=.returned (.bool true)/\Below w.heap.size w w':=by
 have HT:=hidE ht;have HPA:=hidE (λw=>zbO msA mxA zg1 w (by unfold maxLen;decide));unfold msA at HPA;obtain⟨qA,hqA⟩:∃q,mayB { data:=#[97,32,45,62,32,84,32,98] } mxA=q:=⟨_,rfl⟩;rw[hqA]at HPA
 have HPB:=hidE (λw=>zbO msB mxB zg2 w (by unfold maxLen;decide));unfold msB at HPB;obtain⟨qB,hqB⟩:∃q,mayB { data:=#[73,110,116,32,45,62,32,84,32,40,85,32,99,41] } mxB=q:=⟨_,rfl⟩;rw[hqB]at HPB
 have HPC:=hidE (λw=>zbO msC mxC zkf w (by unfold maxLen;decide));unfold msC at HPC;obtain⟨qC,hqC⟩:∃q,mayB { data:=#[97,32,45,62,32,97] } mxC=q:=⟨_,rfl⟩;rw[hqC]at HPC
 have HPD:=hidE (λw=>zbO msD mxD zkg w (by unfold maxLen;decide));unfold msD at HPD;obtain⟨qD,hqD⟩:∃q,mayB { data:=#[73,110,116,32,45,62,32,85] } mxD=q:=⟨_,rfl⟩;rw[hqD]at HPD
 have HPE:=hidE (λw=>zbO msE mxE zkh w (by unfold maxLen;decide));unfold msE at HPE;obtain⟨qE,hqE⟩:∃q,mayB { data:=#[102,111,114,97,108,108,32,97,32,98,46,32,97,32,45,62,32,98] } mxE=q:=⟨_,rfl⟩;rw[hqE]at HPE
 have HPF:=hidE (λw=>zbO msF mxF zki w (by unfold maxLen;decide));unfold msF at HPF;obtain⟨qF,hqF⟩:∃q,mayB { data:=#[102,111,114,97,108,108,32,99,46,32,99,32,45,62,32,99] } mxF=q:=⟨_,rfl⟩;rw[hqF]at HPF
 have HPG:=hidE (λw=>zbO msG mxG zkj w (by unfold maxLen;decide));unfold msG at HPG;obtain⟨qG,hqG⟩:∃q,mayB { data:=#[102,111,114,97,108,108,32,97,46,32,97,32,45,62,32,97] } mxG=q:=⟨_,rfl⟩;rw[hqG]at HPG
 have HPH:=hidE (λw=>zbO msH mxH zfe w (by unfold maxLen;decide));unfold msH at HPH;obtain⟨qH,hqH⟩:∃q,mayB { data:=#[102,111,114,97,108,108,32,99,32,100,46,32,99,32,45,62,32,100] } mxH=q:=⟨_,rfl⟩;rw[hqH]at HPH
 clear ht hqA hqB hqC hqD hqE hqF hqG hqH;go_enter Tryz.func9,Tryz.ntmps9
 go_wp2_with fail
 refine(HPA.out _).mono ?_;rintro e w1 ⟨KA,XA,ZA,AA,mA,cA,Kr1,Xr1,Zr1,Ar1,mr1,cr1,rfl,hr,-,b1⟩;obtain⟨V1,hV1⟩:∃V,(w1.alloc (.cells #[.int .i64 KA,.string XA,.int .i64 ZA,.slice AA mA cA] 26)).alloc (.cells #[.int .i64 Kr1,.string Xr1,.int .i64 Zr1,.slice Ar1 mr1 cr1] 29)=V:=⟨_,rfl⟩;have hbx:Bx w1.heap.size ((w1.alloc (.cells #[.int .i64 KA,.string XA,.int .i64 ZA,.slice AA mA cA] 26)).alloc (.cells #[.int .i64 Kr1,.string Xr1,.int .i64 Zr1,.slice Ar1 mr1 cr1] 29)) w1.heap.size mxA KA XA ZA AA mA cA:=(Bx.made hr).below ((Below.refl _ _).alloc (Nat.le_refl _) _);have hbb:Below w.heap.size w ((w1.alloc (.cells #[.int .i64 KA,.string XA,.int .i64 ZA,.slice AA mA cA] 26)).alloc (.cells #[.int .i64 Kr1,.string Xr1,.int .i64 Zr1,.slice Ar1 mr1 cr1] 29)):=(b1.alloc b1.size _).alloc (by rw[size_alloc];exact Nat.le_succ_of_le b1.size) _;rw[hV1]at hbx hbb
 have BW:Hid (Below w.heap.size w V1):=hidE hbb;have BXA:=hidE hbx;have HV1:=hidE hV1;clear hbx hbb hr b1 hV1 HPA;go_upto_region 2 with fail
 rw[HV1.out]
 go_wp2_with fail
 refine(HPB.out _).mono ?_;rintro e w2 ⟨KB,XB,ZB,AB,mB,cB,Kr2,Xr2,Zr2,Ar2,mr2,cr2,rfl,hr,-,b2⟩;obtain⟨V2,hV2⟩:∃V,(w2.alloc (.cells #[.int .i64 KB,.string XB,.int .i64 ZB,.slice AB mB cB] 26)).alloc (.cells #[.int .i64 Kr2,.string Xr2,.int .i64 Zr2,.slice Ar2 mr2 cr2] 29)=V:=⟨_,rfl⟩;have hbx:Bx w2.heap.size ((w2.alloc (.cells #[.int .i64 KB,.string XB,.int .i64 ZB,.slice AB mB cB] 26)).alloc (.cells #[.int .i64 Kr2,.string Xr2,.int .i64 Zr2,.slice Ar2 mr2 cr2] 29)) w2.heap.size mxB KB XB ZB AB mB cB:=(Bx.made hr).below ((Below.refl _ _).alloc (Nat.le_refl _) _);have hbb:Below V1.heap.size V1 ((w2.alloc (.cells #[.int .i64 KB,.string XB,.int .i64 ZB,.slice AB mB cB] 26)).alloc (.cells #[.int .i64 Kr2,.string Xr2,.int .i64 Zr2,.slice Ar2 mr2 cr2] 29)):=(b2.alloc b2.size _).alloc (by rw[size_alloc];exact Nat.le_succ_of_le b2.size) _;rw[hV2]at hbx hbb
 replace BW:Hid (Below w.heap.size w V2):=hidE (BW.out.trans (hbb.mono BW.out.size));replace BXA:=hidE (BXA.out.below hbb);have BXB:=hidE hbx;have HV2:=hidE hV2;clear hbx hbb hr b2 hV2 HPB;go_upto_region 3 with fail
 rw[HV2.out]
 obtain⟨x0,x1,x2,x3⟩:=BXA.out.cells;obtain⟨y0,y1,y2,y3⟩:=BXB.out.cells;obtain⟨U21,hU21⟩:∃U,V2.alloc (.cells #[.string ⟨#[97]⟩,.string ⟨#[98]⟩] 9)=U:=⟨_,rfl⟩;have hbu:Below V2.heap.size V2 (V2.alloc (.cells #[.string ⟨#[97]⟩,.string ⟨#[98]⟩] 9)):=(Below.refl _ _).alloc (Nat.le_refl _) _;have hrw:RowV (V2.alloc (.cells #[.string ⟨#[97]⟩,.string ⟨#[98]⟩] 9)) (.slice (some ⟨V2.heap.size,0,none⟩) 2 2) (strV [[97],[98]]):=zlW V2 [[97],[98]] _;rw[hU21]at hbu hrw
 have HBU:=hidE hbu;have HM:=hidE (zgZ mxA mxB [[97],[98]] _ _ _ _ _ 2 2 U21 (HT.out.below (BW.out.trans (hbu.mono BW.out.size))) (BXA.out.below hbu).rn (BXB.out.below hbu).rn (λ_ h=>h) (λ_ h=>h) hrw rfl (by intro x hx;simp at hx;rcases hx with rfl|rfl <;>(unfold maxLen;decide)) (by decide) (zcb zg1) (zcb zg2) (by decide) (by decide));have HU:=hidE hU21;clear hU21 hbu hrw;go_wp2_with fail
 rw[HU.out]
 refine HM.out.mono ?_;rintro e w21 ⟨b21,hor⟩;obtain⟨-,Al,nl,cl,rfl,hbr⟩:=hor.resolve_right (λh=>h.1 mAB);clear hor x0 x1 x2 x3 y0 y1 y2 y3;have hbb:Below V2.heap.size V2 w21:=HBU.out.trans (b21.mono HBU.out.size);have LSZ:Hid (U21.heap.size<=w21.heap.size):=hidE b21.size;have HBR:=hidE hbr;replace BW:Hid (Below w.heap.size w w21):=hidE (BW.out.trans (hbb.mono BW.out.size));clear hbb b21 HM HU HBU hbr BXA BXB;go_upto_region 4 with fail
 go_wp2_with fail
 refine(HPC.out _).mono ?_;rintro e w3 ⟨KC,XC,ZC,AC,mC,cC,Kr3,Xr3,Zr3,Ar3,mr3,cr3,rfl,hr,-,b3⟩;obtain⟨V3,hV3⟩:∃V,(w3.alloc (.cells #[.int .i64 KC,.string XC,.int .i64 ZC,.slice AC mC cC] 26)).alloc (.cells #[.int .i64 Kr3,.string Xr3,.int .i64 Zr3,.slice Ar3 mr3 cr3] 29)=V:=⟨_,rfl⟩;have hbx:Bx w3.heap.size ((w3.alloc (.cells #[.int .i64 KC,.string XC,.int .i64 ZC,.slice AC mC cC] 26)).alloc (.cells #[.int .i64 Kr3,.string Xr3,.int .i64 Zr3,.slice Ar3 mr3 cr3] 29)) w3.heap.size mxC KC XC ZC AC mC cC:=(Bx.made hr).below ((Below.refl _ _).alloc (Nat.le_refl _) _);have hbb:Below w21.heap.size w21 ((w3.alloc (.cells #[.int .i64 KC,.string XC,.int .i64 ZC,.slice AC mC cC] 26)).alloc (.cells #[.int .i64 Kr3,.string Xr3,.int .i64 Zr3,.slice Ar3 mr3 cr3] 29)):=(b3.alloc b3.size _).alloc (by rw[size_alloc];exact Nat.le_succ_of_le b3.size) _;rw[hV3]at hbx hbb
 replace BW:Hid (Below w.heap.size w V3):=hidE (BW.out.trans (hbb.mono BW.out.size));replace HBR:=hidE (BindR.below HBR.out (λg hg=>Nat.lt_of_lt_of_le hg LSZ.out) hbb);replace LSZ:=hidE (Nat.le_trans LSZ.out hbb.size);have BXC:=hidE hbx;have HV3:=hidE hV3;clear hbx hbb hr b3 hV3 HPC;go_upto_region 5 with fail
 rw[HV3.out]
 go_wp2_with fail
 refine(HPD.out _).mono ?_;rintro e w4 ⟨KD,XD,ZD,AD,mD,cD,Kr4,Xr4,Zr4,Ar4,mr4,cr4,rfl,hr,-,b4⟩;obtain⟨V4,hV4⟩:∃V,(w4.alloc (.cells #[.int .i64 KD,.string XD,.int .i64 ZD,.slice AD mD cD] 26)).alloc (.cells #[.int .i64 Kr4,.string Xr4,.int .i64 Zr4,.slice Ar4 mr4 cr4] 29)=V:=⟨_,rfl⟩;have hbx:Bx w4.heap.size ((w4.alloc (.cells #[.int .i64 KD,.string XD,.int .i64 ZD,.slice AD mD cD] 26)).alloc (.cells #[.int .i64 Kr4,.string Xr4,.int .i64 Zr4,.slice Ar4 mr4 cr4] 29)) w4.heap.size mxD KD XD ZD AD mD cD:=(Bx.made hr).below ((Below.refl _ _).alloc (Nat.le_refl _) _);have hbb:Below V3.heap.size V3 ((w4.alloc (.cells #[.int .i64 KD,.string XD,.int .i64 ZD,.slice AD mD cD] 26)).alloc (.cells #[.int .i64 Kr4,.string Xr4,.int .i64 Zr4,.slice Ar4 mr4 cr4] 29)):=(b4.alloc b4.size _).alloc (by rw[size_alloc];exact Nat.le_succ_of_le b4.size) _;rw[hV4]at hbx hbb
 replace BW:Hid (Below w.heap.size w V4):=hidE (BW.out.trans (hbb.mono BW.out.size));replace HBR:=hidE (BindR.below HBR.out (λg hg=>Nat.lt_of_lt_of_le hg LSZ.out) hbb);replace LSZ:=hidE (Nat.le_trans LSZ.out hbb.size);replace BXC:=hidE (BXC.out.below hbb);have BXD:=hidE hbx;have HV4:=hidE hV4;clear hbx hbb hr b4 hV4 HPD;go_upto_region 6 with fail
 rw[HV4.out]
 obtain⟨x0,x1,x2,x3⟩:=BXC.out.cells;obtain⟨y0,y1,y2,y3⟩:=BXD.out.cells;obtain⟨U22,hU22⟩:∃U,V4.alloc (.cells #[.string ⟨#[97]⟩] 9)=U:=⟨_,rfl⟩;have hbu:Below V4.heap.size V4 (V4.alloc (.cells #[.string ⟨#[97]⟩] 9)):=(Below.refl _ _).alloc (Nat.le_refl _) _;have hrw:RowV (V4.alloc (.cells #[.string ⟨#[97]⟩] 9)) (.slice (some ⟨V4.heap.size,0,none⟩) 1 1) (strV [[97]]):=zlW V4 [[97]] _;rw[hU22]at hbu hrw
 have HBU:=hidE hbu;have HM:=hidE (zgZ mxC mxD [[97]] _ _ _ _ _ 1 1 U22 (HT.out.below (BW.out.trans (hbu.mono BW.out.size))) (BXC.out.below hbu).rn (BXD.out.below hbu).rn (λ_ h=>h) (λ_ h=>h) hrw rfl (by intro x hx;simp at hx;rcases hx with rfl <;>(unfold maxLen;decide)) (by decide) (zcb zkf) (zcb zkg) (by decide) (by decide));have HU:=hidE hU22;clear hU22 hbu hrw;go_wp2_with fail
 rw[HU.out]
 refine HM.out.mono ?_;rintro e w22 ⟨b22,hor⟩;obtain⟨-,rfl⟩:=hor.resolve_left (λh=>mCD h.1);clear hor x0 x1 x2 x3 y0 y1 y2 y3;have hbb:Below V4.heap.size V4 w22:=HBU.out.trans (b22.mono HBU.out.size);replace BW:Hid (Below w.heap.size w w22):=hidE (BW.out.trans (hbb.mono BW.out.size));replace HBR:=hidE (BindR.below HBR.out (λg hg=>Nat.lt_of_lt_of_le hg LSZ.out) hbb);replace LSZ:=hidE (Nat.le_trans LSZ.out hbb.size);clear hbb b22 HM HU HBU BXC BXD;go_upto_region 7 with fail
 go_wp2_with fail
 refine(HPE.out _).mono ?_;rintro e w5 ⟨KE,XE,ZE,AE,mE,cE,Kr5,Xr5,Zr5,Ar5,mr5,cr5,rfl,hr,-,b5⟩;obtain⟨V5,hV5⟩:∃V,(w5.alloc (.cells #[.int .i64 KE,.string XE,.int .i64 ZE,.slice AE mE cE] 26)).alloc (.cells #[.int .i64 Kr5,.string Xr5,.int .i64 Zr5,.slice Ar5 mr5 cr5] 29)=V:=⟨_,rfl⟩;have hbx:Bx w5.heap.size ((w5.alloc (.cells #[.int .i64 KE,.string XE,.int .i64 ZE,.slice AE mE cE] 26)).alloc (.cells #[.int .i64 Kr5,.string Xr5,.int .i64 Zr5,.slice Ar5 mr5 cr5] 29)) w5.heap.size mxE KE XE ZE AE mE cE:=(Bx.made hr).below ((Below.refl _ _).alloc (Nat.le_refl _) _);have hbb:Below w22.heap.size w22 ((w5.alloc (.cells #[.int .i64 KE,.string XE,.int .i64 ZE,.slice AE mE cE] 26)).alloc (.cells #[.int .i64 Kr5,.string Xr5,.int .i64 Zr5,.slice Ar5 mr5 cr5] 29)):=(b5.alloc b5.size _).alloc (by rw[size_alloc];exact Nat.le_succ_of_le b5.size) _;rw[hV5]at hbx hbb
 replace BW:Hid (Below w.heap.size w V5):=hidE (BW.out.trans (hbb.mono BW.out.size));replace HBR:=hidE (BindR.below HBR.out (λg hg=>Nat.lt_of_lt_of_le hg LSZ.out) hbb);replace LSZ:=hidE (Nat.le_trans LSZ.out hbb.size);have BXE:=hidE hbx;have HV5:=hidE hV5;clear hbx hbb hr b5 hV5 HPE;go_upto_region 8 with fail
 rw[HV5.out]
 go_wp2_with fail
 refine(HPF.out _).mono ?_;rintro e w6 ⟨KF,XF,ZF,AF,mF,cF,Kr6,Xr6,Zr6,Ar6,mr6,cr6,rfl,hr,-,b6⟩;obtain⟨V6,hV6⟩:∃V,(w6.alloc (.cells #[.int .i64 KF,.string XF,.int .i64 ZF,.slice AF mF cF] 26)).alloc (.cells #[.int .i64 Kr6,.string Xr6,.int .i64 Zr6,.slice Ar6 mr6 cr6] 29)=V:=⟨_,rfl⟩;have hbx:Bx w6.heap.size ((w6.alloc (.cells #[.int .i64 KF,.string XF,.int .i64 ZF,.slice AF mF cF] 26)).alloc (.cells #[.int .i64 Kr6,.string Xr6,.int .i64 Zr6,.slice Ar6 mr6 cr6] 29)) w6.heap.size mxF KF XF ZF AF mF cF:=(Bx.made hr).below ((Below.refl _ _).alloc (Nat.le_refl _) _);have hbb:Below V5.heap.size V5 ((w6.alloc (.cells #[.int .i64 KF,.string XF,.int .i64 ZF,.slice AF mF cF] 26)).alloc (.cells #[.int .i64 Kr6,.string Xr6,.int .i64 Zr6,.slice Ar6 mr6 cr6] 29)):=(b6.alloc b6.size _).alloc (by rw[size_alloc];exact Nat.le_succ_of_le b6.size) _;rw[hV6]at hbx hbb
 replace BW:Hid (Below w.heap.size w V6):=hidE (BW.out.trans (hbb.mono BW.out.size));replace HBR:=hidE (BindR.below HBR.out (λg hg=>Nat.lt_of_lt_of_le hg LSZ.out) hbb);replace LSZ:=hidE (Nat.le_trans LSZ.out hbb.size);replace BXE:=hidE (BXE.out.below hbb);have BXF:=hidE hbx;have HV6:=hidE hV6;clear hbx hbb hr b6 hV6 HPF;go_upto_region 9 with fail
 rw[HV6.out]
 obtain⟨x0,x1,x2,x3⟩:=BXE.out.cells;obtain⟨y0,y1,y2,y3⟩:=BXF.out.cells;have HI:=hidE (zeG mxE mxF _ _ _ _ V6 (HT.out.below BW.out) BXE.out.rn BXF.out.rn (λ_ h=>h) (λ_ h=>h) (zcb zkh) (zcb zki) (by decide) (by decide));go_wp2_with fail
 refine HI.out.mono ?_;rintro e w23 ⟨⟨q23,rfl,hq23⟩,hbb⟩;obtain rfl:q23=true:=hq23.2 mEF;replace BW:Hid (Below w.heap.size w w23):=hidE (BW.out.trans (hbb.mono BW.out.size));replace HBR:=hidE (BindR.below HBR.out (λg hg=>Nat.lt_of_lt_of_le hg LSZ.out) hbb);replace LSZ:=hidE (Nat.le_trans LSZ.out hbb.size);clear hbb hq23 HI x0 x1 x2 x3 y0 y1 y2 y3 BXE BXF;go_upto_region 10 with fail
 go_wp2_with fail
 refine(HPG.out _).mono ?_;rintro e w7 ⟨KG,XG,ZG,AG,mG,cG,Kr7,Xr7,Zr7,Ar7,mr7,cr7,rfl,hr,-,b7⟩;obtain⟨V7,hV7⟩:∃V,(w7.alloc (.cells #[.int .i64 KG,.string XG,.int .i64 ZG,.slice AG mG cG] 26)).alloc (.cells #[.int .i64 Kr7,.string Xr7,.int .i64 Zr7,.slice Ar7 mr7 cr7] 29)=V:=⟨_,rfl⟩;have hbx:Bx w7.heap.size ((w7.alloc (.cells #[.int .i64 KG,.string XG,.int .i64 ZG,.slice AG mG cG] 26)).alloc (.cells #[.int .i64 Kr7,.string Xr7,.int .i64 Zr7,.slice Ar7 mr7 cr7] 29)) w7.heap.size mxG KG XG ZG AG mG cG:=(Bx.made hr).below ((Below.refl _ _).alloc (Nat.le_refl _) _);have hbb:Below w23.heap.size w23 ((w7.alloc (.cells #[.int .i64 KG,.string XG,.int .i64 ZG,.slice AG mG cG] 26)).alloc (.cells #[.int .i64 Kr7,.string Xr7,.int .i64 Zr7,.slice Ar7 mr7 cr7] 29)):=(b7.alloc b7.size _).alloc (by rw[size_alloc];exact Nat.le_succ_of_le b7.size) _;rw[hV7]at hbx hbb
 replace BW:Hid (Below w.heap.size w V7):=hidE (BW.out.trans (hbb.mono BW.out.size));replace HBR:=hidE (BindR.below HBR.out (λg hg=>Nat.lt_of_lt_of_le hg LSZ.out) hbb);replace LSZ:=hidE (Nat.le_trans LSZ.out hbb.size);have BXG:=hidE hbx;have HV7:=hidE hV7;clear hbx hbb hr b7 hV7 HPG;go_upto_region 11 with fail
 rw[HV7.out]
 go_wp2_with fail
 refine(HPH.out _).mono ?_;rintro e w8 ⟨KH,XH,ZH,AH,mH,cH,Kr8,Xr8,Zr8,Ar8,mr8,cr8,rfl,hr,-,b8⟩;obtain⟨V8,hV8⟩:∃V,(w8.alloc (.cells #[.int .i64 KH,.string XH,.int .i64 ZH,.slice AH mH cH] 26)).alloc (.cells #[.int .i64 Kr8,.string Xr8,.int .i64 Zr8,.slice Ar8 mr8 cr8] 29)=V:=⟨_,rfl⟩;have hbx:Bx w8.heap.size ((w8.alloc (.cells #[.int .i64 KH,.string XH,.int .i64 ZH,.slice AH mH cH] 26)).alloc (.cells #[.int .i64 Kr8,.string Xr8,.int .i64 Zr8,.slice Ar8 mr8 cr8] 29)) w8.heap.size mxH KH XH ZH AH mH cH:=(Bx.made hr).below ((Below.refl _ _).alloc (Nat.le_refl _) _);have hbb:Below V7.heap.size V7 ((w8.alloc (.cells #[.int .i64 KH,.string XH,.int .i64 ZH,.slice AH mH cH] 26)).alloc (.cells #[.int .i64 Kr8,.string Xr8,.int .i64 Zr8,.slice Ar8 mr8 cr8] 29)):=(b8.alloc b8.size _).alloc (by rw[size_alloc];exact Nat.le_succ_of_le b8.size) _;rw[hV8]at hbx hbb
 replace BW:Hid (Below w.heap.size w V8):=hidE (BW.out.trans (hbb.mono BW.out.size));replace HBR:=hidE (BindR.below HBR.out (λg hg=>Nat.lt_of_lt_of_le hg LSZ.out) hbb);replace LSZ:=hidE (Nat.le_trans LSZ.out hbb.size);replace BXG:=hidE (BXG.out.below hbb);have BXH:=hidE hbx;have HV8:=hidE hV8;clear hbx hbb hr b8 hV8 HPH;go_upto_region 12 with fail
 rw[HV8.out]
 obtain⟨x0,x1,x2,x3⟩:=BXG.out.cells;obtain⟨y0,y1,y2,y3⟩:=BXH.out.cells;have HI:=hidE (zeG mxG mxH _ _ _ _ V8 (HT.out.below BW.out) BXG.out.rn BXH.out.rn (λ_ h=>h) (λ_ h=>h) (zcb zkj) (zcb zfe) (by decide) (by decide));go_wp2_with fail
 refine HI.out.mono ?_;rintro e w24 ⟨⟨q24,rfl,hq24⟩,hbb⟩;obtain rfl:q24=false:=by cases q24 with|false=>rfl|true=>exact absurd (hq24.1 rfl) mGH
 replace BW:Hid (Below w.heap.size w w24):=hidE (BW.out.trans (hbb.mono BW.out.size));replace HBR:=hidE (BindR.below HBR.out (λg hg=>Nat.lt_of_lt_of_le hg LSZ.out) hbb);replace LSZ:=hidE (Nat.le_trans LSZ.out hbb.size);replace BXH:=hidE (BXH.out.below hbb);clear hbb hq24 HI x0 x1 x2 x3 y0 y1 y2 y3 BXG;go_upto_region 13 with fail
 obtain⟨x0,x1,x2,x3⟩:=BXH.out.cells;have hpl:=zlN mxH _ _ w24 (HT.out.below BW.out) BXH.out.rn (λ_ h=>h) (zcb zfe) (by decide);have HPL:=hidE hpl;clear hpl;go_wp2_with fail
 refine HPL.out.mono ?_;rintro e w25 ⟨⟨A5,n5,c5,k5,x5,z5,a5,m5,q5,rfl,h5a,-,-,h5d⟩,b25⟩;rw[mpeel]at h5a
 subst h5a;obtain⟨V25,hV25⟩:∃V,w25.alloc (.cells #[.int .i64 k5,.string x5,.int .i64 z5,.slice a5 m5 q5] 26)=V:=⟨_,rfl⟩;have hbx:Bx w25.heap.size (w25.alloc (.cells #[.int .i64 k5,.string x5,.int .i64 z5,.slice a5 m5 q5] 26)) w25.heap.size (zaV 112 (zam mxH) mxH 0) k5 x5 z5 a5 m5 q5:=Bx.made (h5d.keep (λg hg=>hg.2) (λ_ _=>rfl));have hbb:Below w24.heap.size w24 (w25.alloc (.cells #[.int .i64 k5,.string x5,.int .i64 z5,.slice a5 m5 q5] 26)):=b25.alloc b25.size _;rw[hV25]at hbx hbb
 replace BW:Hid (Below w.heap.size w V25):=hidE (BW.out.trans (hbb.mono BW.out.size));replace HBR:=hidE (BindR.below HBR.out (λg hg=>Nat.lt_of_lt_of_le hg LSZ.out) hbb);replace LSZ:=hidE (Nat.le_trans LSZ.out hbb.size);have BXP:=hidE hbx;have HV25:=hidE hV25;clear hbx hbb h5d b25 hV25 HPL x0 x1 x2 x3 BXH;go_upto_region 14 with fail
 rw[HV25.out]
 have hnl:nl=2:=by
  obtain⟨q,h1,h2,-⟩:=HBR.out;rw[<-h2,<-RelV.len _ _ h1,mlist]
 subst hnl;have htold:=zlV _ _ _ _ _ _ V25 (HT.out.below BW.out) HBR.out (λg hg=>Nat.lt_of_lt_of_le hg LSZ.out) (zg3 _ _ _ (zcb zg1) (zcb zg2) (by decide)) (by decide);rw[mtold]at htold
 have HTD:=hidE htold;clear htold;go_wp2_with fail
 refine HTD.out.mono ?_;rintro e w26 ⟨rfl,hbb⟩;replace BW:Hid (Below w.heap.size w w26):=hidE (BW.out.trans (hbb.mono BW.out.size));replace BXP:=hidE (BXP.out.below hbb);clear hbb HTD HBR LSZ;obtain⟨x0,x1,x2,x3⟩:=BXP.out.cells;have hpr:=BXP.out.print (zcC 112 (.inl rfl) _ mxH (by decide) (by decide) (zcb zfe)) (Nat.le_trans (zcn 112 (.inl rfl) _ mxH (by decide)) (by decide)) (HT.out.below BW.out);rw[mprint]at hpr
 have HPR:=hidE hpr;clear hpr;go_wp2_with fail
 refine HPR.out.mono ?_;rintro e w27 ⟨rfl,hbb⟩;replace BW:Hid (Below w.heap.size w w27):=hidE (BW.out.trans (hbb.mono BW.out.size));clear hbb HPR BXP x0 x1 x2 x3;go_wp2_with fail
 go_ret
 exact⟨rfl,BW.out⟩
end Go.Proofs.YtaomnlcplmkokaaGreatDoor
namespace Go.Proofs.YtaomnlcplmkokaaGreatDoor
open Go.RowKit Lx Tx Go.Maps Go.WideMaps Go.Shelf
set_option maxRecDepth 100000
theorem ziS(g s:Ty)(h1:g.size<=1000)(h2:s.size<=1000):(zaE g s).length<=2000:=by
 have a:=za4 g;have b:=za4 s;unfold zaE;rw[List.length_append]
 omega
theorem zcJ {tk:List Name} {t:Ty}(h1:t.size<=1000)(h2:tk.length<=2000):Room tk t:=⟨by omega,by
 have:=Nat.mul_le_mul h1 (show tk.length+1<=2001 by omega);omega⟩
theorem ziT(g s:Ty)(hns:Nm s)(h1:g.size<=1000)(h2:s.size<=1000):zdH g s↔zfW (zaE g s) g s:=by
 have htl:=ziS g s h1 h2;have r1:Room (zaE g s) g:=zcJ h1 htl;have r2:Room (zaE g s) s:=zcJ h2 htl;have hp:=zcn 113 (.inr rfl) (zaE g s) g r1.2;have ht:=zcn 112 (.inl rfl) (zaE g s) s r2.2;have hnt:=zcC 112 (.inl rfl) (zaE g s) s r2.1 r2.2 hns;have hro:=zdC (zau (zaG 113 (zaE g s) g 0) (zaV 113 (zaE g s) g 0) (zaV 112 (zaE g s) s 0)) (zaV 113 (zaE g s) g 0) 1000 (λt u h=>(zfX (zdq _ 1000 _ _ hnt (by omega)) t u h).2);unfold zdH;rw[ziF _ _ _ (by omega) (by omega)]
 exact zj6 (zaE g s) g s r1 r2 (λx hx=>List.mem_append_left _ hx)
def mxAny:Ty:=.all [97] (.var [97])
theorem zsN(t:Ty)(hn:Nm t)(h:t.size<=1000):zdH mxAny t↔(zaV 112 (zam t) t 0).poly=false:=by
 have hl:=za4 t;rw[ziT mxAny t hn (by decide) h,zmx 112 (.inl rfl) (zam t) t (zcJ h (by omega))]
 exact zpW _ [97] t (zcJ h (ziS mxAny t (by decide) h))
theorem blk4 {w:World} {g:Nat} {t:TypeId} {a0 a1 a2 a3:Value}(h:Blk w g t #[a0,a1,a2,a3]):w.cell? ⟨g,0,none⟩=some a0/\w.cell? ⟨g,1,none⟩=some a1/\w.cell? ⟨g,2,none⟩=some a2/\w.cell? ⟨g,3,none⟩=some a3:=⟨h.cell 0,h.cell 1,h.cell 2,h.cell 3⟩
theorem zmC(t:Ty)(hn:Nm t)(h:t.size<=1000):Nm (zaV 112 (zam t) t 0)/\(zaV 112 (zam t) t 0).size<=1000:=by
 have hl:=za4 t;have r:=zcJ (tk:=zam t) h (by omega);exact⟨zcC 112 (.inl rfl) _ t r.1 r.2 hn,Nat.le_trans (zcn 112 (.inl rfl) _ t r.2) h⟩
end Go.Proofs.YtaomnlcplmkokaaGreatDoor
