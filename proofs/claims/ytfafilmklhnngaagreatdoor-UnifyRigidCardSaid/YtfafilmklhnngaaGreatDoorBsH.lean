import Derived.Test.YtfafilmklhnngaaGreatDoorBsF
import Derived.Lib.Bytealg
set_option maxHeartbeats 12800000
set_option maxRecDepth 100000
namespace Go.Proofs.YtfafilmklhnngaaGreatDoor
open Tryz
section
open Go.RowKit Lx
set_option maxRecDepth 100000
theorem zda(s:ByteArray)(c:Int)(w:World):Calls prog 211 #[.string s,.int .u8 c] w λe w'=>e=.returned (.int .i64 (Lib.indexByte s.data.toList c.toNat.toUInt8))/\w=w':=by
 go_in;go_wp2
 rw[run_callFunc_extern func222 (by kernel_rfl) (by kernel_rfl) (by kernel_rfl) (e:=Extern.BytealgIndexByte.indexByte) (by kernel_rfl),Lib.run_indexByteString];simp only[Result.andThen];rw[Oper.upon_value];go_wp2
 go_ret
 exact⟨rfl,rfl⟩
theorem ze7(s:ByteArray)(c:Int)(w:World):Calls prog 195 #[.string s,.int .u8 c] w λe w'=>e=.returned (.int .i64 (Lib.indexByte s.data.toList c.toNat.toUInt8))/\w=w':=by
 go_in;go_wp2_with (go_at_call 211;refine(zda _ _ _).mono ?_;rintro e w' ⟨rfl,rfl⟩);go_ret
 exact⟨rfl,rfl⟩
theorem Iy {a b:Bool}(h:a=b):Ending.returned (.bool a)=.returned (.bool b):=by rw[h]
theorem wk3(s:ByteArray)(h:s.toList∈keys):(3:Int)=(o_ s.data.toList:Nat):=by
 rw[CL]at h;simp[o_,h]
theorem wk2(s:ByteArray)(hs:0<s.size)(hh:Hid (s.data.toList.headD 0=s[0]))(h:s.toList∉keys)(hu:GK s[0]=true):(2:Int)=(o_ s.data.toList:Nat):=by
 rw[CL]at h;unfold o_;rw[Cg h,hh.o,Ch hu];rfl
theorem wk1(s:ByteArray)(hs:0<s.size)(hh:Hid (s.data.toList.headD 0=s[0]))(h:s.toList∉keys)(hu:GK s[0]=false):(1:Int)=(o_ s.data.toList:Nat):=by
 rw[CL]at h;unfold o_;rw[Cg h,hh.o,hu];rfl
theorem ziL(s:ByteArray)(w:World)(hs:0<s.size):Calls prog 215 #[.string s] w λe w'=>e=.returned (.int .i64 (o_ s.data.toList))/\w=w':=by
 have hh:s.data.toList.headD 0=s[0]:=by
  have:=w_ s 0 hs;simp only[DR]at this;rw[this];rfl
 have H:=EP hh;clear hh;go_in;go_wp2_with (go_at_call 212;refine(QP _ _).mono ?_;rintro e w' ⟨rfl,rfl⟩);all_goals
  go_ret
  refine⟨JS ?_,rfl⟩;first
   |exact wk3 s (by simp_all [keys])
   |exact wk2 s hs H (by simp_all [keys]) (by assumption)
   |exact wk1 s hs H (by simp_all [keys]) (by assumption)
   |(exfalso;simp_all;done)
set_option maxRecDepth 100000
theorem Gu {a b c d:Int}(h:a=b)(k:c=d):Ending.returned (.tuple #[.int .i64 a,.int .i64 c])=.returned (.tuple #[.int .i64 b,.int .i64 d]):=by rw[h,k]
theorem zmb(l:List UInt8)(n:Nat)(h:Hid (span G7 l=n))(k:16<n):word l=(0,0):=by
 unfold word;rw[h.o,Ch k]
theorem zk4(l:List UInt8)(n:Nat)(h:Hid (span G7 l=n))(k:n<=16):word l=(o_ (l.take n),n):=by
 unfold word;rw[h.o,Cg (by omega)]
theorem zhH(s:ByteArray)(n:Nat):(s.extract 0 n).data.toList=s.data.toList.take n:=by
 rw[Lib.extract_data];simp
theorem zmc(s:ByteArray)(n:Nat)(h:n<=s.size):(s.extract 0 n).size=n:=by
 rw[Dc,zhH,DH];have:=Dc s;omega
theorem zn9(s:ByteArray)(w:World)(hs:s.size<=maxLen)(h1:1<=span G7 s.data.toList):Calls prog 197 #[.string s] w λe w'=>e=.returned (.tuple #[.int .i64 (word s.data.toList).1,.int .i64 (word s.data.toList).2])/\w=w':=by
 obtain⟨n,hn⟩:∃n,span G7 s.data.toList=n:=⟨_,rfl⟩;have hb:=zhG G7 s;have HC:=zma s w hs;rw[hn]at h1 hb HC;have HN:=EP hn;clear hn;unfold maxLen at hs;by_cases hk:16<n
 ·have hw:=EP (zmb _ _ HN hk)
  go_in;go_wp2_with (go_at_call 213;refine HC.mono ?_;rintro e w' ⟨rfl,rfl⟩);go_ret2
  exact⟨Gu (by rw[hw.o];rfl) (by rw[hw.o];rfl),rfl⟩
 ·have hw:=EP (zk4 _ _ HN (by omega))
  have hx:=zhH s n;have hz:=zmc s n hb;have HD:=ziL (s.extract 0 n) w (by omega);rw[hx]at HD;clear hz hx;go_in;go_wp2_with (first|(go_at_call 213;refine HC.mono ?_;rintro e w' ⟨rfl,rfl⟩)|(go_at_call 215;refine HD.mono ?_;rintro e w' ⟨rfl,rfl⟩));go_ret2
  exact⟨Gu (by rw[hw.o]) (by rw[hw.o]),rfl⟩
theorem zmd(s:ByteArray)(h0:0<s.size)(n:Nat)(h:Hid (span f_ s.data.toList=n)):Fe s.data.toList=decide (n=0\/6<n\/(1<n/\s[0]=48)):=by
 unfold Fe;have:=w_ s 0 h0;simp only[DR]at this;rw[h.o,show s.data.toList.headD 0=s[0] by rw[this];rfl]
theorem Ra(l:List UInt8)(h:Fe l=true):number l=(0,0):=by unfold number;rw[Ch h]
theorem Wt(l:List UInt8)(n:Nat)(h:Fe l=false)(k:Hid (span f_ l=n)):number l=(4,n):=by
 unfold number;rw[Cg (by simp[h]),k.o]
theorem zgE(s:ByteArray)(w:World)(hs:s.size<=maxLen):Calls prog 199 #[.string s] w λe w'=>e=.returned (.tuple #[.int .i64 (number s.data.toList).1,.int .i64 (number s.data.toList).2])/\w=w':=by
 obtain⟨n,hn⟩:∃n,span f_ s.data.toList=n:=⟨_,rfl⟩;have hb:=zhG f_ s;have HC:=zk3 s w hs;rw[hn]at hb HC;have HN:=EP hn;clear hn;unfold maxLen at hs;by_cases hz:n=0
 ·have hw:=EP (Ra s.data.toList (by unfold Fe;rw[HN.o];simp[hz]))
  have hz':n<1:=by omega
  have HZ:=EP hz;clear hz;go_in;go_wp2_with (go_at_call 213;refine HC.mono ?_;rintro e w' ⟨rfl,rfl⟩);go_ret2
  exact⟨Gu (by rw[hw.o];rfl) (by rw[hw.o];rfl),rfl⟩
 ·have h0:0<s.size:=by omega
  have he:=zmd s h0 n HN;have hzb:((n:Int)==0)=false:=by rw[Cz];intro h;simp at h;omega
  by_cases h6:6<n
  ·have hw:=EP (Ra s.data.toList (by rw[he];simp[h6]))
   clear he;go_in;go_wp2_with (go_at_call 213;refine HC.mono ?_;rintro e w' ⟨rfl,rfl⟩);go_ret2
   exact⟨Gu (by rw[hw.o];rfl) (by rw[hw.o];rfl),rfl⟩
  ·by_cases h1:1<n
   ·have h6b:decide ((6:Int)<n)=false:=by rw[decide_eq_false_iff_not];omega
    by_cases hd:s[0]=48
    ·have hw:=EP (Ra s.data.toList (by rw[he];simp[h1,hd]))
     have jO:((s[0].toNat:Int)==48)=true:=by rw[hd];rfl
     clear he hd;go_in;go_wp2_with (go_at_call 213;refine HC.mono ?_;rintro e w' ⟨rfl,rfl⟩);go_ret2
     exact⟨Gu (by rw[hw.o];rfl) (by rw[hw.o];rfl),rfl⟩
    ·have hw:=EP (Wt s.data.toList n (by rw[he];simp[h1,hd];omega) HN)
     have jO:((s[0].toNat:Int)==48)=false:=by
      rw[Cz];intro h;apply hd;simp at h;rw[<-UInt8.toNat_inj];simp;omega
     clear he hd;go_in;go_wp2_with (go_at_call 213;refine HC.mono ?_;rintro e w' ⟨rfl,rfl⟩);go_ret2
     exact⟨Gu (by rw[hw.o];rfl) (by rw[hw.o]),rfl⟩
   ·have h6b:decide ((6:Int)<n)=false:=by rw[decide_eq_false_iff_not];omega
    have hw:=EP (Wt s.data.toList n (by rw[he];simp;omega) HN);clear he;go_in;go_wp2_with (go_at_call 213;refine HC.mono ?_;rintro e w' ⟨rfl,rfl⟩);go_ret2
    exact⟨Gu (by rw[hw.o];rfl) (by rw[hw.o]),rfl⟩
set_option maxRecDepth 100000
theorem QR(s:ByteArray)(k:Nat):(s.extract k s.size).data.toList=s.data.toList.drop k:=by
 rw[Lib.extract_data,Cq];rw[Dk,<-Dc];omega
theorem VJ(s:ByteArray)(k:Nat):(s.extract k s.size).size=s.size-k:=by
 rw[Dc,QR,Dk,<-Dc]
theorem zoa(l:List UInt8)(n:Nat)(h:Hid ((number (l.drop 1)).2=n))(k:n=0):JZ l=(0,0):=by
 unfold JZ;rw[h.o,Ch k]
theorem zme(l:List UInt8)(n:Nat)(h:Hid ((number (l.drop 1)).2=n))(k:n≠0):JZ l=(5,1+n):=by
 unfold JZ;rw[h.o,Cg k]
theorem zob(s:ByteArray)(w:World)(hs:s.size<=maxLen)(h0:0<s.size):Calls prog 200 #[.string s] w λe w'=>e=.returned (.tuple #[.int .i64 (JZ s.data.toList).1,.int .i64 (JZ s.data.toList).2])/\w=w':=by
 have hz:=VJ s 1;have HC:=zgE (s.extract 1 s.size) w (by omega);rw[QR]at HC;obtain⟨n,hn⟩:∃n,(number (s.data.toList.drop 1)).2=n:=⟨_,rfl⟩;obtain⟨m,hm⟩:∃n,(number (s.data.toList.drop 1)).1=n:=⟨_,rfl⟩;have hb:n<=6:=by
  rcases KV (s.data.toList.drop 1) with e|⟨e,_,h2⟩
  ·rw[<-hn,e];omega
  ·rw[<-hn,e];exact h2
 rw[hn,hm]at HC;have HN:=EP hn;clear hn hm hz;unfold maxLen at hs;by_cases hk:n=0
 ·have hw:=EP (zoa _ _ HN hk)
  have hzb:((n:Int)==0)=true:=by rw[hk];rfl
  clear hk;go_in;go_wp2_with (go_at_call 199;refine HC.mono ?_;rintro e w' ⟨rfl,rfl⟩);go_ret2
  exact⟨Gu (by rw[hw.o];rfl) (by rw[hw.o];rfl),rfl⟩
 ·have hw:=EP (zme _ _ HN hk)
  have hzb:((n:Int)==0)=false:=by rw[Cz];intro h;simp at h;omega
  go_in;go_wp2_with (go_at_call 199;refine HC.mono ?_;rintro e w' ⟨rfl,rfl⟩);go_ret2
  exact⟨Gu (by rw[hw.o];rfl) (by rw[hw.o];simp),rfl⟩
theorem zdb(s p:ByteArray)(w:World):Calls prog 223 #[.string s,.string p] w λe w'=>e=.returned (.bool (pre p.data.toList s.data.toList))/\w=w':=by
 have hr:_=pre p.data.toList s.data.toList:=Lib.hasPrefix_raw s p;have HR:=EP hr;clear hr;by_cases h:p.size<=s.size
 ·go_in
  go_wp2
  go_ret
  exact⟨Iy (by rw[<-HR.o];simp[h]),rfl⟩
 ·go_in
  go_wp2
  go_ret
  exact⟨Iy (by rw[<-HR.o];simp[h]),rfl⟩
theorem ze8(s p:ByteArray)(w:World):Calls prog 216 #[.string s,.string p] w λe w'=>e=.returned (.bool (pre p.data.toList s.data.toList))/\w=w':=by
 go_in;go_wp2_with (go_at_call 223;refine(zdb _ _ _).mono ?_;rintro e w' ⟨rfl,rfl⟩);go_ret
 exact⟨rfl,rfl⟩
theorem ziC(l:List UInt8)(c:UInt8):0<=Lib.indexByte l c↔c∈l:=by
 induction l with
 |nil=>simp[Lib.indexByte]
 |cons b l ih =>
  unfold Lib.indexByte;have hg:=Lib.indexByte_ge l c;by_cases hb:b=c
  ·simp[hb]
  ·have lV:(b==c)=false:=by simpa using hb
   rw[lV];by_cases h1:Lib.indexByte l c = -1
   ·simp[h1]
    rw[<-ih,h1];exact⟨λh=>hb h.symm,by omega⟩
   ·have T8:(Lib.indexByte l c == -1)=false:=by simpa using h1
    rw[T8];simp only[Dg,D3,Cd];rw[<-ih];constructor
    ·intro h;right;omega
    ·rintro(h|h)
     ·exact absurd h.symm hb
     ·omega
theorem Vy(l:List UInt8)(h:pre [45,62] l=true\/pre [124,62] l=true):sign l=(6,2):=by
 unfold sign;rw[Ch (by simpa using h)]
theorem Se(l:List UInt8)(h1:pre [45,62] l=false)(h2:pre [124,62] l=false)(h:l.headD 0∈Ik):sign l=(6,1):=by
 unfold sign;rw[h1,h2,Cg (by simp),Ch h]
theorem SY(l:List UInt8)(h1:pre [45,62] l=false)(h2:pre [124,62] l=false)(h:l.headD 0∉Ik):sign l=(0,0):=by
 unfold sign;rw[h1,h2,Cg (by simp),Cg h]
theorem zqo(c:UInt8):(c.toNat:Int).toNat.toUInt8=c:=by simp
theorem head_data(s:ByteArray)(h0:0<s.size):s.data.toList.headD 0=s[0]:=by
 have:=w_ s 0 h0;simp only[DR]at this;rw[this];rfl
theorem zoc(s:ByteArray)(w:World)(h0:0<s.size):Calls prog 201 #[.string s] w λe w'=>e=.returned (.tuple #[.int .i64 (sign s.data.toList).1,.int .i64 (sign s.data.toList).2])/\w=w':=by
 have P1:=ze8 s ⟨#[45,62]⟩ w;have P2:=ze8 s ⟨#[124,62]⟩ w;have P3:=ze7 ⟨#[92,58,61,59,123,125,40,41,46,126,64,60,62,44,91,93,33]⟩ (s[0].toNat:Int) w;rw[zqo]at P3;have hm:=ziC Ik s[0];rw[<-head_data s h0]at hm;have e3:Lib.indexByte (⟨#[92,58,61,59,123,125,40,41,46,126,64,60,62,44,91,93,33]⟩:ByteArray).data.toList s[0]=Lib.indexByte Ik (s.data.toList.headD 0):=by rw[head_data s h0];rfl
 rw[e3]at P3;clear e3;obtain⟨b1,av⟩:∃b,pre [45,62] s.data.toList=b:=⟨_,rfl⟩;obtain⟨b2,aV⟩:∃b,pre [124,62] s.data.toList=b:=⟨_,rfl⟩;obtain⟨n,hn⟩:∃n,Lib.indexByte Ik (s.data.toList.headD 0)=n:=⟨_,rfl⟩;have P1:Calls prog 216 #[.string s,.string ⟨#[45,62]⟩] w λe w'=>e=.returned (.bool b1)/\w=w':=by rw[<-av];exact P1
 have P2:Calls prog 216 #[.string s,.string ⟨#[124,62]⟩] w λe w'=>e=.returned (.bool b2)/\w=w':=by rw[<-aV];exact P2
 rw[hn]at P3 hm;by_cases h1:b1=true
 ·have hw:=EP (Vy s.data.toList (.inl (av.trans h1)))
  subst h1;clear av aV hn hm;go_in;go_wp2_with (go_at_call 216;refine P1.mono ?_;rintro e w' ⟨rfl,rfl⟩);go_ret2
  exact⟨Gu (by rw[hw.o];rfl) (by rw[hw.o];rfl),rfl⟩
 ·have h1:b1=false:=by simpa using h1
  subst h1;by_cases h2:b2=true
  ·have hw:=EP (Vy s.data.toList (.inr (aV.trans h2)))
   subst h2;clear av aV hn hm;go_in;go_wp2_with (first|((with_reducible go_at_call 216);(with_reducible refine P1.mono ?_);rintro e w' ⟨rfl,rfl⟩)|((with_reducible go_at_call 216);(with_reducible refine P2.mono ?_);rintro e w' ⟨rfl,rfl⟩));go_ret2
   exact⟨Gu (by rw[hw.o];rfl) (by rw[hw.o];rfl),rfl⟩
  ·have h2:b2=false:=by simpa using h2
   subst h2;by_cases h3:0<=n
   ·have hw:=EP (Se s.data.toList av aV (hm.1 h3))
    clear av aV hn hm;go_in;go_wp2_with (first|(go_at_call 216;(with_reducible refine P1.mono ?_);rintro e w' ⟨rfl,rfl⟩)|(go_at_call 216;(with_reducible refine P2.mono ?_);rintro e w' ⟨rfl,rfl⟩)|(go_at_call 195;refine P3.mono ?_;rintro e w' ⟨rfl,rfl⟩));go_ret2
    exact⟨Gu (by rw[hw.o];rfl) (by rw[hw.o];rfl),rfl⟩
   ·have hw:=EP (SY s.data.toList av aV (λh=>h3 (hm.2 h)))
    clear av aV hn hm;go_in;go_wp2_with (first|(go_at_call 216;(with_reducible refine P1.mono ?_);rintro e w' ⟨rfl,rfl⟩)|(go_at_call 216;(with_reducible refine P2.mono ?_);rintro e w' ⟨rfl,rfl⟩)|(go_at_call 195;refine P3.mono ?_;rintro e w' ⟨rfl,rfl⟩));go_ret2
    exact⟨Gu (by rw[hw.o];rfl) (by rw[hw.o];rfl),rfl⟩
set_option maxRecDepth 100000
theorem zk5(s:ByteArray)(h0:0<s.size):first s.data.toList=if isLet s[0] then word s.data.toList else if f_ s[0] then number s.data.toList else if s[0]=63 then JZ s.data.toList else sign s.data.toList:=by
 have h:=w_ s 0 h0;simp only[DR]at h;rw[h];rfl
theorem zj1(s:ByteArray)(h0:¬0<s.size):first s.data.toList=(0,0):=by
 have:s.data.toList=[]:=by apply Cn;rw[<-Dc];omega
 rw[this];rfl
theorem zod(s:ByteArray)(h0:0<s.size):s.toList.isEmpty=false:=by
 rw[CL];have:=Dc s;cases h:s.data.toList with
 |nil =>
   have e:s.size=0:=by rw[this,h];rfl
   omega
 |cons=>rfl
theorem zmf(s:ByteArray)(h0:¬0<s.size):s.toList.isEmpty=true:=by
 rw[CL];have:=Dc s;cases h:s.data.toList with
 |nil=>rfl
 |cons=>rw[h]at this;simp at this;omega
theorem JT(c d:UInt8)(h:c=d):((c.toNat:Int) ==(d.toNat:Int))=true:=by rw[h];simp
theorem Ix(c d:UInt8)(h:¬c=d):((c.toNat:Int) ==(d.toNat:Int))=false:=by
 rw[Cz];intro e;apply h;rw[<-UInt8.toNat_inj];simp at e;omega
theorem zmg(s:ByteArray)(w:World)(hs:s.size<=maxLen):Calls prog 178 #[.string s] w λe w'=>e=.returned (.tuple #[.int .i64 (first s.data.toList).1,.int .i64 (first s.data.toList).2])/\w=w':=by
 by_cases h0:0<s.size
 ·have hf:=zk5 s h0
  have he:=zod s h0;by_cases hl:isLet s[0]=true
  ·have hd:=head_data s h0
   have bX:1<=span G7 s.data.toList:=by
    have h:=w_ s 0 h0;simp only[DR]at h;rw[h];exact VU _ _ hl
   rw[Ch hl]at hf;have HC:=zn9 s w hs bX;rw[<-hf]at HC;clear hf hd bX;go_in;go_wp2_with (first|(go_at_call 196;refine(Oz _ _).mono ?_;rintro e w' ⟨rfl,rfl⟩)|(go_at_call 197;refine HC.mono ?_;rintro e w' ⟨rfl,rfl⟩));go_ret2
   exact⟨rfl,rfl⟩
  ·rw[Cg hl]at hf
   have hl:isLet s[0]=false:=by simpa using hl
   by_cases hg:f_ s[0]=true
   ·rw[Ch hg]at hf
    have HC:=zgE s w hs;rw[<-hf]at HC;clear hf;go_in;go_wp2_with (first|(go_at_call 196;refine(Oz _ _).mono ?_;rintro e w' ⟨rfl,rfl⟩)|(go_at_call 198;refine(OG _ _).mono ?_;rintro e w' ⟨rfl,rfl⟩)|(go_at_call 199;refine HC.mono ?_;rintro e w' ⟨rfl,rfl⟩));go_ret2
    exact⟨rfl,rfl⟩
   ·rw[Cg hg]at hf
    have hg:f_ s[0]=false:=by simpa using hg
    by_cases hq:s[0]=63
    ·rw[Ch hq]at hf
     have HC:=zob s w hs h0;rw[<-hf]at HC;have fx:((s[0].toNat:Int)==63)=true:=JT _ 63 hq;clear hf hq;go_in;go_wp2_with (first|(go_at_call 196;refine(Oz _ _).mono ?_;rintro e w' ⟨rfl,rfl⟩)|(go_at_call 198;refine(OG _ _).mono ?_;rintro e w' ⟨rfl,rfl⟩)|(go_at_call 200;refine HC.mono ?_;rintro e w' ⟨rfl,rfl⟩));go_ret2
     exact⟨rfl,rfl⟩
    ·rw[Cg hq]at hf
     have HC:=zoc s w h0;rw[<-hf]at HC;have fx:((s[0].toNat:Int)==63)=false:=Ix _ 63 hq;clear hf hq;go_in;go_wp2_with (first|(go_at_call 196;refine(Oz _ _).mono ?_;rintro e w' ⟨rfl,rfl⟩)|(go_at_call 198;refine(OG _ _).mono ?_;rintro e w' ⟨rfl,rfl⟩)|(go_at_call 201;refine HC.mono ?_;rintro e w' ⟨rfl,rfl⟩));go_ret2
     exact⟨rfl,rfl⟩
 ·have hf:=EP (zj1 s h0)
  have he:=zmf s h0;go_in;go_wp2
  go_ret2
  exact⟨Gu (by rw[hf.o];rfl) (by rw[hf.o];rfl),rfl⟩
theorem zoe(l:List UInt8)(h:Lib.indexByte l 10<0):A_ true l=l.length:=by
 induction l with
 |nil=>rfl
 |cons c r ih =>
  simp only[A_,Ca];have hg:=Lib.indexByte_ge r 10;by_cases hc:c=10
  ·subst hc;simp[Lib.indexByte]at h
  ·have sT:(c==10)=false:=by simpa using hc
   have cH:(c != 10)=true:=by simpa using hc
   rw[Lib.indexByte,sT]at h;simp only[Dg,D3]at h;have h0:Lib.indexByte r 10<0:=by
    by_cases h1:Lib.indexByte r 10 = -1
    ·omega
    ·rw[Cg (by simpa using h1)]at h;omega
   rw[cH,ih h0]
theorem zof(l:List UInt8)(j:Nat)(h:Lib.indexByte l 10=j):j<l.length/\A_ true l=j+1+A_ false (l.drop (j+1)):=by
 induction l generalizing j with
 |nil=>simp[Lib.indexByte]at h
 |cons c r ih =>
  simp only[A_,Ca];have hg:=Lib.indexByte_ge r 10;by_cases hc:c=10
  ·subst hc
   simp[Lib.indexByte]at h;obtain rfl:j=0:=by omega
   simp;omega
  ·have sT:(c==10)=false:=by simpa using hc
   have cH:(c != 10)=true:=by simpa using hc
   rw[Lib.indexByte,sT]at h;simp only[Dg,D3]at h;split at h
   ·omega
   ·rename_i ai
    have ai:¬Lib.indexByte r 10 = -1:=by simpa using ai
    obtain⟨i,hi⟩:∃i:Nat,Lib.indexByte r 10=i:=⟨(Lib.indexByte r 10).toNat,by omega⟩;obtain⟨h1,h2⟩:=ih i hi;obtain rfl:j=i+1:=by omega
    rw[cH,h2];simp only[EH];omega
def Bt(s:ByteArray)(k N:Nat):Prop:=k+A_ false (s.data.toList.drop k)=N
theorem zog(s:ByteArray)(k N:Nat)(h:Bt s k N)(hk:k<s.size)(hc:s[k]=32\/s[k]=9\/s[k]=10):Bt s (k+1) N:=by
 unfold Bt at *;rw[w_ s k hk,A_,Ch hc]at h;omega
theorem zoh(s:ByteArray)(k N:Nat)(h:Bt s k N)(hk:k<s.size)(hc:¬(s[k]=32\/s[k]=9\/s[k]=10))(eh:¬s[k]=35):k=N:=by
 unfold Bt at *;rw[w_ s k hk,A_,Cg hc,Cg eh]at h;omega
theorem Pg(s:ByteArray)(k N:Nat)(h:Bt s k N)(hk:s.size<=k):k=N:=by
 unfold Bt at *;rw[CH (by simpa using hk)]at h;exact h
theorem VI(s:ByteArray)(k:Nat)(hk:k<s.size)(eh:s[k]=35):A_ false (s.data.toList.drop k)=A_ true (s.data.toList.drop k):=by
 rw[w_ s k hk,eh];simp[A_]
theorem zqp(s:ByteArray)(k N:Nat)(h:Bt s k N)(hk:k<s.size)(eh:s[k]=35)(hj:Lib.indexByte (s.data.toList.drop k) 10<0):s.size=N:=by
 unfold Bt at *;rw[VI s k hk eh,zoe _ hj,Dk,<-Dc]at h;omega
theorem zqq(s:ByteArray)(k N j:Nat)(h:Bt s k N)(hk:k<s.size)(eh:s[k]=35)(hj:Lib.indexByte (s.data.toList.drop k) 10=j):k+j<s.size/\Bt s (k+j+1) N:=by
 unfold Bt at *;obtain⟨h1,h2⟩:=zof _ _ hj;rw[VI s k hk eh,h2,Ef]at h;rw[Dk,<-Dc]at h1;refine⟨by omega,?_⟩;rw[show k+j+1=k+(j+1) by omega];omega
theorem zj2(s:ByteArray)(w:World)(hs:s.size<=maxLen):Calls prog 177 #[.string s] w λe w'=>e=.returned (.int .i64 (A_ false s.data.toList))/\w=w':=by
 have hm:=hs;unfold maxLen at hs;go_in;go_wp2
 go_loop [3] (λi=>∃k:Nat,k<=s.size/\i=.int .i64 k/\Bt s k (A_ false s.data.toList)) (λi=>s.size-(intOf i).toNat)
 case atStart=>exact⟨0,Cw _,rfl,by simp[Bt]⟩
 case round =>
  obtain⟨k,hk,rfl,hn⟩:=hrel;have HN:=EP hn;clear hn;by_cases af:k<s.size
  ·by_cases hb:s[k]=32\/s[k]=9\/s[k]=10
   ·have H:=EP (zog s k _ HN.o af hb)
    clear HN;rcases hb with hb|hb|hb
    ·have b1:((s[k].toNat:Int)==32)=true:=JT _ 32 hb
     clear hb;go_wp2;go_round
     case rel=>exact⟨k+1,by omega,by go_num,H.o⟩
     case measure=>simp[intOf];omega
    ·have b1:((s[k].toNat:Int)==32)=false:=Ix _ 32 (by rw[hb];decide)
     have b2:((s[k].toNat:Int)==9)=true:=JT _ 9 hb;clear hb;go_wp2;go_round
     case rel=>exact⟨k+1,by omega,by go_num,H.o⟩
     case measure=>simp[intOf];omega
    ·have b1:((s[k].toNat:Int)==32)=false:=Ix _ 32 (by rw[hb];decide)
     have b2:((s[k].toNat:Int)==9)=false:=Ix _ 9 (by rw[hb];decide);have b3:((s[k].toNat:Int)==10)=true:=JT _ 10 hb;clear hb;go_wp2;go_round
     case rel=>exact⟨k+1,by omega,by go_num,H.o⟩
     case measure=>simp[intOf];omega
   ·have b1:((s[k].toNat:Int)==32)=false:=Ix _ 32 (λe=>hb (.inl e))
    have b2:((s[k].toNat:Int)==9)=false:=Ix _ 9 (λe=>hb (.inr (.inl e)));have b3:((s[k].toNat:Int)==10)=false:=Ix _ 10 (λe=>hb (.inr (.inr e)));by_cases eh:s[k]=35
    ·have b4:((s[k].toNat:Int)==35)=true:=JT _ 35 eh
     have P:=ze7 (s.extract k s.size) 10 w;rw[QR,show(10:Int).toNat.toUInt8=10 from rfl]at P;obtain⟨j,hj⟩:∃j,Lib.indexByte (s.data.toList.drop k) 10=j:=⟨_,rfl⟩;rw[hj]at P;by_cases kH:j<0
     ·have H:=EP (zqp s k _ HN.o af eh (by rw[hj];exact kH))
      clear hj eh hb HN;go_wp2_with (go_at_call 195;refine P.mono ?_;rintro e w' ⟨rfl,rfl⟩);go_ret
      exact⟨JS (by rw[<-H.o]),rfl⟩
     ·obtain⟨m,rfl⟩:∃m:Nat,j=m:=⟨j.toNat,by omega⟩
      obtain⟨cG,iK⟩:=zqq s k _ m HN.o af eh hj;have H:=EP iK;clear hj eh hb HN iK;go_wp2_with (go_at_call 195;refine P.mono ?_;rintro e w' ⟨rfl,rfl⟩);go_round
      case rel=>exact⟨k+m+1,by omega,by go_num,H.o⟩
      case measure=>simp[intOf];omega
    ·have b4:((s[k].toNat:Int)==35)=false:=Ix _ 35 eh
     have H:=EP (zoh s k _ HN.o af hb eh);clear HN hb eh;go_wp2;go_ret
     exact⟨JS (by rw[<-H.o]),rfl⟩
  ·have H:=EP (Pg s k _ HN.o (by omega))
   have Tv:k=s.size:=by omega
   clear HN;have H2:=EP (Tv.symm.trans H.o);clear H Tv;go_wp2;go_ret
   exact⟨JS (by rw[<-H2.o]),rfl⟩
end
end Go.Proofs.YtfafilmklhnngaaGreatDoor
