import Derived.Test.YtknkclefoiohpaaGreatDoorKaB
import Derived.Lib.Bytealg
set_option maxHeartbeats 12800000
namespace Go.Proofs.YtknkclefoiohpaaGreatDoor
open Go.RowKit Lx
set_option maxRecDepth 100000
theorem zcI(s:ByteArray)(c:Int)(w:World):Calls Tryz.prog 195 #[.string s,.int .u8 c] w λe w'=>e=.returned (.int .i64 (Lib.indexByte s.data.toList c.toNat.toUInt8))/\w=w':=by
 go_enter Tryz.func195,Tryz.ntmps195
 go_wp2
 rw[run_callFunc_extern Tryz.func211 (by kernel_rfl) (by kernel_rfl) (by kernel_rfl) (e:=Extern.BytealgIndexByte.indexByte) (by kernel_rfl),Lib.run_indexByteString]
 simp only[Result.andThen];rw[Oper.upon_value]
 go_wp2
 go_ret
 exact⟨rfl,rfl⟩
theorem zd3(s:ByteArray)(c:Int)(w:World):Calls Tryz.prog 178 #[.string s,.int .u8 c] w λe w'=>e=.returned (.int .i64 (Lib.indexByte s.data.toList c.toNat.toUInt8))/\w=w':=by
 go_enter Tryz.func178,Tryz.ntmps178
 go_wp2_with (go_at_call 195;refine(zcI _ _ _).mono ?_;rintro e w' ⟨rfl,rfl⟩)
 go_ret
 exact⟨rfl,rfl⟩
theorem zar {a b:Bool}(h:a=b):Ending.returned (.bool a)=.returned (.bool b):=by rw[h]
theorem wk3(s:ByteArray)(h:s.toList∈keys):(3:Int)=(wordKind s.data.toList:Nat):=by
 rw[uK]at h
 simp[wordKind,h]
theorem wk2(s:ByteArray)(hs:0<s.size)(hh:Hid (s.data.toList.headD 0=s[0]))(h:s.toList∉keys)(hu:isUp s[0]=true):(2:Int)=(wordKind s.data.toList:Nat):=by
 rw[uK]at h
 unfold wordKind;rw[ue h,hh.out,ud hu]
 rfl
theorem wk1(s:ByteArray)(hs:0<s.size)(hh:Hid (s.data.toList.headD 0=s[0]))(h:s.toList∉keys)(hu:isUp s[0]=false):(1:Int)=(wordKind s.data.toList:Nat):=by
 rw[uK]at h
 unfold wordKind;rw[ue h,hh.out,hu]
 rfl
theorem zgO(s:ByteArray)(w:World)(hs:0<s.size):Calls Tryz.prog 199 #[.string s] w λe w'=>e=.returned (.int .i64 (wordKind s.data.toList))/\w=w':=by
 have hh:s.data.toList.headD 0=s[0]:=by
  have:=drop_at s 0 hs;simp only[vS]at this;rw[this];rfl
 have H:=wJ hh;clear hh;go_enter Tryz.func199,Tryz.ntmps199
 go_wp2_with (go_at_call 196;refine(zb0 _ _).mono ?_;rintro e w' ⟨rfl,rfl⟩)
 all_goals
  go_ret
  refine⟨zaK ?_,rfl⟩;first
   |exact wk3 s (by simp_all [keys])
   |exact wk2 s hs H (by simp_all [keys]) (by assumption)
   |exact wk1 s hs H (by simp_all [keys]) (by assumption)
   |(exfalso;simp_all;done)
set_option maxRecDepth 100000
theorem zau {a b c d:Int}(h:a=b)(k:c=d):Ending.returned (.tuple #[.int .i64 a,.int .i64 c])=.returned (.tuple #[.int .i64 b,.int .i64 d]):=by rw[h,k]
theorem zka(l:List UInt8)(n:Nat)(h:Hid (span inW l=n))(k:16<n):word l=(0,0):=by
 unfold word;rw[h.out,ud k]
theorem zjc(l:List UInt8)(n:Nat)(h:Hid (span inW l=n))(k:n<=16):word l=(wordKind (l.take n),n):=by
 unfold word;rw[h.out,ue (by omega)]
theorem zfZ(s:ByteArray)(n:Nat):(s.extract 0 n).data.toList=s.data.toList.take n:=by
 rw[Lib.extract_data];simp
theorem zkb(s:ByteArray)(n:Nat)(h:n<=s.size):(s.extract 0 n).size=n:=by
 rw[vf,zfZ,vN]
 have:=vf s;omega
theorem zlU(s:ByteArray)(w:World)(hs:s.size<=maxLen)(h1:1<=span inW s.data.toList):Calls Tryz.prog 180 #[.string s] w λe w'=>e=.returned (.tuple #[.int .i64 (word s.data.toList).1,.int .i64 (word s.data.toList).2])/\w=w':=by
 obtain⟨n,hn⟩:∃n,span inW s.data.toList=n:=⟨_,rfl⟩;have hb:=zfY inW s;have HC:=zj9 s w hs;rw[hn]at h1 hb HC
 have HN:=wJ hn;clear hn;unfold maxLen at hs;by_cases hk:16<n
 ·have hw:=wJ (zka _ _ HN hk)
  go_enter Tryz.func180,Tryz.ntmps180
  go_wp2_with (go_at_call 197;refine HC.mono ?_;rintro e w' ⟨rfl,rfl⟩)
  go_ret2
  exact⟨zau (by rw[hw.out];rfl) (by rw[hw.out];rfl),rfl⟩
 ·have hw:=wJ (zjc _ _ HN (by omega))
  have hx:=zfZ s n;have hz:=zkb s n hb;have HD:=zgO (s.extract 0 n) w (by omega);rw[hx]at HD
  clear hz hx;go_enter Tryz.func180,Tryz.ntmps180
  go_wp2_with (first|(go_at_call 197;refine HC.mono ?_;rintro e w' ⟨rfl,rfl⟩)|(go_at_call 199;refine HD.mono ?_;rintro e w' ⟨rfl,rfl⟩))
  go_ret2
  exact⟨zau (by rw[hw.out]) (by rw[hw.out]),rfl⟩
theorem zkc(s:ByteArray)(h0:0<s.size)(n:Nat)(h:Hid (span isDig s.data.toList=n)):badNum s.data.toList=decide (n=0\/6<n\/(1<n/\s[0]=48)):=by
 unfold badNum;have:=drop_at s 0 h0;simp only[vS]at this;rw[h.out,show s.data.toList.headD 0=s[0] by rw[this];rfl]
theorem zbJ(l:List UInt8)(h:badNum l=true):number l=(0,0):=by unfold number;rw[ud h]
theorem zcp(l:List UInt8)(n:Nat)(h:badNum l=false)(k:Hid (span isDig l=n)):number l=(4,n):=by
 unfold number;rw[ue (by simp[h]),k.out]
theorem zfe(s:ByteArray)(w:World)(hs:s.size<=maxLen):Calls Tryz.prog 182 #[.string s] w λe w'=>e=.returned (.tuple #[.int .i64 (number s.data.toList).1,.int .i64 (number s.data.toList).2])/\w=w':=by
 obtain⟨n,hn⟩:∃n,span isDig s.data.toList=n:=⟨_,rfl⟩;have hb:=zfY isDig s;have HC:=zjb s w hs;rw[hn]at hb HC
 have HN:=wJ hn;clear hn;unfold maxLen at hs;by_cases hz:n=0
 ·have hw:=wJ (zbJ s.data.toList (by unfold badNum;rw[HN.out];simp[hz]))
  have hz':n<1:=by omega
  have HZ:=wJ hz;clear hz;go_enter Tryz.func182,Tryz.ntmps182
  go_wp2_with (go_at_call 197;refine HC.mono ?_;rintro e w' ⟨rfl,rfl⟩)
  go_ret2
  exact⟨zau (by rw[hw.out];rfl) (by rw[hw.out];rfl),rfl⟩
 ·have h0:0<s.size:=by omega
  have he:=zkc s h0 n HN;have fH:((n:Int)==0)=false:=by rw[uY];intro h;simp at h;omega
  by_cases h6:6<n
  ·have hw:=wJ (zbJ s.data.toList (by rw[he];simp[h6]))
   clear he;go_enter Tryz.func182,Tryz.ntmps182
   go_wp2_with (go_at_call 197;refine HC.mono ?_;rintro e w' ⟨rfl,rfl⟩)
   go_ret2
   exact⟨zau (by rw[hw.out];rfl) (by rw[hw.out];rfl),rfl⟩
  ·by_cases h1:1<n
   ·have h6b:decide ((6:Int)<n)=false:=by rw[decide_eq_false_iff_not];omega
    by_cases hd:s[0]=48
    ·have hw:=wJ (zbJ s.data.toList (by rw[he];simp[h1,hd]))
     have hd':((s[0].toNat:Int)==48)=true:=by rw[hd];rfl
     clear he hd;go_enter Tryz.func182,Tryz.ntmps182
     go_wp2_with (go_at_call 197;refine HC.mono ?_;rintro e w' ⟨rfl,rfl⟩)
     go_ret2
     exact⟨zau (by rw[hw.out];rfl) (by rw[hw.out];rfl),rfl⟩
    ·have hw:=wJ (zcp s.data.toList n (by rw[he];simp[h1,hd];omega) HN)
     have hd':((s[0].toNat:Int)==48)=false:=by
      rw[uY];intro h;apply hd;simp at h;rw[<-UInt8.toNat_inj];simp;omega
     clear he hd;go_enter Tryz.func182,Tryz.ntmps182
     go_wp2_with (go_at_call 197;refine HC.mono ?_;rintro e w' ⟨rfl,rfl⟩)
     go_ret2
     exact⟨zau (by rw[hw.out];rfl) (by rw[hw.out]),rfl⟩
   ·have h6b:decide ((6:Int)<n)=false:=by rw[decide_eq_false_iff_not];omega
    have hw:=wJ (zcp s.data.toList n (by rw[he];simp;omega) HN);clear he;go_enter Tryz.func182,Tryz.ntmps182
    go_wp2_with (go_at_call 197;refine HC.mono ?_;rintro e w' ⟨rfl,rfl⟩)
    go_ret2
    exact⟨zau (by rw[hw.out];rfl) (by rw[hw.out]),rfl⟩
set_option maxRecDepth 100000
theorem zcz(s:ByteArray)(k:Nat):(s.extract k s.size).data.toList=s.data.toList.drop k:=by
 rw[Lib.extract_data,ur]
 rw[uR,<-vf]
 omega
theorem zd9(s:ByteArray)(k:Nat):(s.extract k s.size).size=s.size-k:=by
 rw[vf,zcz,uR,<-vf]
theorem zlV(l:List UInt8)(n:Nat)(h:Hid ((number (l.drop 1)).2=n))(k:n=0):zbf l=(0,0):=by
 unfold zbf;rw[h.out,ud k]
theorem zkd(l:List UInt8)(n:Nat)(h:Hid ((number (l.drop 1)).2=n))(k:n≠0):zbf l=(5,1+n):=by
 unfold zbf;rw[h.out,ue k]
theorem zlW(s:ByteArray)(w:World)(hs:s.size<=maxLen)(h0:0<s.size):Calls Tryz.prog 183 #[.string s] w λe w'=>e=.returned (.tuple #[.int .i64 (zbf s.data.toList).1,.int .i64 (zbf s.data.toList).2])/\w=w':=by
 have hz:=zd9 s 1;have HC:=zfe (s.extract 1 s.size) w (by omega);rw[zcz]at HC
 obtain⟨n,hn⟩:∃n,(number (s.data.toList.drop 1)).2=n:=⟨_,rfl⟩;obtain⟨m,hm⟩:∃n,(number (s.data.toList.drop 1)).1=n:=⟨_,rfl⟩;have hb:n<=6:=by
  rcases zaD (s.data.toList.drop 1) with e|⟨e,_,h2⟩
  ·rw[<-hn,e];omega
  ·rw[<-hn,e];exact h2
 rw[hn,hm]at HC
 have HN:=wJ hn;clear hn hm hz;unfold maxLen at hs;by_cases hk:n=0
 ·have hw:=wJ (zlV _ _ HN hk)
  have fH:((n:Int)==0)=true:=by rw[hk];rfl
  clear hk;go_enter Tryz.func183,Tryz.ntmps183
  go_wp2_with (go_at_call 182;refine HC.mono ?_;rintro e w' ⟨rfl,rfl⟩)
  go_ret2
  exact⟨zau (by rw[hw.out];rfl) (by rw[hw.out];rfl),rfl⟩
 ·have hw:=wJ (zkd _ _ HN hk)
  have fH:((n:Int)==0)=false:=by rw[uY];intro h;simp at h;omega
  go_enter Tryz.func183,Tryz.ntmps183
  go_wp2_with (go_at_call 182;refine HC.mono ?_;rintro e w' ⟨rfl,rfl⟩)
  go_ret2
  exact⟨zau (by rw[hw.out];rfl) (by rw[hw.out];simp),rfl⟩
theorem zcJ(s p:ByteArray)(w:World):Calls Tryz.prog 212 #[.string s,.string p] w λe w'=>e=.returned (.bool (pre p.data.toList s.data.toList))/\w=w':=by
 have hr:_=pre p.data.toList s.data.toList:=Lib.hasPrefix_raw s p;have HR:=wJ hr;clear hr;by_cases h:p.size<=s.size
 ·go_enter Tryz.func212,Tryz.ntmps212
  go_wp2
  go_ret
  exact⟨zar (by rw[<-HR.out];simp[h]),rfl⟩
 ·go_enter Tryz.func212,Tryz.ntmps212
  go_wp2
  go_ret
  exact⟨zar (by rw[<-HR.out];simp[h]),rfl⟩
theorem zd4(s p:ByteArray)(w:World):Calls Tryz.prog 200 #[.string s,.string p] w λe w'=>e=.returned (.bool (pre p.data.toList s.data.toList))/\w=w':=by
 go_enter Tryz.func200,Tryz.ntmps200
 go_wp2_with (go_at_call 212;refine(zcJ _ _ _).mono ?_;rintro e w' ⟨rfl,rfl⟩)
 go_ret
 exact⟨rfl,rfl⟩
theorem zgC(l:List UInt8)(c:UInt8):0<=Lib.indexByte l c↔c∈l:=by
 induction l with
 |nil=>simp[Lib.indexByte]
 |cons b l ih =>
  unfold Lib.indexByte;have hg:=Lib.indexByte_ge l c;by_cases hb:b=c
  ·simp[hb]
  ·have hb':(b==c)=false:=by simpa using hb
   rw[hb']
   by_cases h1:Lib.indexByte l c = -1
   ·simp[h1]
    rw[<-ih,h1]
    exact⟨λh=>hb h.symm,by omega⟩
   ·have h1':(Lib.indexByte l c == -1)=false:=by simpa using h1
    rw[h1']
    simp only[vy,vZ,uT];rw[<-ih]
    constructor
    ·intro h;right;omega
    ·rintro(h|h)
     ·exact absurd h.symm hb
     ·omega
theorem zeW(l:List UInt8)(h:pre [45,62] l=true\/pre [124,62] l=true):sign l=(6,2):=by
 unfold sign;rw[ud (by simpa using h)]
theorem zdF(l:List UInt8)(h1:pre [45,62] l=false)(h2:pre [124,62] l=false)(h:l.headD 0∈signs):sign l=(6,1):=by
 unfold sign;rw[h1,h2,ue (by simp),ud h]
theorem zdc(l:List UInt8)(h1:pre [45,62] l=false)(h2:pre [124,62] l=false)(h:l.headD 0∉signs):sign l=(0,0):=by
 unfold sign;rw[h1,h2,ue (by simp),ue h]
theorem znR(c:UInt8):(c.toNat:Int).toNat.toUInt8=c:=by simp
theorem head_data(s:ByteArray)(h0:0<s.size):s.data.toList.headD 0=s[0]:=by
 have:=drop_at s 0 h0;simp only[vS]at this;rw[this];rfl
theorem zlX(s:ByteArray)(w:World)(h0:0<s.size):Calls Tryz.prog 184 #[.string s] w λe w'=>e=.returned (.tuple #[.int .i64 (sign s.data.toList).1,.int .i64 (sign s.data.toList).2])/\w=w':=by
 have P1:=zd4 s ⟨#[45,62]⟩ w;have P2:=zd4 s ⟨#[124,62]⟩ w;have P3:=zd3 ⟨#[92,58,61,59,123,125,40,41,46,126,64,60,62,44,91,93,33]⟩ (s[0].toNat:Int) w;rw[znR]at P3
 have hm:=zgC signs s[0];rw[<-head_data s h0]at hm
 have e3:Lib.indexByte (⟨#[92,58,61,59,123,125,40,41,46,126,64,60,62,44,91,93,33]⟩:ByteArray).data.toList s[0]=Lib.indexByte signs (s.data.toList.headD 0):=by rw[head_data s h0];rfl
 rw[e3]at P3
 clear e3;obtain⟨b1,aN⟩:∃b,pre [45,62] s.data.toList=b:=⟨_,rfl⟩;obtain⟨b2,aA⟩:∃b,pre [124,62] s.data.toList=b:=⟨_,rfl⟩;obtain⟨n,hn⟩:∃n,Lib.indexByte signs (s.data.toList.headD 0)=n:=⟨_,rfl⟩;have P1:Calls Tryz.prog 200 #[.string s,.string ⟨#[45,62]⟩] w λe w'=>e=.returned (.bool b1)/\w=w':=by rw[<-aN];exact P1
 have P2:Calls Tryz.prog 200 #[.string s,.string ⟨#[124,62]⟩] w λe w'=>e=.returned (.bool b2)/\w=w':=by rw[<-aA];exact P2
 rw[hn]at P3 hm
 by_cases h1:b1=true
 ·have hw:=wJ (zeW s.data.toList (.inl (aN.trans h1)))
  subst h1;clear aN aA hn hm;go_enter Tryz.func184,Tryz.ntmps184
  go_wp2_with (go_at_call 200;refine P1.mono ?_;rintro e w' ⟨rfl,rfl⟩)
  go_ret2
  exact⟨zau (by rw[hw.out];rfl) (by rw[hw.out];rfl),rfl⟩
 ·have h1:b1=false:=by simpa using h1
  subst h1;by_cases h2:b2=true
  ·have hw:=wJ (zeW s.data.toList (.inr (aA.trans h2)))
   subst h2;clear aN aA hn hm;go_enter Tryz.func184,Tryz.ntmps184
   go_wp2_with (first|((with_reducible go_at_call 200);(with_reducible refine P1.mono ?_);rintro e w' ⟨rfl,rfl⟩)|((with_reducible go_at_call 200);(with_reducible refine P2.mono ?_);rintro e w' ⟨rfl,rfl⟩))
   go_ret2
   exact⟨zau (by rw[hw.out];rfl) (by rw[hw.out];rfl),rfl⟩
  ·have h2:b2=false:=by simpa using h2
   subst h2;by_cases h3:0<=n
   ·have hw:=wJ (zdF s.data.toList aN aA (hm.1 h3))
    clear aN aA hn hm;go_enter Tryz.func184,Tryz.ntmps184
    go_wp2_with (first|(go_at_call 200;(with_reducible refine P1.mono ?_);rintro e w' ⟨rfl,rfl⟩)|(go_at_call 200;(with_reducible refine P2.mono ?_);rintro e w' ⟨rfl,rfl⟩)|(go_at_call 178;refine P3.mono ?_;rintro e w' ⟨rfl,rfl⟩))
    go_ret2
    exact⟨zau (by rw[hw.out];rfl) (by rw[hw.out];rfl),rfl⟩
   ·have hw:=wJ (zdc s.data.toList aN aA (λh=>h3 (hm.2 h)))
    clear aN aA hn hm;go_enter Tryz.func184,Tryz.ntmps184
    go_wp2_with (first|(go_at_call 200;(with_reducible refine P1.mono ?_);rintro e w' ⟨rfl,rfl⟩)|(go_at_call 200;(with_reducible refine P2.mono ?_);rintro e w' ⟨rfl,rfl⟩)|(go_at_call 178;refine P3.mono ?_;rintro e w' ⟨rfl,rfl⟩))
    go_ret2
    exact⟨zau (by rw[hw.out];rfl) (by rw[hw.out];rfl),rfl⟩
set_option maxRecDepth 100000
theorem zjd(s:ByteArray)(h0:0<s.size):first s.data.toList=if isLet s[0] then word s.data.toList else if isDig s[0] then number s.data.toList else if s[0]=63 then zbf s.data.toList else sign s.data.toList:=by
 have h:=drop_at s 0 h0;simp only[vS]at h;rw[h]
 rfl
theorem zh0(s:ByteArray)(h0:¬0<s.size):first s.data.toList=(0,0):=by
 have:s.data.toList=[]:=by apply List.eq_nil_of_length_eq_zero;rw[<-vf];omega
 rw[this];rfl
theorem zlY(s:ByteArray)(h0:0<s.size):s.toList.isEmpty=false:=by
 rw[uK]
 have:=vf s;cases h:s.data.toList with
 |nil =>
   have e:s.size=0:=by rw[this,h];rfl
   omega
 |cons=>rfl
theorem zke(s:ByteArray)(h0:¬0<s.size):s.toList.isEmpty=true:=by
 rw[uK]
 have:=vf s;cases h:s.data.toList with
 |nil=>rfl
 |cons=>rw[h]at this;simp at this;omega
theorem u8t(c d:UInt8)(h:c=d):((c.toNat:Int) ==(d.toNat:Int))=true:=by rw[h];simp
theorem u8f(c d:UInt8)(h:¬c=d):((c.toNat:Int) ==(d.toNat:Int))=false:=by
 rw[uY]
 intro e;apply h
 rw[<-UInt8.toNat_inj]
 simp at e;omega
theorem zkf(s:ByteArray)(w:World)(hs:s.size<=maxLen):Calls Tryz.prog 159 #[.string s] w λe w'=>e=.returned (.tuple #[.int .i64 (first s.data.toList).1,.int .i64 (first s.data.toList).2])/\w=w':=by
 by_cases h0:0<s.size
 ·have hf:=zjd s h0
  have he:=zlY s h0;by_cases hl:isLet s[0]=true
  ·have hd:=head_data s h0
   have jY:1<=span inW s.data.toList:=by
    have h:=drop_at s 0 h0;simp only[vS]at h;rw[h];exact zdG _ _ hl
   rw[ud hl]at hf
   have HC:=zlU s w hs jY;rw[<-hf]at HC
   clear hf hd jY;go_enter Tryz.func159,Tryz.ntmps159
   go_wp2_with (first|(go_at_call 179;refine(zbk _ _).mono ?_;rintro e w' ⟨rfl,rfl⟩)|(go_at_call 180;refine HC.mono ?_;rintro e w' ⟨rfl,rfl⟩))
   go_ret2
   exact⟨rfl,rfl⟩
  ·rw[ue hl]at hf
   have hl:isLet s[0]=false:=by simpa using hl
   by_cases hg:isDig s[0]=true
   ·rw[ud hg]at hf
    have HC:=zfe s w hs;rw[<-hf]at HC
    clear hf;go_enter Tryz.func159,Tryz.ntmps159
    go_wp2_with (first|(go_at_call 179;refine(zbk _ _).mono ?_;rintro e w' ⟨rfl,rfl⟩)|(go_at_call 181;refine(zbx _ _).mono ?_;rintro e w' ⟨rfl,rfl⟩)|(go_at_call 182;refine HC.mono ?_;rintro e w' ⟨rfl,rfl⟩))
    go_ret2
    exact⟨rfl,rfl⟩
   ·rw[ue hg]at hf
    have hg:isDig s[0]=false:=by simpa using hg
    by_cases hq:s[0]=63
    ·rw[ud hq]at hf
     have HC:=zlW s w hs h0;rw[<-hf]at HC
     have nj:((s[0].toNat:Int)==63)=true:=u8t _ 63 hq;clear hf hq;go_enter Tryz.func159,Tryz.ntmps159
     go_wp2_with (first|(go_at_call 179;refine(zbk _ _).mono ?_;rintro e w' ⟨rfl,rfl⟩)|(go_at_call 181;refine(zbx _ _).mono ?_;rintro e w' ⟨rfl,rfl⟩)|(go_at_call 183;refine HC.mono ?_;rintro e w' ⟨rfl,rfl⟩))
     go_ret2
     exact⟨rfl,rfl⟩
    ·rw[ue hq]at hf
     have HC:=zlX s w h0;rw[<-hf]at HC
     have nj:((s[0].toNat:Int)==63)=false:=u8f _ 63 hq;clear hf hq;go_enter Tryz.func159,Tryz.ntmps159
     go_wp2_with (first|(go_at_call 179;refine(zbk _ _).mono ?_;rintro e w' ⟨rfl,rfl⟩)|(go_at_call 181;refine(zbx _ _).mono ?_;rintro e w' ⟨rfl,rfl⟩)|(go_at_call 184;refine HC.mono ?_;rintro e w' ⟨rfl,rfl⟩))
     go_ret2
     exact⟨rfl,rfl⟩
 ·have hf:=wJ (zh0 s h0)
  have he:=zke s h0;go_enter Tryz.func159,Tryz.ntmps159
  go_wp2
  go_ret2
  exact⟨zau (by rw[hf.out];rfl) (by rw[hf.out];rfl),rfl⟩
theorem zlZ(l:List UInt8)(h:Lib.indexByte l 10<0):btw true l=l.length:=by
 induction l with
 |nil=>rfl
 |cons c r ih =>
  simp only[btw,ui];have hg:=Lib.indexByte_ge r 10;by_cases hc:c=10
  ·subst hc;simp[Lib.indexByte]at h
  ·have hc':(c==10)=false:=by simpa using hc
   have eQ:(c != 10)=true:=by simpa using hc
   rw[Lib.indexByte,hc']at h
   simp only[vy,vZ]at h;have h0:Lib.indexByte r 10<0:=by
    by_cases h1:Lib.indexByte r 10 = -1
    ·omega
    ·rw[ue (by simpa using h1)]at h;omega
   rw[eQ,ih h0]
theorem zl0(l:List UInt8)(j:Nat)(h:Lib.indexByte l 10=j):j<l.length/\btw true l=j+1+btw false (l.drop (j+1)):=by
 induction l generalizing j with
 |nil=>simp[Lib.indexByte]at h
 |cons c r ih =>
  simp only[btw,ui];have hg:=Lib.indexByte_ge r 10;by_cases hc:c=10
  ·subst hc
   simp[Lib.indexByte]at h
   obtain rfl:j=0:=by omega
   simp;omega
  ·have hc':(c==10)=false:=by simpa using hc
   have eQ:(c != 10)=true:=by simpa using hc
   rw[Lib.indexByte,hc']at h
   simp only[vy,vZ]at h;split at h
   ·omega
   ·rename_i bf
    have bf:¬Lib.indexByte r 10 = -1:=by simpa using bf
    obtain⟨i,hi⟩:∃i:Nat,Lib.indexByte r 10=i:=⟨(Lib.indexByte r 10).toNat,by omega⟩;obtain⟨h1,h2⟩:=ih i hi;obtain rfl:j=i+1:=by omega
    rw[eQ,h2]
    simp only[List.drop_succ_cons];omega
def Bt(s:ByteArray)(k N:Nat):Prop:=k+btw false (s.data.toList.drop k)=N
theorem zl1(s:ByteArray)(k N:Nat)(h:Bt s k N)(hk:k<s.size)(hc:s[k]=32\/s[k]=9\/s[k]=10):Bt s (k+1) N:=by
 unfold Bt at *;rw[drop_at s k hk,btw,ud hc]at h
 omega
theorem zl2(s:ByteArray)(k N:Nat)(h:Bt s k N)(hk:k<s.size)(hc:¬(s[k]=32\/s[k]=9\/s[k]=10))(ei:¬s[k]=35):k=N:=by
 unfold Bt at *;rw[drop_at s k hk,btw,ue hc,ue ei]at h
 omega
theorem bt_end(s:ByteArray)(k N:Nat)(h:Bt s k N)(hk:s.size<=k):k=N:=by
 unfold Bt at *;rw[uD (by simpa using hk)]at h
 exact h
theorem zea(s:ByteArray)(k:Nat)(hk:k<s.size)(ei:s[k]=35):btw false (s.data.toList.drop k)=btw true (s.data.toList.drop k):=by
 rw[drop_at s k hk,ei]
 simp[btw]
theorem znS(s:ByteArray)(k N:Nat)(h:Bt s k N)(hk:k<s.size)(ei:s[k]=35)(hj:Lib.indexByte (s.data.toList.drop k) 10<0):s.size=N:=by
 unfold Bt at *;rw[zea s k hk ei,zlZ _ hj,uR,<-vf]at h
 omega
theorem znT(s:ByteArray)(k N j:Nat)(h:Bt s k N)(hk:k<s.size)(ei:s[k]=35)(hj:Lib.indexByte (s.data.toList.drop k) 10=j):k+j<s.size/\Bt s (k+j+1) N:=by
 unfold Bt at *;obtain⟨h1,h2⟩:=zl0 _ _ hj;rw[zea s k hk ei,h2,vX]at h
 rw[uR,<-vf]at h1
 refine⟨by omega,?_⟩;rw[show k+j+1=k+(j+1) by omega]
 omega
theorem zh1(s:ByteArray)(w:World)(hs:s.size<=maxLen):Calls Tryz.prog 158 #[.string s] w λe w'=>e=.returned (.int .i64 (btw false s.data.toList))/\w=w':=by
 have hm:=hs;unfold maxLen at hs;go_enter Tryz.func158,Tryz.ntmps158
 go_wp2
 go_loop [3] (λi=>∃k:Nat,k<=s.size/\i=.int .i64 k/\Bt s k (btw false s.data.toList)) (λi=>s.size-(intOf i).toNat)
 case atStart=>exact⟨0,vK _,rfl,by simp[Bt]⟩
 case round =>
  obtain⟨k,hk,rfl,hn⟩:=hrel;have HN:=wJ hn;clear hn;by_cases ah:k<s.size
  ·by_cases hb:s[k]=32\/s[k]=9\/s[k]=10
   ·have H:=wJ (zl1 s k _ HN.out ah hb)
    clear HN;rcases hb with hb|hb|hb
    ·have b1:((s[k].toNat:Int)==32)=true:=u8t _ 32 hb
     clear hb;go_wp2
     go_round
     case rel=>exact⟨k+1,by omega,by go_num,H.out⟩
     case measure=>simp[intOf];omega
    ·have b1:((s[k].toNat:Int)==32)=false:=u8f _ 32 (by rw[hb];decide)
     have b2:((s[k].toNat:Int)==9)=true:=u8t _ 9 hb;clear hb;go_wp2
     go_round
     case rel=>exact⟨k+1,by omega,by go_num,H.out⟩
     case measure=>simp[intOf];omega
    ·have b1:((s[k].toNat:Int)==32)=false:=u8f _ 32 (by rw[hb];decide)
     have b2:((s[k].toNat:Int)==9)=false:=u8f _ 9 (by rw[hb];decide);have b3:((s[k].toNat:Int)==10)=true:=u8t _ 10 hb;clear hb;go_wp2
     go_round
     case rel=>exact⟨k+1,by omega,by go_num,H.out⟩
     case measure=>simp[intOf];omega
   ·have b1:((s[k].toNat:Int)==32)=false:=u8f _ 32 (λe=>hb (.inl e))
    have b2:((s[k].toNat:Int)==9)=false:=u8f _ 9 (λe=>hb (.inr (.inl e)));have b3:((s[k].toNat:Int)==10)=false:=u8f _ 10 (λe=>hb (.inr (.inr e)));by_cases ei:s[k]=35
    ·have b4:((s[k].toNat:Int)==35)=true:=u8t _ 35 ei
     have P:=zd3 (s.extract k s.size) 10 w;rw[zcz,show(10:Int).toNat.toUInt8=10 from rfl]at P
     obtain⟨j,hj⟩:∃j,Lib.indexByte (s.data.toList.drop k) 10=j:=⟨_,rfl⟩;rw[hj]at P
     by_cases hj0:j<0
     ·have H:=wJ (znS s k _ HN.out ah ei (by rw[hj];exact hj0))
      clear hj ei hb HN;go_wp2_with (go_at_call 178;refine P.mono ?_;rintro e w' ⟨rfl,rfl⟩)
      go_ret
      exact⟨zaK (by rw[<-H.out]),rfl⟩
     ·obtain⟨m,rfl⟩:∃m:Nat,j=m:=⟨j.toNat,by omega⟩
      obtain⟨hkm,eM⟩:=znT s k _ m HN.out ah ei hj;have H:=wJ eM;clear hj ei hb HN eM;go_wp2_with (go_at_call 178;refine P.mono ?_;rintro e w' ⟨rfl,rfl⟩)
      go_round
      case rel=>exact⟨k+m+1,by omega,by go_num,H.out⟩
      case measure=>simp[intOf];omega
    ·have b4:((s[k].toNat:Int)==35)=false:=u8f _ 35 ei
     have H:=wJ (zl2 s k _ HN.out ah hb ei);clear HN hb ei;go_wp2
     go_ret
     exact⟨zaK (by rw[<-H.out]),rfl⟩
  ·have H:=wJ (bt_end s k _ HN.out (by omega))
   have hke:k=s.size:=by omega
   clear HN;have H2:=wJ (hke.symm.trans H.out);clear H hke;go_wp2
   go_ret
   exact⟨zaK (by rw[<-H2.out]),rfl⟩
end Go.Proofs.YtknkclefoiohpaaGreatDoor
