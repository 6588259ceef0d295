import Derived.Test.YtfafilmklhnngaaGreatDoorBkG
import Derived.Lib.Bytealg
set_option maxHeartbeats 12800000
namespace Go.Proofs.YtfafilmklhnngaaGreatDoor
open Go.RowKit Lx
set_option maxRecDepth 100000
theorem zcR(s:ByteArray)(c:Int)(w:World):Calls Tryz.prog 211 #[.string s,.int .u8 c] w λe w'=>e=.returned (.int .i64 (Lib.indexByte s.data.toList c.toNat.toUInt8))/\w=w':=by
 go_enter Tryz.func211,Tryz.ntmps211
 go_wp2
 rw[run_callFunc_extern Tryz.func222 (by kernel_rfl) (by kernel_rfl) (by kernel_rfl) (e:=Extern.BytealgIndexByte.indexByte) (by kernel_rfl),Lib.run_indexByteString]
 simp only[Result.andThen];rw[Oper.upon_value]
 go_wp2
 go_ret
 exact⟨rfl,rfl⟩
theorem zez(s:ByteArray)(c:Int)(w:World):Calls Tryz.prog 195 #[.string s,.int .u8 c] w λe w'=>e=.returned (.int .i64 (Lib.indexByte s.data.toList c.toNat.toUInt8))/\w=w':=by
 go_enter Tryz.func195,Tryz.ntmps195
 go_wp2_with (go_at_call 211;refine(zcR _ _ _).mono ?_;rintro e w' ⟨rfl,rfl⟩)
 go_ret
 exact⟨rfl,rfl⟩
theorem zax {a b:Bool}(h:a=b):Ending.returned (.bool a)=.returned (.bool b):=by rw[h]
theorem wk3(s:ByteArray)(h:s.toList∈keys):(3:Int)=(wordKind s.data.toList:Nat):=by
 rw[Lib.toList_data]at h
 simp[wordKind,h]
theorem wk2(s:ByteArray)(hs:0<s.size)(hh:Hid (s.data.toList.headD 0=s[0]))(h:s.toList∉keys)(hu:isUp s[0]=true):(2:Int)=(wordKind s.data.toList:Nat):=by
 rw[Lib.toList_data]at h
 unfold wordKind;rw[Am h,hh.out,Aq hu]
 rfl
theorem wk1(s:ByteArray)(hs:0<s.size)(hh:Hid (s.data.toList.headD 0=s[0]))(h:s.toList∉keys)(hu:isUp s[0]=false):(1:Int)=(wordKind s.data.toList:Nat):=by
 rw[Lib.toList_data]at h
 unfold wordKind;rw[Am h,hh.out,hu]
 rfl
theorem zhZ(s:ByteArray)(w:World)(hs:0<s.size):Calls Tryz.prog 215 #[.string s] w λe w'=>e=.returned (.int .i64 (wordKind s.data.toList))/\w=w':=by
 have hh:s.data.toList.headD 0=s[0]:=by
  have:=drop_at s 0 hs;simp only[BM]at this;rw[this];rfl
 have H:=CS hh;clear hh;go_enter Tryz.func215,Tryz.ntmps215
 go_wp2_with (go_at_call 212;refine(zbX _ _).mono ?_;rintro e w' ⟨rfl,rfl⟩)
 all_goals
  go_ret
  refine⟨zaQ ?_,rfl⟩;first
   |exact wk3 s (by simp_all [keys])
   |exact wk2 s hs H (by simp_all [keys]) (by assumption)
   |exact wk1 s hs H (by simp_all [keys]) (by assumption)
   |(exfalso;simp_all;done)
set_option maxRecDepth 100000
theorem zaw {a b c d:Int}(h:a=b)(k:c=d):Ending.returned (.tuple #[.int .i64 a,.int .i64 c])=.returned (.tuple #[.int .i64 b,.int .i64 d]):=by rw[h,k]
theorem zld(l:List UInt8)(n:Nat)(h:Hid (span inW l=n))(k:16<n):word l=(0,0):=by
 unfold word;rw[h.out,Aq k]
theorem zke(l:List UInt8)(n:Nat)(h:Hid (span inW l=n))(k:n<=16):word l=(wordKind (l.take n),n):=by
 unfold word;rw[h.out,Am (by omega)]
theorem zg1(s:ByteArray)(n:Nat):(s.extract 0 n).data.toList=s.data.toList.take n:=by
 rw[Lib.extract_data];simp
theorem zle(s:ByteArray)(n:Nat)(h:n<=s.size):(s.extract 0 n).size=n:=by
 rw[Lib.size_eq,zg1,Bc]
 have:=Lib.size_eq s;omega
theorem zmX(s:ByteArray)(w:World)(hs:s.size<=maxLen)(h1:1<=span inW s.data.toList):Calls Tryz.prog 197 #[.string s] w λe w'=>e=.returned (.tuple #[.int .i64 (word s.data.toList).1,.int .i64 (word s.data.toList).2])/\w=w':=by
 obtain⟨n,hn⟩:∃n,span inW s.data.toList=n:=⟨_,rfl⟩;have hb:=zg0 inW s;have HC:=zlc s w hs;rw[hn]at h1 hb HC
 have HN:=CS hn;clear hn;unfold maxLen at hs;by_cases hk:16<n
 ·have hw:=CS (zld _ _ HN hk)
  go_enter Tryz.func197,Tryz.ntmps197
  go_wp2_with (go_at_call 213;refine HC.mono ?_;rintro e w' ⟨rfl,rfl⟩)
  go_ret2
  exact⟨zaw (by rw[hw.out];rfl) (by rw[hw.out];rfl),rfl⟩
 ·have hw:=CS (zke _ _ HN (by omega))
  have hx:=zg1 s n;have hz:=zle s n hb;have HD:=zhZ (s.extract 0 n) w (by omega);rw[hx]at HD
  clear hz hx;go_enter Tryz.func197,Tryz.ntmps197
  go_wp2_with (first|(go_at_call 213;refine HC.mono ?_;rintro e w' ⟨rfl,rfl⟩)|(go_at_call 215;refine HD.mono ?_;rintro e w' ⟨rfl,rfl⟩))
  go_ret2
  exact⟨zaw (by rw[hw.out]) (by rw[hw.out]),rfl⟩
theorem zlf(s:ByteArray)(h0:0<s.size)(n:Nat)(h:Hid (span isDig s.data.toList=n)):badNum s.data.toList=decide (n=0\/6<n\/(1<n/\s[0]=48)):=by
 unfold badNum;have:=drop_at s 0 h0;simp only[BM]at this;rw[h.out,show s.data.toList.headD 0=s[0] by rw[this];rfl]
theorem zbE(l:List UInt8)(h:badNum l=true):number l=(0,0):=by unfold number;rw[Aq h]
theorem zcm(l:List UInt8)(n:Nat)(h:badNum l=false)(k:Hid (span isDig l=n)):number l=(4,n):=by
 unfold number;rw[Am (by simp[h]),k.out]
theorem zfS(s:ByteArray)(w:World)(hs:s.size<=maxLen):Calls Tryz.prog 199 #[.string s] w λe w'=>e=.returned (.tuple #[.int .i64 (number s.data.toList).1,.int .i64 (number s.data.toList).2])/\w=w':=by
 obtain⟨n,hn⟩:∃n,span isDig s.data.toList=n:=⟨_,rfl⟩;have hb:=zg0 isDig s;have HC:=zkd s w hs;rw[hn]at hb HC
 have HN:=CS hn;clear hn;unfold maxLen at hs;by_cases hz:n=0
 ·have hw:=CS (zbE s.data.toList (by unfold badNum;rw[HN.out];simp[hz]))
  have hz':n<1:=by omega
  have HZ:=CS hz;clear hz;go_enter Tryz.func199,Tryz.ntmps199
  go_wp2_with (go_at_call 213;refine HC.mono ?_;rintro e w' ⟨rfl,rfl⟩)
  go_ret2
  exact⟨zaw (by rw[hw.out];rfl) (by rw[hw.out];rfl),rfl⟩
 ·have h0:0<s.size:=by omega
  have he:=zlf s h0 n HN;have hzb:((n:Int)==0)=false:=by rw[AG];intro h;simp at h;omega
  by_cases h6:6<n
  ·have hw:=CS (zbE s.data.toList (by rw[he];simp[h6]))
   clear he;go_enter Tryz.func199,Tryz.ntmps199
   go_wp2_with (go_at_call 213;refine HC.mono ?_;rintro e w' ⟨rfl,rfl⟩)
   go_ret2
   exact⟨zaw (by rw[hw.out];rfl) (by rw[hw.out];rfl),rfl⟩
  ·by_cases h1:1<n
   ·have h6b:decide ((6:Int)<n)=false:=by rw[decide_eq_false_iff_not];omega
    by_cases hd:s[0]=48
    ·have hw:=CS (zbE s.data.toList (by rw[he];simp[h1,hd]))
     have iL:((s[0].toNat:Int)==48)=true:=by rw[hd];rfl
     clear he hd;go_enter Tryz.func199,Tryz.ntmps199
     go_wp2_with (go_at_call 213;refine HC.mono ?_;rintro e w' ⟨rfl,rfl⟩)
     go_ret2
     exact⟨zaw (by rw[hw.out];rfl) (by rw[hw.out];rfl),rfl⟩
    ·have hw:=CS (zcm s.data.toList n (by rw[he];simp[h1,hd];omega) HN)
     have iL:((s[0].toNat:Int)==48)=false:=by
      rw[AG];intro h;apply hd;simp at h;rw[<-UInt8.toNat_inj];simp;omega
     clear he hd;go_enter Tryz.func199,Tryz.ntmps199
     go_wp2_with (go_at_call 213;refine HC.mono ?_;rintro e w' ⟨rfl,rfl⟩)
     go_ret2
     exact⟨zaw (by rw[hw.out];rfl) (by rw[hw.out]),rfl⟩
   ·have h6b:decide ((6:Int)<n)=false:=by rw[decide_eq_false_iff_not];omega
    have hw:=CS (zcm s.data.toList n (by rw[he];simp;omega) HN);clear he;go_enter Tryz.func199,Tryz.ntmps199
    go_wp2_with (go_at_call 213;refine HC.mono ?_;rintro e w' ⟨rfl,rfl⟩)
    go_ret2
    exact⟨zaw (by rw[hw.out];rfl) (by rw[hw.out]),rfl⟩
set_option maxRecDepth 100000
theorem zcE(s:ByteArray)(k:Nat):(s.extract k s.size).data.toList=s.data.toList.drop k:=by
 rw[Lib.extract_data,AK]
 rw[Bk,<-Lib.size_eq]
 omega
theorem zeF(s:ByteArray)(k:Nat):(s.extract k s.size).size=s.size-k:=by
 rw[Lib.size_eq,zcE,Bk,<-Lib.size_eq]
theorem zmY(l:List UInt8)(n:Nat)(h:Hid ((number (l.drop 1)).2=n))(k:n=0):zbj l=(0,0):=by
 unfold zbj;rw[h.out,Aq k]
theorem zlg(l:List UInt8)(n:Nat)(h:Hid ((number (l.drop 1)).2=n))(k:n≠0):zbj l=(5,1+n):=by
 unfold zbj;rw[h.out,Am k]
theorem zmZ(s:ByteArray)(w:World)(hs:s.size<=maxLen)(h0:0<s.size):Calls Tryz.prog 200 #[.string s] w λe w'=>e=.returned (.tuple #[.int .i64 (zbj s.data.toList).1,.int .i64 (zbj s.data.toList).2])/\w=w':=by
 have hz:=zeF s 1;have HC:=zfS (s.extract 1 s.size) w (by omega);rw[zcE]at HC
 obtain⟨n,hn⟩:∃n,(number (s.data.toList.drop 1)).2=n:=⟨_,rfl⟩;obtain⟨m,hm⟩:∃n,(number (s.data.toList.drop 1)).1=n:=⟨_,rfl⟩;have hb:n<=6:=by
  rcases zaB (s.data.toList.drop 1) with e|⟨e,_,h2⟩
  ·rw[<-hn,e];omega
  ·rw[<-hn,e];exact h2
 rw[hn,hm]at HC
 have HN:=CS hn;clear hn hm hz;unfold maxLen at hs;by_cases hk:n=0
 ·have hw:=CS (zmY _ _ HN hk)
  have hzb:((n:Int)==0)=true:=by rw[hk];rfl
  clear hk;go_enter Tryz.func200,Tryz.ntmps200
  go_wp2_with (go_at_call 199;refine HC.mono ?_;rintro e w' ⟨rfl,rfl⟩)
  go_ret2
  exact⟨zaw (by rw[hw.out];rfl) (by rw[hw.out];rfl),rfl⟩
 ·have hw:=CS (zlg _ _ HN hk)
  have hzb:((n:Int)==0)=false:=by rw[AG];intro h;simp at h;omega
  go_enter Tryz.func200,Tryz.ntmps200
  go_wp2_with (go_at_call 199;refine HC.mono ?_;rintro e w' ⟨rfl,rfl⟩)
  go_ret2
  exact⟨zaw (by rw[hw.out];rfl) (by rw[hw.out];simp),rfl⟩
theorem zcS(s p:ByteArray)(w:World):Calls Tryz.prog 223 #[.string s,.string p] w λe w'=>e=.returned (.bool (pre p.data.toList s.data.toList))/\w=w':=by
 have hr:_=pre p.data.toList s.data.toList:=Lib.hasPrefix_raw s p;have HR:=CS hr;clear hr;by_cases h:p.size<=s.size
 ·go_enter Tryz.func223,Tryz.ntmps223
  go_wp2
  go_ret
  exact⟨zax (by rw[<-HR.out];simp[h]),rfl⟩
 ·go_enter Tryz.func223,Tryz.ntmps223
  go_wp2
  go_ret
  exact⟨zax (by rw[<-HR.out];simp[h]),rfl⟩
theorem zeA(s p:ByteArray)(w:World):Calls Tryz.prog 216 #[.string s,.string p] w λe w'=>e=.returned (.bool (pre p.data.toList s.data.toList))/\w=w':=by
 go_enter Tryz.func216,Tryz.ntmps216
 go_wp2_with (go_at_call 223;refine(zcS _ _ _).mono ?_;rintro e w' ⟨rfl,rfl⟩)
 go_ret
 exact⟨rfl,rfl⟩
theorem zhP(l:List UInt8)(c:UInt8):0<=Lib.indexByte l c↔c∈l:=by
 induction l with
 |nil=>simp[Lib.indexByte]
 |cons b l ih =>
  unfold Lib.indexByte;have hg:=Lib.indexByte_ge l c;by_cases hb:b=c
  ·simp[hb]
  ·have eC:(b==c)=false:=by simpa using hb
   rw[eC]
   by_cases h1:Lib.indexByte l c = -1
   ·simp[h1]
    rw[<-ih,h1]
    exact⟨λh=>hb h.symm,by omega⟩
   ·have h1':(Lib.indexByte l c == -1)=false:=by simpa using h1
    rw[h1']
    simp only[Bg,BX,An];rw[<-ih]
    constructor
    ·intro h;right;omega
    ·rintro(h|h)
     ·exact absurd h.symm hb
     ·omega
theorem zfB(l:List UInt8)(h:pre [45,62] l=true\/pre [124,62] l=true):sign l=(6,2):=by
 unfold sign;rw[Aq (by simpa using h)]
theorem zd4(l:List UInt8)(h1:pre [45,62] l=false)(h2:pre [124,62] l=false)(h:l.headD 0∈signs):sign l=(6,1):=by
 unfold sign;rw[h1,h2,Am (by simp),Aq h]
theorem zds(l:List UInt8)(h1:pre [45,62] l=false)(h2:pre [124,62] l=false)(h:l.headD 0∉signs):sign l=(0,0):=by
 unfold sign;rw[h1,h2,Am (by simp),Am h]
theorem zoP(c:UInt8):(c.toNat:Int).toNat.toUInt8=c:=by simp
theorem head_data(s:ByteArray)(h0:0<s.size):s.data.toList.headD 0=s[0]:=by
 have:=drop_at s 0 h0;simp only[BM]at this;rw[this];rfl
theorem zm0(s:ByteArray)(w:World)(h0:0<s.size):Calls Tryz.prog 201 #[.string s] w λe w'=>e=.returned (.tuple #[.int .i64 (sign s.data.toList).1,.int .i64 (sign s.data.toList).2])/\w=w':=by
 have P1:=zeA s ⟨#[45,62]⟩ w;have P2:=zeA s ⟨#[124,62]⟩ w;have P3:=zez ⟨#[92,58,61,59,123,125,40,41,46,126,64,60,62,44,91,93,33]⟩ (s[0].toNat:Int) w;rw[zoP]at P3
 have hm:=zhP signs s[0];rw[<-head_data s h0]at hm
 have e3:Lib.indexByte (⟨#[92,58,61,59,123,125,40,41,46,126,64,60,62,44,91,93,33]⟩:ByteArray).data.toList s[0]=Lib.indexByte signs (s.data.toList.headD 0):=by rw[head_data s h0];rfl
 rw[e3]at P3
 clear e3;obtain⟨b1,aw⟩:∃b,pre [45,62] s.data.toList=b:=⟨_,rfl⟩;obtain⟨b2,aT⟩:∃b,pre [124,62] s.data.toList=b:=⟨_,rfl⟩;obtain⟨n,hn⟩:∃n,Lib.indexByte signs (s.data.toList.headD 0)=n:=⟨_,rfl⟩;have P1:Calls Tryz.prog 216 #[.string s,.string ⟨#[45,62]⟩] w λe w'=>e=.returned (.bool b1)/\w=w':=by rw[<-aw];exact P1
 have P2:Calls Tryz.prog 216 #[.string s,.string ⟨#[124,62]⟩] w λe w'=>e=.returned (.bool b2)/\w=w':=by rw[<-aT];exact P2
 rw[hn]at P3 hm
 by_cases h1:b1=true
 ·have hw:=CS (zfB s.data.toList (.inl (aw.trans h1)))
  subst h1;clear aw aT hn hm;go_enter Tryz.func201,Tryz.ntmps201
  go_wp2_with (go_at_call 216;refine P1.mono ?_;rintro e w' ⟨rfl,rfl⟩)
  go_ret2
  exact⟨zaw (by rw[hw.out];rfl) (by rw[hw.out];rfl),rfl⟩
 ·have h1:b1=false:=by simpa using h1
  subst h1;by_cases h2:b2=true
  ·have hw:=CS (zfB s.data.toList (.inr (aT.trans h2)))
   subst h2;clear aw aT hn hm;go_enter Tryz.func201,Tryz.ntmps201
   go_wp2_with (first|((with_reducible go_at_call 216);(with_reducible refine P1.mono ?_);rintro e w' ⟨rfl,rfl⟩)|((with_reducible go_at_call 216);(with_reducible refine P2.mono ?_);rintro e w' ⟨rfl,rfl⟩))
   go_ret2
   exact⟨zaw (by rw[hw.out];rfl) (by rw[hw.out];rfl),rfl⟩
  ·have h2:b2=false:=by simpa using h2
   subst h2;by_cases h3:0<=n
   ·have hw:=CS (zd4 s.data.toList aw aT (hm.1 h3))
    clear aw aT hn hm;go_enter Tryz.func201,Tryz.ntmps201
    go_wp2_with (first|(go_at_call 216;(with_reducible refine P1.mono ?_);rintro e w' ⟨rfl,rfl⟩)|(go_at_call 216;(with_reducible refine P2.mono ?_);rintro e w' ⟨rfl,rfl⟩)|(go_at_call 195;refine P3.mono ?_;rintro e w' ⟨rfl,rfl⟩))
    go_ret2
    exact⟨zaw (by rw[hw.out];rfl) (by rw[hw.out];rfl),rfl⟩
   ·have hw:=CS (zds s.data.toList aw aT (λh=>h3 (hm.2 h)))
    clear aw aT hn hm;go_enter Tryz.func201,Tryz.ntmps201
    go_wp2_with (first|(go_at_call 216;(with_reducible refine P1.mono ?_);rintro e w' ⟨rfl,rfl⟩)|(go_at_call 216;(with_reducible refine P2.mono ?_);rintro e w' ⟨rfl,rfl⟩)|(go_at_call 195;refine P3.mono ?_;rintro e w' ⟨rfl,rfl⟩))
    go_ret2
    exact⟨zaw (by rw[hw.out];rfl) (by rw[hw.out];rfl),rfl⟩
set_option maxRecDepth 100000
theorem zkf(s:ByteArray)(h0:0<s.size):first s.data.toList=if isLet s[0] then word s.data.toList else if isDig s[0] then number s.data.toList else if s[0]=63 then zbj s.data.toList else sign s.data.toList:=by
 have h:=drop_at s 0 h0;simp only[BM]at h;rw[h]
 rfl
theorem zjg(s:ByteArray)(h0:¬0<s.size):first s.data.toList=(0,0):=by
 have:s.data.toList=[]:=by apply AD;rw[<-Lib.size_eq];omega
 rw[this];rfl
theorem zm1(s:ByteArray)(h0:0<s.size):s.toList.isEmpty=false:=by
 rw[Lib.toList_data]
 have:=Lib.size_eq s;cases h:s.data.toList with
 |nil =>
   have e:s.size=0:=by rw[this,h];rfl
   omega
 |cons=>rfl
theorem zlh(s:ByteArray)(h0:¬0<s.size):s.toList.isEmpty=true:=by
 rw[Lib.toList_data]
 have:=Lib.size_eq s;cases h:s.data.toList with
 |nil=>rfl
 |cons=>rw[h]at this;simp at this;omega
theorem u8t(c d:UInt8)(h:c=d):((c.toNat:Int) ==(d.toNat:Int))=true:=by rw[h];simp
theorem u8f(c d:UInt8)(h:¬c=d):((c.toNat:Int) ==(d.toNat:Int))=false:=by
 rw[AG]
 intro e;apply h
 rw[<-UInt8.toNat_inj]
 simp at e;omega
theorem zli(s:ByteArray)(w:World)(hs:s.size<=maxLen):Calls Tryz.prog 178 #[.string s] w λe w'=>e=.returned (.tuple #[.int .i64 (first s.data.toList).1,.int .i64 (first s.data.toList).2])/\w=w':=by
 by_cases h0:0<s.size
 ·have hf:=zkf s h0
  have he:=zm1 s h0;by_cases hl:isLet s[0]=true
  ·have hd:=head_data s h0
   have bU:1<=span inW s.data.toList:=by
    have h:=drop_at s 0 h0;simp only[BM]at h;rw[h];exact zd5 _ _ hl
   rw[Aq hl]at hf
   have HC:=zmX s w hs bU;rw[<-hf]at HC
   clear hf hd bU;go_enter Tryz.func178,Tryz.ntmps178
   go_wp2_with (first|(go_at_call 196;refine(zbn _ _).mono ?_;rintro e w' ⟨rfl,rfl⟩)|(go_at_call 197;refine HC.mono ?_;rintro e w' ⟨rfl,rfl⟩))
   go_ret2
   exact⟨rfl,rfl⟩
  ·rw[Am hl]at hf
   have hl:isLet s[0]=false:=by simpa using hl
   by_cases hg:isDig s[0]=true
   ·rw[Aq hg]at hf
    have HC:=zfS s w hs;rw[<-hf]at HC
    clear hf;go_enter Tryz.func178,Tryz.ntmps178
    go_wp2_with (first|(go_at_call 196;refine(zbn _ _).mono ?_;rintro e w' ⟨rfl,rfl⟩)|(go_at_call 198;refine(zbr _ _).mono ?_;rintro e w' ⟨rfl,rfl⟩)|(go_at_call 199;refine HC.mono ?_;rintro e w' ⟨rfl,rfl⟩))
    go_ret2
    exact⟨rfl,rfl⟩
   ·rw[Am hg]at hf
    have hg:isDig s[0]=false:=by simpa using hg
    by_cases hq:s[0]=63
    ·rw[Aq hq]at hf
     have HC:=zmZ s w hs h0;rw[<-hf]at HC
     have eV:((s[0].toNat:Int)==63)=true:=u8t _ 63 hq;clear hf hq;go_enter Tryz.func178,Tryz.ntmps178
     go_wp2_with (first|(go_at_call 196;refine(zbn _ _).mono ?_;rintro e w' ⟨rfl,rfl⟩)|(go_at_call 198;refine(zbr _ _).mono ?_;rintro e w' ⟨rfl,rfl⟩)|(go_at_call 200;refine HC.mono ?_;rintro e w' ⟨rfl,rfl⟩))
     go_ret2
     exact⟨rfl,rfl⟩
    ·rw[Am hq]at hf
     have HC:=zm0 s w h0;rw[<-hf]at HC
     have eV:((s[0].toNat:Int)==63)=false:=u8f _ 63 hq;clear hf hq;go_enter Tryz.func178,Tryz.ntmps178
     go_wp2_with (first|(go_at_call 196;refine(zbn _ _).mono ?_;rintro e w' ⟨rfl,rfl⟩)|(go_at_call 198;refine(zbr _ _).mono ?_;rintro e w' ⟨rfl,rfl⟩)|(go_at_call 201;refine HC.mono ?_;rintro e w' ⟨rfl,rfl⟩))
     go_ret2
     exact⟨rfl,rfl⟩
 ·have hf:=CS (zjg s h0)
  have he:=zlh s h0;go_enter Tryz.func178,Tryz.ntmps178
  go_wp2
  go_ret2
  exact⟨zaw (by rw[hf.out];rfl) (by rw[hf.out];rfl),rfl⟩
theorem zm2(l:List UInt8)(h:Lib.indexByte l 10<0):btw true l=l.length:=by
 induction l with
 |nil=>rfl
 |cons c r ih =>
  simp only[btw,Ao];have hg:=Lib.indexByte_ge r 10;by_cases hc:c=10
  ·subst hc;simp[Lib.indexByte]at h
  ·have rB:(c==10)=false:=by simpa using hc
   have cw:(c != 10)=true:=by simpa using hc
   rw[Lib.indexByte,rB]at h
   simp only[Bg,BX]at h;have h0:Lib.indexByte r 10<0:=by
    by_cases h1:Lib.indexByte r 10 = -1
    ·omega
    ·rw[Am (by simpa using h1)]at h;omega
   rw[cw,ih h0]
theorem zm3(l:List UInt8)(j:Nat)(h:Lib.indexByte l 10=j):j<l.length/\btw true l=j+1+btw false (l.drop (j+1)):=by
 induction l generalizing j with
 |nil=>simp[Lib.indexByte]at h
 |cons c r ih =>
  simp only[btw,Ao];have hg:=Lib.indexByte_ge r 10;by_cases hc:c=10
  ·subst hc
   simp[Lib.indexByte]at h
   obtain rfl:j=0:=by omega
   simp;omega
  ·have rB:(c==10)=false:=by simpa using hc
   have cw:(c != 10)=true:=by simpa using hc
   rw[Lib.indexByte,rB]at h
   simp only[Bg,BX]at h;split at h
   ·omega
   ·rename_i af
    have af:¬Lib.indexByte r 10 = -1:=by simpa using af
    obtain⟨i,hi⟩:∃i:Nat,Lib.indexByte r 10=i:=⟨(Lib.indexByte r 10).toNat,by omega⟩;obtain⟨h1,h2⟩:=ih i hi;obtain rfl:j=i+1:=by omega
    rw[cw,h2]
    simp only[List.drop_succ_cons];omega
def Bt(s:ByteArray)(k N:Nat):Prop:=k+btw false (s.data.toList.drop k)=N
theorem zm4(s:ByteArray)(k N:Nat)(h:Bt s k N)(hk:k<s.size)(hc:s[k]=32\/s[k]=9\/s[k]=10):Bt s (k+1) N:=by
 unfold Bt at *;rw[drop_at s k hk,btw,Aq hc]at h
 omega
theorem zm5(s:ByteArray)(k N:Nat)(h:Bt s k N)(hk:k<s.size)(hc:¬(s[k]=32\/s[k]=9\/s[k]=10))(cU:¬s[k]=35):k=N:=by
 unfold Bt at *;rw[drop_at s k hk,btw,Am hc,Am cU]at h
 omega
theorem bt_end(s:ByteArray)(k N:Nat)(h:Bt s k N)(hk:s.size<=k):k=N:=by
 unfold Bt at *;rw[AP (by simpa using hk)]at h
 exact h
theorem zeG(s:ByteArray)(k:Nat)(hk:k<s.size)(cU:s[k]=35):btw false (s.data.toList.drop k)=btw true (s.data.toList.drop k):=by
 rw[drop_at s k hk,cU]
 simp[btw]
theorem zoQ(s:ByteArray)(k N:Nat)(h:Bt s k N)(hk:k<s.size)(cU:s[k]=35)(hj:Lib.indexByte (s.data.toList.drop k) 10<0):s.size=N:=by
 unfold Bt at *;rw[zeG s k hk cU,zm2 _ hj,Bk,<-Lib.size_eq]at h
 omega
theorem zoR(s:ByteArray)(k N j:Nat)(h:Bt s k N)(hk:k<s.size)(cU:s[k]=35)(hj:Lib.indexByte (s.data.toList.drop k) 10=j):k+j<s.size/\Bt s (k+j+1) N:=by
 unfold Bt at *;obtain⟨h1,h2⟩:=zm3 _ _ hj;rw[zeG s k hk cU,h2,Cf]at h
 rw[Bk,<-Lib.size_eq]at h1
 refine⟨by omega,?_⟩;rw[show k+j+1=k+(j+1) by omega]
 omega
theorem zjh(s:ByteArray)(w:World)(hs:s.size<=maxLen):Calls Tryz.prog 177 #[.string s] w λe w'=>e=.returned (.int .i64 (btw false s.data.toList))/\w=w':=by
 have hm:=hs;unfold maxLen at hs;go_enter Tryz.func177,Tryz.ntmps177
 go_wp2
 go_loop [3] (λi=>∃k:Nat,k<=s.size/\i=.int .i64 k/\Bt s k (btw false s.data.toList)) (λi=>s.size-(intOf i).toNat)
 case atStart=>exact⟨0,AV _,rfl,by simp[Bt]⟩
 case round =>
  obtain⟨k,hk,rfl,hn⟩:=hrel;have HN:=CS hn;clear hn;by_cases ah:k<s.size
  ·by_cases hb:s[k]=32\/s[k]=9\/s[k]=10
   ·have H:=CS (zm4 s k _ HN.out ah hb)
    clear HN;rcases hb with hb|hb|hb
    ·have b1:((s[k].toNat:Int)==32)=true:=u8t _ 32 hb
     clear hb;go_wp2
     go_round
     case rel=>exact⟨k+1,by omega,by go_num,H.out⟩
     case measure=>simp[intOf];omega
    ·have b1:((s[k].toNat:Int)==32)=false:=u8f _ 32 (by rw[hb];decide)
     have b2:((s[k].toNat:Int)==9)=true:=u8t _ 9 hb;clear hb;go_wp2
     go_round
     case rel=>exact⟨k+1,by omega,by go_num,H.out⟩
     case measure=>simp[intOf];omega
    ·have b1:((s[k].toNat:Int)==32)=false:=u8f _ 32 (by rw[hb];decide)
     have b2:((s[k].toNat:Int)==9)=false:=u8f _ 9 (by rw[hb];decide);have b3:((s[k].toNat:Int)==10)=true:=u8t _ 10 hb;clear hb;go_wp2
     go_round
     case rel=>exact⟨k+1,by omega,by go_num,H.out⟩
     case measure=>simp[intOf];omega
   ·have b1:((s[k].toNat:Int)==32)=false:=u8f _ 32 (λe=>hb (.inl e))
    have b2:((s[k].toNat:Int)==9)=false:=u8f _ 9 (λe=>hb (.inr (.inl e)));have b3:((s[k].toNat:Int)==10)=false:=u8f _ 10 (λe=>hb (.inr (.inr e)));by_cases cU:s[k]=35
    ·have b4:((s[k].toNat:Int)==35)=true:=u8t _ 35 cU
     have P:=zez (s.extract k s.size) 10 w;rw[zcE,show(10:Int).toNat.toUInt8=10 from rfl]at P
     obtain⟨j,hj⟩:∃j,Lib.indexByte (s.data.toList.drop k) 10=j:=⟨_,rfl⟩;rw[hj]at P
     by_cases jm:j<0
     ·have H:=CS (zoQ s k _ HN.out ah cU (by rw[hj];exact jm))
      clear hj cU hb HN;go_wp2_with (go_at_call 195;refine P.mono ?_;rintro e w' ⟨rfl,rfl⟩)
      go_ret
      exact⟨zaQ (by rw[<-H.out]),rfl⟩
     ·obtain⟨m,rfl⟩:∃m:Nat,j=m:=⟨j.toNat,by omega⟩
      obtain⟨ed,gB⟩:=zoR s k _ m HN.out ah cU hj;have H:=CS gB;clear hj cU hb HN gB;go_wp2_with (go_at_call 195;refine P.mono ?_;rintro e w' ⟨rfl,rfl⟩)
      go_round
      case rel=>exact⟨k+m+1,by omega,by go_num,H.out⟩
      case measure=>simp[intOf];omega
    ·have b4:((s[k].toNat:Int)==35)=false:=u8f _ 35 cU
     have H:=CS (zm5 s k _ HN.out ah hb cU);clear HN hb cU;go_wp2
     go_ret
     exact⟨zaQ (by rw[<-H.out]),rfl⟩
  ·have H:=CS (bt_end s k _ HN.out (by omega))
   have hke:k=s.size:=by omega
   clear HN;have H2:=CS (hke.symm.trans H.out);clear H hke;go_wp2
   go_ret
   exact⟨zaQ (by rw[<-H2.out]),rfl⟩
end Go.Proofs.YtfafilmklhnngaaGreatDoor
