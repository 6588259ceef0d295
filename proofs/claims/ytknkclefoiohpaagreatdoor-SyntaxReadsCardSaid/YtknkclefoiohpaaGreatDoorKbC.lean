/-
  Contracts of the code's functions, part 3.
-/
import Derived.Test.YtknkclefoiohpaaGreatDoorKbB
import Derived.Lib.Bytealg
namespace Go.Proofs.YtknkclefoiohpaaGreatDoor
open Go.RowKit Lx
set_option maxRecDepth 100000
theorem stringslite_IndexByte_any(s:ByteArray)(c:Int)(w:World) :
  Calls Tryz.prog 195 #[.string s,.int .u8 c] w λe w'=>e=.returned (.int .i64 (Lib.indexByte s.data.toList c.toNat.toUInt8))/\w=w':=by
 go_enter Tryz.func195,Tryz.ntmps195
 go_wp2
 rw[run_callFunc_extern Tryz.func211 (by kernel_rfl) (by kernel_rfl) (by kernel_rfl) (e:=Extern.BytealgIndexByte.indexByte) (by kernel_rfl),Lib.run_indexByteString]
 simp only[Result.andThen]
 rw[Oper.upon_value]
 go_wp2
 go_ret
 exact⟨rfl,rfl⟩
theorem IndexByte_any(s:ByteArray)(c:Int)(w:World) :
  Calls Tryz.prog 178 #[.string s,.int .u8 c] w λe w'=>e=.returned (.int .i64 (Lib.indexByte s.data.toList c.toNat.toUInt8))/\w=w':=by
 go_enter Tryz.func178,Tryz.ntmps178
 go_wp2_with (go_at_call 195;refine(stringslite_IndexByte_any _ _ _).mono ?_;rintro e w' ⟨rfl,rfl⟩)
 go_ret
 exact⟨rfl,rfl⟩
theorem ret_bool {a b:Bool}(h:a=b):Ending.returned (.bool a)=.returned (.bool b):=by rw[h]
theorem wk3(s:ByteArray)(h:s.toList∈keys):(3:Int)=(wordKind s.data.toList:Nat):=by
 rw[Lib.toList_data]at h
 simp[wordKind,h]
theorem wk2(s:ByteArray)(hs:0<s.size)(hh:Hid (s.data.toList.headD 0=s[0]))(h:s.toList∉keys)(hu:isUp s[0]=true):(2:Int)=(wordKind s.data.toList:Nat):=by
 rw[Lib.toList_data]at h
 unfold wordKind
 rw[if_neg h,hh.out,if_pos hu]
 rfl
theorem wk1(s:ByteArray)(hs:0<s.size)(hh:Hid (s.data.toList.headD 0=s[0]))(h:s.toList∉keys)(hu:isUp s[0]=false):(1:Int)=(wordKind s.data.toList:Nat):=by
 rw[Lib.toList_data]at h
 unfold wordKind
 rw[if_neg h,hh.out,hu]
 rfl
set_option maxHeartbeats 400000 in
theorem wordKind_any(s:ByteArray)(w:World)(hs:0<s.size) :
  Calls Tryz.prog 199 #[.string s] w λe w'=>e=.returned (.int .i64 (wordKind s.data.toList))/\w=w':=by
 have hh:s.data.toList.headD 0=s[0]:=by
  have:=drop_at s 0 hs
  simp only[List.drop_zero]at this
  rw[this];rfl
 have H:=hidE hh
 clear hh
 go_enter Tryz.func199,Tryz.ntmps199
 go_wp2_with (go_at_call 196;refine(isUpper_any _ _).mono ?_;rintro e w' ⟨rfl,rfl⟩)
 all_goals
  go_ret
  refine⟨ret_i64 ?_,rfl⟩
  first
   | exact wk3 s (by simp_all [keys])
   | exact wk2 s hs H (by simp_all [keys]) (by assumption)
   | exact wk1 s hs H (by simp_all [keys]) (by assumption)
   |(exfalso;simp_all;done)
end Go.Proofs.YtknkclefoiohpaaGreatDoor

namespace Go.Proofs.YtknkclefoiohpaaGreatDoor
open Go.RowKit Lx
set_option maxRecDepth 100000
theorem ret_2 {a b c d:Int}(h:a=b)(k:c=d):Ending.returned (.tuple #[.int .i64 a,.int .i64 c])=.returned (.tuple #[.int .i64 b,.int .i64 d]):=by rw[h,k]
theorem word_long(l:List UInt8)(n:Nat)(h:Hid (span inW l=n))(k:16<n):word l=(0,0):=by
 unfold word;rw[h.out,if_pos k]
theorem word_short(l:List UInt8)(n:Nat)(h:Hid (span inW l=n))(k:n<=16):word l=(wordKind (l.take n),n):=by
 unfold word;rw[h.out,if_neg (by omega)]
theorem take_data(s:ByteArray)(n:Nat):(s.extract 0 n).data.toList=s.data.toList.take n:=by
 rw[Lib.extract_data];simp
theorem take_size(s:ByteArray)(n:Nat)(h:n<=s.size):(s.extract 0 n).size=n:=by
 rw[Lib.size_eq,take_data,List.length_take]
 have:=Lib.size_eq s
 omega
theorem word_any(s:ByteArray)(w:World)(hs:s.size<=maxLen)(h1:1<=span inW s.data.toList) :
  Calls Tryz.prog 180 #[.string s] w λe w'=>e=.returned (.tuple #[.int .i64 (word s.data.toList).1,.int .i64 (word s.data.toList).2])/\w=w':=by
 obtain⟨n,hn⟩:∃n,span inW s.data.toList=n:=⟨_,rfl⟩
 have hb:=span_size inW s
 have HC:=span_word s w hs
 rw[hn]at h1 hb HC
 have HN:=hidE hn
 clear hn
 unfold maxLen at hs
 by_cases hk:16<n
 ·have hw:=hidE (word_long _ _ HN hk)
  go_enter Tryz.func180,Tryz.ntmps180
  go_wp2_with (go_at_call 197;refine HC.mono ?_;rintro e w' ⟨rfl,rfl⟩)
  go_ret2
  exact⟨ret_2 (by rw[hw.out];rfl) (by rw[hw.out];rfl),rfl⟩
 ·have hw:=hidE (word_short _ _ HN (by omega))
  have hx:=take_data s n
  have hz:=take_size s n hb
  have HD:=wordKind_any (s.extract 0 n) w (by omega)
  rw[hx]at HD
  clear hz hx
  go_enter Tryz.func180,Tryz.ntmps180
  go_wp2_with (first|(go_at_call 197;refine HC.mono ?_;rintro e w' ⟨rfl,rfl⟩)|(go_at_call 199;refine HD.mono ?_;rintro e w' ⟨rfl,rfl⟩))
  go_ret2
  exact⟨ret_2 (by rw[hw.out]) (by rw[hw.out]),rfl⟩
theorem badNum_eq(s:ByteArray)(h0:0<s.size)(n:Nat)(h:Hid (span isDig s.data.toList=n)):badNum s.data.toList=decide (n=0\/6<n\/(1<n/\s[0]=48)):=by
 unfold badNum
 have:=drop_at s 0 h0
 simp only[List.drop_zero]at this
 rw[h.out,show s.data.toList.headD 0=s[0] by rw[this];rfl]
theorem number_of_bad(l:List UInt8)(h:badNum l=true):number l=(0,0):=by unfold number;rw[if_pos h]
theorem number_of_good(l:List UInt8)(n:Nat)(h:badNum l=false)(k:Hid (span isDig l=n)):number l=(4,n):=by
 unfold number;rw[if_neg (by simp[h]),k.out]
theorem number_any(s:ByteArray)(w:World)(hs:s.size<=maxLen) :
  Calls Tryz.prog 182 #[.string s] w λe w'=>e=.returned (.tuple #[.int .i64 (number s.data.toList).1,.int .i64 (number s.data.toList).2])/\w=w':=by
 obtain⟨n,hn⟩:∃n,span isDig s.data.toList=n:=⟨_,rfl⟩
 have hb:=span_size isDig s
 have HC:=span_digit s w hs
 rw[hn]at hb HC
 have HN:=hidE hn
 clear hn
 unfold maxLen at hs
 by_cases hz:n=0
 ·have hw:=hidE (number_of_bad s.data.toList (by unfold badNum;rw[HN.out];simp[hz]))
  have hz':n<1:=by omega
  have HZ:=hidE hz
  clear hz
  go_enter Tryz.func182,Tryz.ntmps182
  go_wp2_with (go_at_call 197;refine HC.mono ?_;rintro e w' ⟨rfl,rfl⟩)
  go_ret2
  exact⟨ret_2 (by rw[hw.out];rfl) (by rw[hw.out];rfl),rfl⟩
 ·have h0:0<s.size:=by omega
  have he:=badNum_eq s h0 n HN
  have hzb:((n:Int)==0)=false:=by rw[Bool.eq_false_iff];intro h;simp at h;omega
  by_cases h6:6<n
  ·have hw:=hidE (number_of_bad s.data.toList (by rw[he];simp[h6]))
   clear he
   go_enter Tryz.func182,Tryz.ntmps182
   go_wp2_with (go_at_call 197;refine HC.mono ?_;rintro e w' ⟨rfl,rfl⟩)
   go_ret2
   exact⟨ret_2 (by rw[hw.out];rfl) (by rw[hw.out];rfl),rfl⟩
  ·by_cases h1:1<n
   ·have h6b:decide ((6:Int)<n)=false:=by rw[decide_eq_false_iff_not];omega
    by_cases hd:s[0]=48
    ·have hw:=hidE (number_of_bad s.data.toList (by rw[he];simp[h1,hd]))
     have hd':((s[0].toNat:Int)==48)=true:=by rw[hd];rfl
     clear he hd
     go_enter Tryz.func182,Tryz.ntmps182
     go_wp2_with (go_at_call 197;refine HC.mono ?_;rintro e w' ⟨rfl,rfl⟩)
     go_ret2
     exact⟨ret_2 (by rw[hw.out];rfl) (by rw[hw.out];rfl),rfl⟩
    ·have hw:=hidE (number_of_good s.data.toList n (by rw[he];simp[h1,hd];omega) HN)
     have hd':((s[0].toNat:Int)==48)=false:=by
      rw[Bool.eq_false_iff];intro h;apply hd;simp at h;rw[<-UInt8.toNat_inj];simp;omega
     clear he hd
     go_enter Tryz.func182,Tryz.ntmps182
     go_wp2_with (go_at_call 197;refine HC.mono ?_;rintro e w' ⟨rfl,rfl⟩)
     go_ret2
     exact⟨ret_2 (by rw[hw.out];rfl) (by rw[hw.out]),rfl⟩
   ·have h6b:decide ((6:Int)<n)=false:=by rw[decide_eq_false_iff_not];omega
    have hw:=hidE (number_of_good s.data.toList n (by rw[he];simp;omega) HN)
    clear he
    go_enter Tryz.func182,Tryz.ntmps182
    go_wp2_with (go_at_call 197;refine HC.mono ?_;rintro e w' ⟨rfl,rfl⟩)
    go_ret2
    exact⟨ret_2 (by rw[hw.out];rfl) (by rw[hw.out]),rfl⟩
end Go.Proofs.YtknkclefoiohpaaGreatDoor

namespace Go.Proofs.YtknkclefoiohpaaGreatDoor
open Go.RowKit Lx
set_option maxRecDepth 100000
theorem drop_data(s:ByteArray)(k:Nat):(s.extract k s.size).data.toList=s.data.toList.drop k:=by
 rw[Lib.extract_data,List.take_of_length_le]
 rw[List.length_drop,<-Lib.size_eq]
 omega
theorem drop_size(s:ByteArray)(k:Nat):(s.extract k s.size).size=s.size-k:=by
 rw[Lib.size_eq,drop_data,List.length_drop,<-Lib.size_eq]
theorem meta_bad(l:List UInt8)(n:Nat)(h:Hid ((number (l.drop 1)).2=n))(k:n=0):meta_ l=(0,0):=by
 unfold meta_;rw[h.out,if_pos k]
theorem meta_good(l:List UInt8)(n:Nat)(h:Hid ((number (l.drop 1)).2=n))(k:n≠0):meta_ l=(5,1+n):=by
 unfold meta_;rw[h.out,if_neg k]
theorem meta_any(s:ByteArray)(w:World)(hs:s.size<=maxLen)(h0:0<s.size) :
  Calls Tryz.prog 183 #[.string s] w λe w'=>e=.returned (.tuple #[.int .i64 (meta_ s.data.toList).1,.int .i64 (meta_ s.data.toList).2])/\w=w':=by
 have hz:=drop_size s 1
 have HC:=number_any (s.extract 1 s.size) w (by omega)
 rw[drop_data]at HC
 obtain⟨n,hn⟩:∃n,(number (s.data.toList.drop 1)).2=n:=⟨_,rfl⟩
 obtain⟨m,hm⟩:∃n,(number (s.data.toList.drop 1)).1=n:=⟨_,rfl⟩
 have hb:n<=6:=by
  rcases number_cases (s.data.toList.drop 1) with e|⟨e,_,h2⟩
  ·rw[<-hn,e];omega
  ·rw[<-hn,e];exact h2
 rw[hn,hm]at HC
 have HN:=hidE hn
 clear hn hm hz
 unfold maxLen at hs
 by_cases hk:n=0
 ·have hw:=hidE (meta_bad _ _ HN hk)
  have hzb:((n:Int)==0)=true:=by rw[hk];rfl
  clear hk
  go_enter Tryz.func183,Tryz.ntmps183
  go_wp2_with (go_at_call 182;refine HC.mono ?_;rintro e w' ⟨rfl,rfl⟩)
  go_ret2
  exact⟨ret_2 (by rw[hw.out];rfl) (by rw[hw.out];rfl),rfl⟩
 ·have hw:=hidE (meta_good _ _ HN hk)
  have hzb:((n:Int)==0)=false:=by rw[Bool.eq_false_iff];intro h;simp at h;omega
  go_enter Tryz.func183,Tryz.ntmps183
  go_wp2_with (go_at_call 182;refine HC.mono ?_;rintro e w' ⟨rfl,rfl⟩)
  go_ret2
  exact⟨ret_2 (by rw[hw.out];rfl) (by rw[hw.out];simp),rfl⟩
theorem stringslite_HasPrefix_any(s p:ByteArray)(w:World) :
  Calls Tryz.prog 212 #[.string s,.string p] w λe w'=>e=.returned (.bool (pre p.data.toList s.data.toList))/\w=w':=by
 have hr:_=pre p.data.toList s.data.toList:=Lib.hasPrefix_raw s p
 have HR:=hidE hr
 clear hr
 by_cases h:p.size<=s.size
 ·go_enter Tryz.func212,Tryz.ntmps212
  go_wp2
  go_ret
  exact⟨ret_bool (by rw[<-HR.out];simp[h]),rfl⟩
 ·go_enter Tryz.func212,Tryz.ntmps212
  go_wp2
  go_ret
  exact⟨ret_bool (by rw[<-HR.out];simp[h]),rfl⟩
theorem HasPrefix_any(s p:ByteArray)(w:World) :
  Calls Tryz.prog 200 #[.string s,.string p] w λe w'=>e=.returned (.bool (pre p.data.toList s.data.toList))/\w=w':=by
 go_enter Tryz.func200,Tryz.ntmps200
 go_wp2_with (go_at_call 212;refine(stringslite_HasPrefix_any _ _ _).mono ?_;rintro e w' ⟨rfl,rfl⟩)
 go_ret
 exact⟨rfl,rfl⟩
theorem indexByte_mem(l:List UInt8)(c:UInt8):0<=Lib.indexByte l c↔c∈l:=by
 induction l with
 | nil=>simp[Lib.indexByte]
 | cons b l ih =>
  unfold Lib.indexByte
  have hg:=Lib.indexByte_ge l c
  by_cases hb:b=c
  ·simp[hb]
  ·have hb':(b==c)=false:=by simpa using hb
   rw[hb']
   by_cases h1:Lib.indexByte l c = -1
   ·simp[h1]
    rw[<-ih,h1]
    exact⟨λh=>hb h.symm,by omega⟩
   ·have h1':(Lib.indexByte l c == -1)=false:=by simpa using h1
    rw[h1']
    simp only[Bool.false_eq_true,if_false,List.mem_cons]
    rw[<-ih]
    constructor
    ·intro h;right;omega
    ·rintro(h|h)
     ·exact absurd h.symm hb
     ·omega
theorem sign_two(l:List UInt8)(h:pre [45,62] l=true\/pre [124,62] l=true):sign l=(6,2):=by
 unfold sign;rw[if_pos (by simpa using h)]
theorem sign_one(l:List UInt8)(h1:pre [45,62] l=false)(h2:pre [124,62] l=false)(h:l.headD 0∈signs):sign l=(6,1):=by
 unfold sign;rw[h1,h2,if_neg (by simp),if_pos h]
theorem sign_none(l:List UInt8)(h1:pre [45,62] l=false)(h2:pre [124,62] l=false)(h:l.headD 0∉signs):sign l=(0,0):=by
 unfold sign;rw[h1,h2,if_neg (by simp),if_neg h]
theorem u8_back(c:UInt8):(c.toNat:Int).toNat.toUInt8=c:=by simp
theorem head_data(s:ByteArray)(h0:0<s.size):s.data.toList.headD 0=s[0]:=by
 have:=drop_at s 0 h0
 simp only[List.drop_zero]at this
 rw[this];rfl
theorem sign_any(s:ByteArray)(w:World)(h0:0<s.size) :
  Calls Tryz.prog 184 #[.string s] w λe w'=>e=.returned (.tuple #[.int .i64 (sign s.data.toList).1,.int .i64 (sign s.data.toList).2])/\w=w':=by
 have P1:=HasPrefix_any s ⟨#[45,62]⟩ w
 have P2:=HasPrefix_any s ⟨#[124,62]⟩ w
 have P3:=IndexByte_any ⟨#[92,58,61,59,123,125,40,41,46,126,64,60,62,44,91,93,33]⟩ (s[0].toNat:Int) w
 rw[u8_back]at P3
 have hm:=indexByte_mem signs s[0]
 rw[<-head_data s h0]at hm
 have e3:Lib.indexByte (⟨#[92,58,61,59,123,125,40,41,46,126,64,60,62,44,91,93,33]⟩:ByteArray).data.toList s[0]=Lib.indexByte signs (s.data.toList.headD 0):=by rw[head_data s h0];rfl
 rw[e3]at P3
 clear e3
 obtain⟨b1,hb1⟩:∃b,pre [45,62] s.data.toList=b:=⟨_,rfl⟩
 obtain⟨b2,hb2⟩:∃b,pre [124,62] s.data.toList=b:=⟨_,rfl⟩
 obtain⟨n,hn⟩:∃n,Lib.indexByte signs (s.data.toList.headD 0)=n:=⟨_,rfl⟩
 have P1:Calls Tryz.prog 200 #[.string s,.string ⟨#[45,62]⟩] w λe w'=>e=.returned (.bool b1)/\w=w':=by rw[<-hb1];exact P1
 have P2:Calls Tryz.prog 200 #[.string s,.string ⟨#[124,62]⟩] w λe w'=>e=.returned (.bool b2)/\w=w':=by rw[<-hb2];exact P2
 rw[hn]at P3 hm
 by_cases h1:b1=true
 ·have hw:=hidE (sign_two s.data.toList (.inl (hb1.trans h1)))
  subst h1
  clear hb1 hb2 hn hm
  go_enter Tryz.func184,Tryz.ntmps184
  go_wp2_with (go_at_call 200;refine P1.mono ?_;rintro e w' ⟨rfl,rfl⟩)
  go_ret2
  exact⟨ret_2 (by rw[hw.out];rfl) (by rw[hw.out];rfl),rfl⟩
 ·have h1:b1=false:=by simpa using h1
  subst h1
  by_cases h2:b2=true
  ·have hw:=hidE (sign_two s.data.toList (.inr (hb2.trans h2)))
   subst h2
   clear hb1 hb2 hn hm
   go_enter Tryz.func184,Tryz.ntmps184
   go_wp2_with (first|((with_reducible go_at_call 200);(with_reducible refine P1.mono ?_);rintro e w' ⟨rfl,rfl⟩)|((with_reducible go_at_call 200);(with_reducible refine P2.mono ?_);rintro e w' ⟨rfl,rfl⟩))
   go_ret2
   exact⟨ret_2 (by rw[hw.out];rfl) (by rw[hw.out];rfl),rfl⟩
  ·have h2:b2=false:=by simpa using h2
   subst h2
   by_cases h3:0<=n
   ·have hw:=hidE (sign_one s.data.toList hb1 hb2 (hm.1 h3))
    clear hb1 hb2 hn hm
    go_enter Tryz.func184,Tryz.ntmps184
    go_wp2_with (first|(go_at_call 200;(with_reducible refine P1.mono ?_);rintro e w' ⟨rfl,rfl⟩)|(go_at_call 200;(with_reducible refine P2.mono ?_);rintro e w' ⟨rfl,rfl⟩)|(go_at_call 178;refine P3.mono ?_;rintro e w' ⟨rfl,rfl⟩))
    go_ret2
    exact⟨ret_2 (by rw[hw.out];rfl) (by rw[hw.out];rfl),rfl⟩
   ·have hw:=hidE (sign_none s.data.toList hb1 hb2 (λh=>h3 (hm.2 h)))
    clear hb1 hb2 hn hm
    go_enter Tryz.func184,Tryz.ntmps184
    go_wp2_with (first|(go_at_call 200;(with_reducible refine P1.mono ?_);rintro e w' ⟨rfl,rfl⟩)|(go_at_call 200;(with_reducible refine P2.mono ?_);rintro e w' ⟨rfl,rfl⟩)|(go_at_call 178;refine P3.mono ?_;rintro e w' ⟨rfl,rfl⟩))
    go_ret2
    exact⟨ret_2 (by rw[hw.out];rfl) (by rw[hw.out];rfl),rfl⟩
end Go.Proofs.YtknkclefoiohpaaGreatDoor

namespace Go.Proofs.YtknkclefoiohpaaGreatDoor
open Go.RowKit Lx
set_option maxRecDepth 100000
theorem first_cons(s:ByteArray)(h0:0<s.size):first s.data.toList=if isLet s[0] then word s.data.toList else if isDig s[0] then number s.data.toList else if s[0]=63 then meta_ s.data.toList else sign s.data.toList:=by
 have h:=drop_at s 0 h0
 simp only[List.drop_zero]at h
 rw[h]
 rfl
theorem first_empty(s:ByteArray)(h0:¬0<s.size):first s.data.toList=(0,0):=by
 have:s.data.toList=[]:=by apply List.eq_nil_of_length_eq_zero;rw[<-Lib.size_eq];omega
 rw[this];rfl
theorem empty_no(s:ByteArray)(h0:0<s.size):s.toList.isEmpty=false:=by
 rw[Lib.toList_data]
 have:=Lib.size_eq s
 cases h:s.data.toList with
 | nil =>
   have e:s.size=0:=by rw[this,h];rfl
   omega
 | cons=>rfl
theorem empty_yes(s:ByteArray)(h0:¬0<s.size):s.toList.isEmpty=true:=by
 rw[Lib.toList_data]
 have:=Lib.size_eq s
 cases h:s.data.toList with
 | nil=>rfl
 | cons=>rw[h]at this;simp at this;omega
theorem u8t(c d:UInt8)(h:c=d):((c.toNat:Int) ==(d.toNat:Int))=true:=by rw[h];simp
theorem u8f(c d:UInt8)(h:¬c=d):((c.toNat:Int) ==(d.toNat:Int))=false:=by
 rw[Bool.eq_false_iff]
 intro e
 apply h
 rw[<-UInt8.toNat_inj]
 simp at e
 omega
theorem first_any(s:ByteArray)(w:World)(hs:s.size<=maxLen) :
  Calls Tryz.prog 159 #[.string s] w λe w'=>e=.returned (.tuple #[.int .i64 (first s.data.toList).1,.int .i64 (first s.data.toList).2])/\w=w':=by
 by_cases h0:0<s.size
 ·have hf:=first_cons s h0
  have he:=empty_no s h0
  by_cases hl:isLet s[0]=true
  ·have hd:=head_data s h0
   have hw1:1<=span inW s.data.toList:=by
    have h:=drop_at s 0 h0
    simp only[List.drop_zero]at h
    rw[h];exact isLet_span _ _ hl
   rw[if_pos hl]at hf
   have HC:=word_any s w hs hw1
   rw[<-hf]at HC
   clear hf hd hw1
   go_enter Tryz.func159,Tryz.ntmps159
   go_wp2_with (first|(go_at_call 179;refine(isLetter_any _ _).mono ?_;rintro e w' ⟨rfl,rfl⟩)|(go_at_call 180;refine HC.mono ?_;rintro e w' ⟨rfl,rfl⟩))
   go_ret2
   exact⟨rfl,rfl⟩
  ·rw[if_neg hl]at hf
   have hl:isLet s[0]=false:=by simpa using hl
   by_cases hg:isDig s[0]=true
   ·rw[if_pos hg]at hf
    have HC:=number_any s w hs
    rw[<-hf]at HC
    clear hf
    go_enter Tryz.func159,Tryz.ntmps159
    go_wp2_with (first|(go_at_call 179;refine(isLetter_any _ _).mono ?_;rintro e w' ⟨rfl,rfl⟩)|(go_at_call 181;refine(isDigit_any _ _).mono ?_;rintro e w' ⟨rfl,rfl⟩)|(go_at_call 182;refine HC.mono ?_;rintro e w' ⟨rfl,rfl⟩))
    go_ret2
    exact⟨rfl,rfl⟩
   ·rw[if_neg hg]at hf
    have hg:isDig s[0]=false:=by simpa using hg
    by_cases hq:s[0]=63
    ·rw[if_pos hq]at hf
     have HC:=meta_any s w hs h0
     rw[<-hf]at HC
     have hq':((s[0].toNat:Int)==63)=true:=u8t _ 63 hq
     clear hf hq
     go_enter Tryz.func159,Tryz.ntmps159
     go_wp2_with (first|(go_at_call 179;refine(isLetter_any _ _).mono ?_;rintro e w' ⟨rfl,rfl⟩)|(go_at_call 181;refine(isDigit_any _ _).mono ?_;rintro e w' ⟨rfl,rfl⟩)|(go_at_call 183;refine HC.mono ?_;rintro e w' ⟨rfl,rfl⟩))
     go_ret2
     exact⟨rfl,rfl⟩
    ·rw[if_neg hq]at hf
     have HC:=sign_any s w h0
     rw[<-hf]at HC
     have hq':((s[0].toNat:Int)==63)=false:=u8f _ 63 hq
     clear hf hq
     go_enter Tryz.func159,Tryz.ntmps159
     go_wp2_with (first|(go_at_call 179;refine(isLetter_any _ _).mono ?_;rintro e w' ⟨rfl,rfl⟩)|(go_at_call 181;refine(isDigit_any _ _).mono ?_;rintro e w' ⟨rfl,rfl⟩)|(go_at_call 184;refine HC.mono ?_;rintro e w' ⟨rfl,rfl⟩))
     go_ret2
     exact⟨rfl,rfl⟩
 ·have hf:=hidE (first_empty s h0)
  have he:=empty_yes s h0
  go_enter Tryz.func159,Tryz.ntmps159
  go_wp2
  go_ret2
  exact⟨ret_2 (by rw[hf.out];rfl) (by rw[hf.out];rfl),rfl⟩
theorem rem_none(l:List UInt8)(h:Lib.indexByte l 10<0):btw true l=l.length:=by
 induction l with
 | nil=>rfl
 | cons c r ih =>
  simp only[btw,List.length_cons]
  have hg:=Lib.indexByte_ge r 10
  by_cases hc:c=10
  ·subst hc;simp[Lib.indexByte]at h
  ·have hc':(c==10)=false:=by simpa using hc
   have hc2:(c != 10)=true:=by simpa using hc
   rw[Lib.indexByte,hc']at h
   simp only[Bool.false_eq_true,if_false]at h
   have h0:Lib.indexByte r 10<0:=by
    by_cases h1:Lib.indexByte r 10 = -1
    ·omega
    ·rw[if_neg (by simpa using h1)]at h;omega
   rw[hc2,ih h0]
theorem rem_some(l:List UInt8)(j:Nat)(h:Lib.indexByte l 10=j):j<l.length/\btw true l=j+1+btw false (l.drop (j+1)):=by
 induction l generalizing j with
 | nil=>simp[Lib.indexByte]at h
 | cons c r ih =>
  simp only[btw,List.length_cons]
  have hg:=Lib.indexByte_ge r 10
  by_cases hc:c=10
  ·subst hc
   simp[Lib.indexByte]at h
   obtain rfl:j=0:=by omega
   simp
   omega
  ·have hc':(c==10)=false:=by simpa using hc
   have hc2:(c != 10)=true:=by simpa using hc
   rw[Lib.indexByte,hc']at h
   simp only[Bool.false_eq_true,if_false]at h
   split at h
   ·omega
   ·rename_i hne
    have hne:¬Lib.indexByte r 10 = -1:=by simpa using hne
    obtain⟨i,hi⟩:∃i:Nat,Lib.indexByte r 10=i:=⟨(Lib.indexByte r 10).toNat,by omega⟩
    obtain⟨h1,h2⟩:=ih i hi
    obtain rfl:j=i+1:=by omega
    rw[hc2,h2]
    simp only[List.drop_succ_cons]
    omega
def Bt(s:ByteArray)(k N:Nat):Prop:=k+btw false (s.data.toList.drop k)=N
theorem bt_blank(s:ByteArray)(k N:Nat)(h:Bt s k N)(hk:k<s.size)(hc:s[k]=32\/s[k]=9\/s[k]=10):Bt s (k+1) N:=by
 unfold Bt at *
 rw[drop_at s k hk,btw,if_pos hc]at h
 omega
theorem bt_other(s:ByteArray)(k N:Nat)(h:Bt s k N)(hk:k<s.size)(hc:¬(s[k]=32\/s[k]=9\/s[k]=10))(h35:¬s[k]=35):k=N:=by
 unfold Bt at *
 rw[drop_at s k hk,btw,if_neg hc,if_neg h35]at h
 omega
theorem bt_end(s:ByteArray)(k N:Nat)(h:Bt s k N)(hk:s.size<=k):k=N:=by
 unfold Bt at *
 rw[List.drop_eq_nil_of_le (by simpa using hk)]at h
 exact h
theorem bt_remark(s:ByteArray)(k:Nat)(hk:k<s.size)(h35:s[k]=35):btw false (s.data.toList.drop k)=btw true (s.data.toList.drop k):=by
 rw[drop_at s k hk,h35]
 simp[btw]
theorem bt_none(s:ByteArray)(k N:Nat)(h:Bt s k N)(hk:k<s.size)(h35:s[k]=35)(hj:Lib.indexByte (s.data.toList.drop k) 10<0):s.size=N:=by
 unfold Bt at *
 rw[bt_remark s k hk h35,rem_none _ hj,List.length_drop,<-Lib.size_eq]at h
 omega
theorem bt_some(s:ByteArray)(k N j:Nat)(h:Bt s k N)(hk:k<s.size)(h35:s[k]=35)(hj:Lib.indexByte (s.data.toList.drop k) 10=j):k+j<s.size/\Bt s (k+j+1) N:=by
 unfold Bt at *
 obtain⟨h1,h2⟩:=rem_some _ _ hj
 rw[bt_remark s k hk h35,h2,List.drop_drop]at h
 rw[List.length_drop,<-Lib.size_eq]at h1
 refine⟨by omega,?_⟩
 rw[show k+j+1=k+(j+1) by omega]
 omega
set_option maxHeartbeats 800000 in
theorem between_any(s:ByteArray)(w:World)(hs:s.size<=maxLen) :
  Calls Tryz.prog 158 #[.string s] w λe w'=>e=.returned (.int .i64 (btw false s.data.toList))/\w=w':=by
 have hm:=hs
 unfold maxLen at hs
 go_enter Tryz.func158,Tryz.ntmps158
 go_wp2
 go_loop [3] (λi=>∃k:Nat,k<=s.size/\i=.int .i64 k/\Bt s k (btw false s.data.toList)) (λi=>s.size-(intOf i).toNat)
 case atStart=>exact⟨0,Nat.zero_le _,rfl,by simp[Bt]⟩
 case round =>
  obtain⟨k,hk,rfl,hn⟩:=hrel
  have HN:=hidE hn
  clear hn
  by_cases hlt:k<s.size
  ·by_cases hb:s[k]=32\/s[k]=9\/s[k]=10
   ·have H:=hidE (bt_blank s k _ HN.out hlt hb)
    clear HN
    rcases hb with hb|hb|hb
    ·have b1:((s[k].toNat:Int)==32)=true:=u8t _ 32 hb
     clear hb
     go_wp2
     go_round
     case rel=>exact⟨k+1,by omega,by go_num,H.out⟩
     case measure=>simp[intOf];omega
    ·have b1:((s[k].toNat:Int)==32)=false:=u8f _ 32 (by rw[hb];decide)
     have b2:((s[k].toNat:Int)==9)=true:=u8t _ 9 hb
     clear hb
     go_wp2
     go_round
     case rel=>exact⟨k+1,by omega,by go_num,H.out⟩
     case measure=>simp[intOf];omega
    ·have b1:((s[k].toNat:Int)==32)=false:=u8f _ 32 (by rw[hb];decide)
     have b2:((s[k].toNat:Int)==9)=false:=u8f _ 9 (by rw[hb];decide)
     have b3:((s[k].toNat:Int)==10)=true:=u8t _ 10 hb
     clear hb
     go_wp2
     go_round
     case rel=>exact⟨k+1,by omega,by go_num,H.out⟩
     case measure=>simp[intOf];omega
   ·have b1:((s[k].toNat:Int)==32)=false:=u8f _ 32 (λe=>hb (.inl e))
    have b2:((s[k].toNat:Int)==9)=false:=u8f _ 9 (λe=>hb (.inr (.inl e)))
    have b3:((s[k].toNat:Int)==10)=false:=u8f _ 10 (λe=>hb (.inr (.inr e)))
    by_cases h35:s[k]=35
    ·have b4:((s[k].toNat:Int)==35)=true:=u8t _ 35 h35
     have P:=IndexByte_any (s.extract k s.size) 10 w
     rw[drop_data,show(10:Int).toNat.toUInt8=10 from rfl]at P
     obtain⟨j,hj⟩:∃j,Lib.indexByte (s.data.toList.drop k) 10=j:=⟨_,rfl⟩
     rw[hj]at P
     by_cases hj0:j<0
     ·have H:=hidE (bt_none s k _ HN.out hlt h35 (by rw[hj];exact hj0))
      clear hj h35 hb HN
      go_wp2_with (go_at_call 178;refine P.mono ?_;rintro e w' ⟨rfl,rfl⟩)
      go_ret
      exact⟨ret_i64 (by rw[<-H.out]),rfl⟩
     ·obtain⟨m,rfl⟩:∃m:Nat,j=m:=⟨j.toNat,by omega⟩
      obtain⟨hkm,hbt⟩:=bt_some s k _ m HN.out hlt h35 hj
      have H:=hidE hbt
      clear hj h35 hb HN hbt
      go_wp2_with (go_at_call 178;refine P.mono ?_;rintro e w' ⟨rfl,rfl⟩)
      go_round
      case rel=>exact⟨k+m+1,by omega,by go_num,H.out⟩
      case measure=>simp[intOf];omega
    ·have b4:((s[k].toNat:Int)==35)=false:=u8f _ 35 h35
     have H:=hidE (bt_other s k _ HN.out hlt hb h35)
     clear HN hb h35
     go_wp2
     go_ret
     exact⟨ret_i64 (by rw[<-H.out]),rfl⟩
  ·have H:=hidE (bt_end s k _ HN.out (by omega))
   have hke:k=s.size:=by omega
   clear HN
   have H2:=hidE (hke.symm.trans H.out)
   clear H hke
   go_wp2
   go_ret
   exact⟨ret_i64 (by rw[<-H2.out]),rfl⟩
end Go.Proofs.YtknkclefoiohpaaGreatDoor
