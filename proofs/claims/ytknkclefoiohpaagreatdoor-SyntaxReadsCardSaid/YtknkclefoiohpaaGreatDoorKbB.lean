/-
  Contracts of the code's functions, part 2.
-/
import Derived.Test.YtknkclefoiohpaaGreatDoorKbA
import Derived.Test.YtknkclefoiohpaaGreatDoorProg
import Derived.WalkKit
import Derived.WalkSpells
import Derived.WalkLawsBesides
import Derived.BigQuiet
import Derived.Deep.QuietTactic
import Derived.Lib.Strings
namespace Go.Proofs.YtknkclefoiohpaaGreatDoor
open Go.RowKit Lx
set_option maxRecDepth 100000
theorem hidE {p:Prop}(h:p):RowKit.Hid p:=h
theorem isUpper_any(c:UInt8)(w:World) :
  Calls Tryz.prog 196 #[.int .u8 c.toNat] w λe w'=>e=.returned (.bool (isUp c))/\w=w':=by
 have hc:=c.toNat_lt
 by_cases h1:65<=c.toNat
 ·by_cases h2:c.toNat<=90
  ·go_enter Tryz.func196,Tryz.ntmps196
   go_wp2
   go_ret
   exact⟨by simp[isUp,h1,h2];omega,rfl⟩
  ·go_enter Tryz.func196,Tryz.ntmps196
   go_wp2
   go_ret
   exact⟨by simp[isUp,h1,h2];omega,rfl⟩
 ·go_enter Tryz.func196,Tryz.ntmps196
  go_wp2
  go_ret
  exact⟨by simp[isUp,h1],rfl⟩
theorem isDigit_any(c:UInt8)(w:World) :
  Calls Tryz.prog 181 #[.int .u8 c.toNat] w λe w'=>e=.returned (.bool (isDig c))/\w=w':=by
 have hc:=c.toNat_lt
 by_cases h1:48<=c.toNat
 ·by_cases h2:c.toNat<=57
  ·go_enter Tryz.func181,Tryz.ntmps181
   go_wp2
   go_ret
   exact⟨by simp[isDig,h1,h2];omega,rfl⟩
  ·go_enter Tryz.func181,Tryz.ntmps181
   go_wp2
   go_ret
   exact⟨by simp[isDig,h1,h2];omega,rfl⟩
 ·go_enter Tryz.func181,Tryz.ntmps181
  go_wp2
  go_ret
  exact⟨by simp[isDig,h1],rfl⟩
theorem isLetter_any(c:UInt8)(w:World) :
  Calls Tryz.prog 179 #[.int .u8 c.toNat] w λe w'=>e=.returned (.bool (isLet c))/\w=w':=by
 have hc:=c.toNat_lt
 by_cases h0:isUp c=true
 ·go_enter Tryz.func179,Tryz.ntmps179
  go_wp2_with (go_at_call 196;refine(isUpper_any _ _).mono ?_;rintro e w' ⟨rfl,rfl⟩)
  go_ret
  exact⟨by simp[isLet,h0],rfl⟩
 ·have h0:isUp c=false:=by simpa using h0
  by_cases h1:97<=c.toNat
  ·by_cases h2:c.toNat<=122
   ·go_enter Tryz.func179,Tryz.ntmps179
    go_wp2_with (go_at_call 196;refine(isUpper_any _ _).mono ?_;rintro e w' ⟨rfl,rfl⟩)
    go_ret
    exact⟨by simp[isLet,h0,h1,h2];omega,rfl⟩
   ·go_enter Tryz.func179,Tryz.ntmps179
    go_wp2_with (go_at_call 196;refine(isUpper_any _ _).mono ?_;rintro e w' ⟨rfl,rfl⟩)
    go_ret
    exact⟨by simp[isLet,h0,h1,h2];omega,rfl⟩
  ·go_enter Tryz.func179,Tryz.ntmps179
   go_wp2_with (go_at_call 196;refine(isUpper_any _ _).mono ?_;rintro e w' ⟨rfl,rfl⟩)
   go_ret
   exact⟨by simp[isLet,h0,h1],rfl⟩
theorem inWord_any(c:UInt8)(w:World) :
  Calls Tryz.prog 198 #[.int .u8 c.toNat] w λe w'=>e=.returned (.bool (inW c))/\w=w':=by
 have hc:=c.toNat_lt
 by_cases h0:isLet c=true
 ·go_enter Tryz.func198,Tryz.ntmps198
  go_wp2_with (go_at_call 179;refine(isLetter_any _ _).mono ?_;rintro e w' ⟨rfl,rfl⟩)
  go_ret
  exact⟨by simp[inW,h0],rfl⟩
 ·have h0:isLet c=false:=by simpa using h0
  by_cases h1:isDig c=true
  ·go_enter Tryz.func198,Tryz.ntmps198
   go_wp2_with (first|(go_at_call 179;refine(isLetter_any _ _).mono ?_;rintro e w' ⟨rfl,rfl⟩)|(go_at_call 181;refine(isDigit_any _ _).mono ?_;rintro e w' ⟨rfl,rfl⟩))
   go_ret
   exact⟨by simp[inW,h0,h1],rfl⟩
  ·have h1:isDig c=false:=by simpa using h1
   go_enter Tryz.func198,Tryz.ntmps198
   go_wp2_with (first|(go_at_call 179;refine(isLetter_any _ _).mono ?_;rintro e w' ⟨rfl,rfl⟩)|(go_at_call 181;refine(isDigit_any _ _).mono ?_;rintro e w' ⟨rfl,rfl⟩))
   go_ret
   refine⟨?_,rfl⟩
   simp only[inW,h0,h1,Bool.false_or]
   refine congrArg (λb=>Ending.returned (.bool b)) ?_
   rw[Bool.eq_iff_iff]
   simp[<-UInt8.toNat_inj]
   omega
theorem drop_at(s:ByteArray)(k:Nat)(h:k<s.size):s.data.toList.drop k=s[k]::s.data.toList.drop (k+1):=by
 rw[List.drop_eq_getElem_cons (by simpa using h)]
 rfl
theorem span_step(p:UInt8->Bool)(s:ByteArray)(k n:Nat)(h:k<s.size)(hn:k+span p (s.data.toList.drop k)=n)(hp:p s[k]=true):k+1+span p (s.data.toList.drop (k+1))=n:=by
 rw[drop_at s k h,span,if_pos hp]at hn
 omega
theorem span_stop(p:UInt8->Bool)(s:ByteArray)(k n:Nat)(h:k<s.size)(hn:k+span p (s.data.toList.drop k)=n)(hp:p s[k]=false):k=n:=by
 rw[drop_at s k h,span,hp]at hn
 simpa using hn
theorem span_end(p:UInt8->Bool)(s:ByteArray)(k n:Nat)(h:s.size<=k)(hn:k+span p (s.data.toList.drop k)=n):k=n:=by
 rw[List.drop_eq_nil_of_le (by simpa using h),span]at hn
 exact hn
theorem span_size(p:UInt8->Bool)(s:ByteArray):span p s.data.toList<=s.size:=by
 have:=span_le p s.data.toList
 simpa using this
theorem ret_i64 {a b:Int}(h:a=b):Ending.returned (.int .i64 a)=.returned (.int .i64 b):=by rw[h]
set_option maxHeartbeats 400000 in
theorem span_word(s:ByteArray)(w:World)(hs:s.size<=maxLen) :
  Calls Tryz.prog 197 #[.string s,.func (.func 198) #[] #[]] w λe w'=>e=.returned (.int .i64 (span inW s.data.toList))/\w=w':=by
 unfold maxLen at hs
 go_enter Tryz.func197,Tryz.ntmps197
 go_wp2
 go_loop [5] (λi=>∃k:Nat,k<=s.size/\i=.int .i64 k/\k+span inW (s.data.toList.drop k)=span inW s.data.toList) (λi=>s.size-(intOf i).toNat)
 case atStart=>exact⟨0,Nat.zero_le _,rfl,by simp⟩
 case round =>
  obtain⟨k,hk,rfl,hn⟩:=hrel
  by_cases hlt:k<s.size
  ·by_cases hp:inW s[k]=true
   ·have HN:=span_step _ s k _ hlt hn hp
    have H:=hidE HN
    clear hn HN
    go_wp2_with (go_at_call 198;refine(inWord_any _ _).mono ?_;rintro e w' ⟨rfl,rfl⟩)
    go_round
    case rel=>exact⟨k+1,by omega,by go_num,H.out⟩
    case measure=>simp[intOf];omega
   ·have hp:inW s[k]=false:=by simpa using hp
    have HN:=span_stop _ s k _ hlt hn hp
    have H:=hidE HN
    clear hn HN
    go_wp2_with (go_at_call 198;refine(inWord_any _ _).mono ?_;rintro e w' ⟨rfl,rfl⟩)
    go_ret
    exact⟨ret_i64 (by rw[<-H.out]),rfl⟩
  ·have HN:=span_end _ s k _ (by omega) hn
   have H:=hidE HN
   clear hn HN
   go_wp2
   go_ret
   exact⟨ret_i64 (by rw[<-H.out]),rfl⟩
set_option maxHeartbeats 400000 in
theorem span_digit(s:ByteArray)(w:World)(hs:s.size<=maxLen) :
  Calls Tryz.prog 197 #[.string s,.func (.func 181) #[] #[]] w λe w'=>e=.returned (.int .i64 (span isDig s.data.toList))/\w=w':=by
 unfold maxLen at hs
 go_enter Tryz.func197,Tryz.ntmps197
 go_wp2
 go_loop [5] (λi=>∃k:Nat,k<=s.size/\i=.int .i64 k/\k+span isDig (s.data.toList.drop k)=span isDig s.data.toList) (λi=>s.size-(intOf i).toNat)
 case atStart=>exact⟨0,Nat.zero_le _,rfl,by simp⟩
 case round =>
  obtain⟨k,hk,rfl,hn⟩:=hrel
  by_cases hlt:k<s.size
  ·by_cases hp:isDig s[k]=true
   ·have HN:=span_step _ s k _ hlt hn hp
    have H:=hidE HN
    clear hn HN
    go_wp2_with (go_at_call 181;refine(isDigit_any _ _).mono ?_;rintro e w' ⟨rfl,rfl⟩)
    go_round
    case rel=>exact⟨k+1,by omega,by go_num,H.out⟩
    case measure=>simp[intOf];omega
   ·have hp:isDig s[k]=false:=by simpa using hp
    have HN:=span_stop _ s k _ hlt hn hp
    have H:=hidE HN
    clear hn HN
    go_wp2_with (go_at_call 181;refine(isDigit_any _ _).mono ?_;rintro e w' ⟨rfl,rfl⟩)
    go_ret
    exact⟨ret_i64 (by rw[<-H.out]),rfl⟩
  ·have HN:=span_end _ s k _ (by omega) hn
   have H:=hidE HN
   clear hn HN
   go_wp2
   go_ret
   exact⟨ret_i64 (by rw[<-H.out]),rfl⟩
end Go.Proofs.YtknkclefoiohpaaGreatDoor
