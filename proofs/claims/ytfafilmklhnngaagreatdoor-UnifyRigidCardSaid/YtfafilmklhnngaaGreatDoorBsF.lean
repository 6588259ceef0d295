import Derived.Test.YtfafilmklhnngaaGreatDoorBsA
import Derived.Test.YtfafilmklhnngaaGreatDoorProg
import Derived.WalkKit
import Derived.WalkSpells
import Derived.WalkLawsBesides
import Derived.BigQuiet
import Derived.Deep.QuietTactic
set_option maxHeartbeats 12800000
set_option maxRecDepth 100000
namespace Go.Proofs.YtfafilmklhnngaaGreatDoor
open Tryz
section
open Go.RowKit Lx
set_option maxRecDepth 100000
theorem EP {p:Prop}(h:p):RowKit.Hid p:=h
theorem QP(c:UInt8)(w:World):Calls prog 212 #[.int .u8 c.toNat] w λe w'=>e=.returned (.bool (GK c))/\w=w':=by
 have hc:=c.toNat_lt;by_cases h1:65<=c.toNat
 ·by_cases h2:c.toNat<=90
  ·go_in
   go_wp2
   go_ret
   exact⟨by simp[GK,h1,h2];omega,rfl⟩
  ·go_in
   go_wp2
   go_ret
   exact⟨by simp[GK,h1,h2];omega,rfl⟩
 ·go_in
  go_wp2
  go_ret
  exact⟨by simp[GK,h1],rfl⟩
theorem OG(c:UInt8)(w:World):Calls prog 198 #[.int .u8 c.toNat] w λe w'=>e=.returned (.bool (f_ c))/\w=w':=by
 have hc:=c.toNat_lt;by_cases h1:48<=c.toNat
 ·by_cases h2:c.toNat<=57
  ·go_in
   go_wp2
   go_ret
   exact⟨by simp[f_,h1,h2];omega,rfl⟩
  ·go_in
   go_wp2
   go_ret
   exact⟨by simp[f_,h1,h2];omega,rfl⟩
 ·go_in
  go_wp2
  go_ret
  exact⟨by simp[f_,h1],rfl⟩
theorem Oz(c:UInt8)(w:World):Calls prog 196 #[.int .u8 c.toNat] w λe w'=>e=.returned (.bool (isLet c))/\w=w':=by
 have hc:=c.toNat_lt;by_cases h0:GK c=true
 ·go_in
  go_wp2_with (go_at_call 212;refine(QP _ _).mono ?_;rintro e w' ⟨rfl,rfl⟩);go_ret
  exact⟨by simp[isLet,h0],rfl⟩
 ·have h0:GK c=false:=by simpa using h0
  by_cases h1:97<=c.toNat
  ·by_cases h2:c.toNat<=122
   ·go_in
    go_wp2_with (go_at_call 212;refine(QP _ _).mono ?_;rintro e w' ⟨rfl,rfl⟩);go_ret
    exact⟨by simp[isLet,h0,h1,h2];omega,rfl⟩
   ·go_in
    go_wp2_with (go_at_call 212;refine(QP _ _).mono ?_;rintro e w' ⟨rfl,rfl⟩);go_ret
    exact⟨by simp[isLet,h0,h1,h2];omega,rfl⟩
  ·go_in
   go_wp2_with (go_at_call 212;refine(QP _ _).mono ?_;rintro e w' ⟨rfl,rfl⟩);go_ret
   exact⟨by simp[isLet,h0,h1],rfl⟩
theorem zgD(c:UInt8)(w:World):Calls prog 214 #[.int .u8 c.toNat] w λe w'=>e=.returned (.bool (G7 c))/\w=w':=by
 have hc:=c.toNat_lt;by_cases h0:isLet c=true
 ·go_in
  go_wp2_with (go_at_call 196;refine(Oz _ _).mono ?_;rintro e w' ⟨rfl,rfl⟩);go_ret
  exact⟨by simp[G7,h0],rfl⟩
 ·have h0:isLet c=false:=by simpa using h0
  by_cases h1:f_ c=true
  ·go_in
   go_wp2_with (first|(go_at_call 196;refine(Oz _ _).mono ?_;rintro e w' ⟨rfl,rfl⟩)|(go_at_call 198;refine(OG _ _).mono ?_;rintro e w' ⟨rfl,rfl⟩));go_ret
   exact⟨by simp[G7,h0,h1],rfl⟩
  ·have h1:f_ c=false:=by simpa using h1
   go_in;go_wp2_with (first|(go_at_call 196;refine(Oz _ _).mono ?_;rintro e w' ⟨rfl,rfl⟩)|(go_at_call 198;refine(OG _ _).mono ?_;rintro e w' ⟨rfl,rfl⟩));go_ret
   refine⟨?_,rfl⟩;simp only[G7,h0,h1,DI];refine Cp (λb=>Ending.returned (.bool b)) ?_;rw[DM];simp[<-UInt8.toNat_inj];omega
theorem w_(s:ByteArray)(k:Nat)(h:k<s.size):s.data.toList.drop k=s[k]::s.data.toList.drop (k+1):=by
 rw[DL (by simpa using h)];rfl
theorem S7(p:UInt8->Bool)(s:ByteArray)(k n:Nat)(h:k<s.size)(hn:k+span p (s.data.toList.drop k)=n)(hp:p s[k]=true):k+1+span p (s.data.toList.drop (k+1))=n:=by
 rw[w_ s k h,span,Ch hp]at hn;omega
theorem SZ(p:UInt8->Bool)(s:ByteArray)(k n:Nat)(h:k<s.size)(hn:k+span p (s.data.toList.drop k)=n)(hp:p s[k]=false):k=n:=by
 rw[w_ s k h,span,hp]at hn;simpa using hn
theorem Sf(p:UInt8->Bool)(s:ByteArray)(k n:Nat)(h:s.size<=k)(hn:k+span p (s.data.toList.drop k)=n):k=n:=by
 rw[CH (by simpa using h),span]at hn;exact hn
theorem zhG(p:UInt8->Bool)(s:ByteArray):span p s.data.toList<=s.size:=by
 have:=Qx p s.data.toList;simpa using this
theorem JS {a b:Int}(h:a=b):Ending.returned (.int .i64 a)=.returned (.int .i64 b):=by rw[h]
theorem zma(s:ByteArray)(w:World)(hs:s.size<=maxLen):Calls prog 213 #[.string s,.func (.func 214) #[] #[]] w λe w'=>e=.returned (.int .i64 (span G7 s.data.toList))/\w=w':=by
 unfold maxLen at hs;go_in;go_wp2
 go_loop [5] (λi=>∃k:Nat,k<=s.size/\i=.int .i64 k/\k+span G7 (s.data.toList.drop k)=span G7 s.data.toList) (λi=>s.size-(intOf i).toNat)
 case atStart=>exact⟨0,Cw _,rfl,by simp⟩
 case round =>
  obtain⟨k,hk,rfl,hn⟩:=hrel;by_cases af:k<s.size
  ·by_cases hp:G7 s[k]=true
   ·have HN:=S7 _ s k _ af hn hp
    have H:=EP HN;clear hn HN;go_wp2_with (go_at_call 214;refine(zgD _ _).mono ?_;rintro e w' ⟨rfl,rfl⟩);go_round
    case rel=>exact⟨k+1,by omega,by go_num,H.o⟩
    case measure=>simp[intOf];omega
   ·have hp:G7 s[k]=false:=by simpa using hp
    have HN:=SZ _ s k _ af hn hp;have H:=EP HN;clear hn HN;go_wp2_with (go_at_call 214;refine(zgD _ _).mono ?_;rintro e w' ⟨rfl,rfl⟩);go_ret
    exact⟨JS (by rw[<-H.o]),rfl⟩
  ·have HN:=Sf _ s k _ (by omega) hn
   have H:=EP HN;clear hn HN;go_wp2;go_ret
   exact⟨JS (by rw[<-H.o]),rfl⟩
theorem zk3(s:ByteArray)(w:World)(hs:s.size<=maxLen):Calls prog 213 #[.string s,.func (.func 198) #[] #[]] w λe w'=>e=.returned (.int .i64 (span f_ s.data.toList))/\w=w':=by
 unfold maxLen at hs;go_in;go_wp2
 go_loop [5] (λi=>∃k:Nat,k<=s.size/\i=.int .i64 k/\k+span f_ (s.data.toList.drop k)=span f_ s.data.toList) (λi=>s.size-(intOf i).toNat)
 case atStart=>exact⟨0,Cw _,rfl,by simp⟩
 case round =>
  obtain⟨k,hk,rfl,hn⟩:=hrel;by_cases af:k<s.size
  ·by_cases hp:f_ s[k]=true
   ·have HN:=S7 _ s k _ af hn hp
    have H:=EP HN;clear hn HN;go_wp2_with (go_at_call 198;refine(OG _ _).mono ?_;rintro e w' ⟨rfl,rfl⟩);go_round
    case rel=>exact⟨k+1,by omega,by go_num,H.o⟩
    case measure=>simp[intOf];omega
   ·have hp:f_ s[k]=false:=by simpa using hp
    have HN:=SZ _ s k _ af hn hp;have H:=EP HN;clear hn HN;go_wp2_with (go_at_call 198;refine(OG _ _).mono ?_;rintro e w' ⟨rfl,rfl⟩);go_ret
    exact⟨JS (by rw[<-H.o]),rfl⟩
  ·have HN:=Sf _ s k _ (by omega) hn
   have H:=EP HN;clear hn HN;go_wp2;go_ret
   exact⟨JS (by rw[<-H.o]),rfl⟩
end
end Go.Proofs.YtfafilmklhnngaaGreatDoor
