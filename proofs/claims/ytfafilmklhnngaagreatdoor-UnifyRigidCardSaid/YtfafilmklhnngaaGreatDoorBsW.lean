import Derived.Test.YtfafilmklhnngaaGreatDoorBsA
import Derived.Shelf.Strings.Builder1
import Derived.Shelf.Small.Bits
import Derived.Shelf.Small.Strs
import Derived.Shelf.Strings.BuilderF
import Derived.Shelf.Strings.BuilderK
import Derived.Shelf.Strconv.Atoi
import Derived.Shelf.Strconv.Itoa0
import Derived.Shelf.Strconv.Itoa1
import Derived.Shelf.LaysM
import Derived.Shelf.Strconv.Itoa2
import Derived.Shelf.Strconv.Itoa3
import Derived.Shelf.Strconv.AtoiErrFast
import Derived.Shelf.Strconv.ParseIntEmpty
import Derived.Shelf.Strconv.AtoiFail
import Derived.Shelf.Strconv.Clone
import Derived.Shelf.Strconv.SyntaxError
import Derived.Shelf.LaysC
import Derived.Shelf.Strconv.ToError
import Derived.Shelf.Strconv.Lower
import Derived.Shelf.Strconv.ParseUint10
import Derived.Shelf.Strconv.ParseUint10Empty
import Derived.Shelf.Strconv.ParseUint10Any
import Derived.Shelf.Strconv.ParseInt10
import Derived.Shelf.Strconv.AtoiLong
import Derived.Shelf.Strconv.AtoiInnerAll
import Derived.Shelf.Strconv.RangeError
import Derived.Shelf.Strconv.ToErrorRange
import Derived.Shelf.Strconv.AtoiAll
import Derived.Shelf.Strings.Search1
import Derived.Shelf.Strings.Prefix
import Derived.Test.YtfafilmklhnngaaGreatDoorProg
set_option maxHeartbeats 12800000
namespace Go.Proofs
open Go.Shelf
def Tryz.I4:Go.Shelf.Ren:=⟨λ|169=>91|n=>n,λ|70=>161|9=>9|0=>0|72=>163|37=>126|127=>215|3=>3|5=>5|n=>n,λ|n=>n⟩
theorem Tryz.Nw:Go.Proofs.Lays.n169 Tryz.prog Tryz.I4:={
 mixed:=by kernel_rfl
 f169:=Tryz.func91.trans (Cp some (by kernel_rfl))
 t0:=Tryz.underlying0
 a0:=Tryz.isAgg0
 z0:=Tryz.sizeOf0
 v0:=Tryz.zeroValue0
 t3:=Tryz.underlying3
 a3:=Tryz.isAgg3
 z3:=Tryz.sizeOf3
 v3:=Tryz.zeroValue3
 t9:=Tryz.underlying9
 a9:=Tryz.isAgg9
 z9:=Tryz.sizeOf9
 v9:=Tryz.zeroValue9
 t37:=Tryz.underlying126
 a37:=Tryz.isAgg126
 z37:=Tryz.sizeOf126
 v37:=Tryz.zeroValue126
 t70:=Tryz.underlying161
 a70:=Tryz.isAgg161
 z70:=Tryz.sizeOf161
 v70:=Tryz.zeroValue161
 t72:=Tryz.underlying163
 a72:=Tryz.isAgg163
 z72:=Tryz.sizeOf163
 v72:=Tryz.zeroValue163
 t127:=Tryz.underlying215
 a127:=Tryz.isAgg215
 z127:=Tryz.sizeOf215
 v127:=Tryz.zeroValue215 }
theorem Tryz.Iu:Builder.Extra Tryz.prog Tryz.I4:={
 sizeBuilder:=by kernel_rfl
 liesBuilder:=by kernel_rfl
 t5:=Tryz.underlying5
 a5:=Tryz.isAgg5
 z5:=Tryz.sizeOf5
 v5:=Tryz.zeroValue5
 infoByte:=by kernel_rfl
 cellsByte:=by kernel_rfl
 sizeByte:=by kernel_rfl
 neB5:=by decide }
open Go.RowKit in
theorem Tryz.Builder_String_any_k(B b:Nat)(l:List UInt8)(w:World)(h:Lib.IsBuilderF 163 5 B b (Lib.byteCells l) w)(u9:B<=w.heap.size):Calls Tryz.prog 91 #[.pointer (some ⟨b,0,none⟩)] w λe w'=>e=.returned (.string ⟨l.toArray⟩)/\(Lib.IsBuilderF 163 5 B b (Lib.byteCells l) w'/\Below B w w'/\Lib.OthersKept 5 (some b) w w'):=Any.Builder_String_any_k Tryz.Nw Tryz.Iu B b l w h u9
def Tryz.KA:Go.Shelf.Ren:=⟨λ|172=>203|244=>217|245=>218|247=>224|279=>225|280=>226|281=>227|282=>228|287=>229|316=>230|171=>86|205=>231|321=>232|322=>233|243=>131|246=>170|283=>190|284=>191|285=>192|286=>193|129=>169|317=>207|318=>208|319=>209|320=>210|337=>220|338=>221|n=>n,λ|9=>9|3=>3|75=>213|76=>244|4=>4|5=>5|167=>274|37=>126|0=>0|85=>275|2=>2|168=>277|53=>242|175=>282|46=>202|210=>285|127=>215|145=>291|143=>289|21=>21|171=>258|173=>260|212=>269|51=>240|20=>20|213=>270|232=>280|233=>281|80=>40|n=>n,λ|15=>4|16=>5|17=>0|18=>1|19=>2|n=>n⟩
theorem Tryz.Nv:Go.Proofs.Lays.n172 Tryz.prog Tryz.KA:={
 mixed:=by kernel_rfl
 f129:=Tryz.func169.trans (Cp some (by kernel_rfl))
 f171:=Tryz.func86.trans (Cp some (by kernel_rfl))
 f172:=Tryz.func203.trans (Cp some (by kernel_rfl))
 f205:=Tryz.func231.trans (Cp some (by kernel_rfl))
 f243:=Tryz.func131.trans (Cp some (by kernel_rfl))
 f244:=Tryz.func217.trans (Cp some (by kernel_rfl))
 f245:=Tryz.func218.trans (Cp some (by kernel_rfl))
 f246:=Tryz.func170.trans (Cp some (by kernel_rfl))
 f247:=Tryz.func224.trans (Cp some (by kernel_rfl))
 f279:=Tryz.func225.trans (Cp some (by kernel_rfl))
 f280:=Tryz.func226.trans (Cp some (by kernel_rfl))
 f281:=Tryz.func227.trans (Cp some (by kernel_rfl))
 f282:=Tryz.func228.trans (Cp some (by kernel_rfl))
 f283:=Tryz.func190.trans (Cp some (by kernel_rfl))
 f284:=Tryz.func191.trans (Cp some (by kernel_rfl))
 f285:=Tryz.func192.trans (Cp some (by kernel_rfl))
 f286:=Tryz.func193.trans (Cp some (by kernel_rfl))
 f287:=Tryz.func229.trans (Cp some (by kernel_rfl))
 f316:=Tryz.func230.trans (Cp some (by kernel_rfl))
 f317:=Tryz.func207.trans (Cp some (by kernel_rfl))
 f318:=Tryz.func208.trans (Cp some (by kernel_rfl))
 f319:=Tryz.func209.trans (Cp some (by kernel_rfl))
 f320:=Tryz.func210.trans (Cp some (by kernel_rfl))
 f321:=Tryz.func232.trans (Cp some (by kernel_rfl))
 f322:=Tryz.func233.trans (Cp some (by kernel_rfl))
 f337:=Tryz.func220.trans (Cp some (by kernel_rfl))
 f338:=Tryz.func221.trans (Cp some (by kernel_rfl))
 t0:=Tryz.underlying0
 a0:=Tryz.isAgg0
 z0:=Tryz.sizeOf0
 v0:=Tryz.zeroValue0
 t2:=Tryz.underlying2
 a2:=Tryz.isAgg2
 z2:=Tryz.sizeOf2
 v2:=Tryz.zeroValue2
 t3:=Tryz.underlying3
 a3:=Tryz.isAgg3
 z3:=Tryz.sizeOf3
 v3:=Tryz.zeroValue3
 t4:=Tryz.underlying4
 a4:=Tryz.isAgg4
 z4:=Tryz.sizeOf4
 v4:=Tryz.zeroValue4
 t5:=Tryz.underlying5
 a5:=Tryz.isAgg5
 z5:=Tryz.sizeOf5
 v5:=Tryz.zeroValue5
 t9:=Tryz.underlying9
 a9:=Tryz.isAgg9
 z9:=Tryz.sizeOf9
 v9:=Tryz.zeroValue9
 t20:=Tryz.underlying20
 a20:=Tryz.isAgg20
 z20:=Tryz.sizeOf20
 v20:=Tryz.zeroValue20
 t21:=Tryz.underlying21
 a21:=Tryz.isAgg21
 z21:=Tryz.sizeOf21
 v21:=Tryz.zeroValue21
 t37:=Tryz.underlying126
 a37:=Tryz.isAgg126
 z37:=Tryz.sizeOf126
 v37:=Tryz.zeroValue126
 t46:=Tryz.underlying202
 a46:=Tryz.isAgg202
 z46:=Tryz.sizeOf202
 v46:=Tryz.zeroValue202
 t51:=Tryz.underlying240
 a51:=Tryz.isAgg240
 z51:=Tryz.sizeOf240
 v51:=Tryz.zeroValue240
 t53:=Tryz.underlying242
 a53:=Tryz.isAgg242
 z53:=Tryz.sizeOf242
 v53:=Tryz.zeroValue242
 t75:=Tryz.underlying213
 a75:=Tryz.isAgg213
 z75:=Tryz.sizeOf213
 v75:=Tryz.zeroValue213
 t76:=Tryz.underlying244
 a76:=Tryz.isAgg244
 z76:=Tryz.sizeOf244
 v76:=Tryz.zeroValue244
 t85:=Tryz.underlying275
 a85:=Tryz.isAgg275
 z85:=Tryz.sizeOf275
 v85:=Tryz.zeroValue275
 t127:=Tryz.underlying215
 a127:=Tryz.isAgg215
 z127:=Tryz.sizeOf215
 v127:=Tryz.zeroValue215
 t143:=Tryz.underlying289
 a143:=Tryz.isAgg289
 z143:=Tryz.sizeOf289
 v143:=Tryz.zeroValue289
 t145:=Tryz.underlying291
 a145:=Tryz.isAgg291
 z145:=Tryz.sizeOf291
 v145:=Tryz.zeroValue291
 t167:=Tryz.underlying274
 a167:=Tryz.isAgg274
 z167:=Tryz.sizeOf274
 v167:=Tryz.zeroValue274
 t168:=Tryz.underlying277
 a168:=Tryz.isAgg277
 z168:=Tryz.sizeOf277
 v168:=Tryz.zeroValue277
 t171:=Tryz.underlying258
 a171:=Tryz.isAgg258
 z171:=Tryz.sizeOf258
 v171:=Tryz.zeroValue258
 t173:=Tryz.underlying260
 a173:=Tryz.isAgg260
 z173:=Tryz.sizeOf260
 v173:=Tryz.zeroValue260
 t175:=Tryz.underlying282
 a175:=Tryz.isAgg282
 z175:=Tryz.sizeOf282
 v175:=Tryz.zeroValue282
 t210:=Tryz.underlying285
 a210:=Tryz.isAgg285
 z210:=Tryz.sizeOf285
 v210:=Tryz.zeroValue285
 t212:=Tryz.underlying269
 a212:=Tryz.isAgg269
 z212:=Tryz.sizeOf269
 v212:=Tryz.zeroValue269
 t213:=Tryz.underlying270
 a213:=Tryz.isAgg270
 z213:=Tryz.sizeOf270
 t232:=Tryz.underlying280
 a232:=Tryz.isAgg280
 z232:=Tryz.sizeOf280
 v232:=Tryz.zeroValue280
 t233:=Tryz.underlying281
 a233:=Tryz.isAgg281
 z233:=Tryz.sizeOf281
 v233:=Tryz.zeroValue281
 g15:=by kernel_rfl
 g16:=by kernel_rfl
 g17:=by kernel_rfl
 g18:=by kernel_rfl
 g19:=by kernel_rfl }
open Go.RowKit in
theorem Tryz.strconv_Atoi(s:ByteArray)(n:Int)(hl:s.size<=18)(h:Lib.atoi s.data.toList=some n)(w:World):Calls Tryz.prog 203 #[.string s] w λe w'=>e=.returned (.tuple #[.int .i64 n,.nilIface])/\∃t,w'=Lib.bytesWorld w 5 t:=Any.strconv_Atoi Tryz.Nv s n hl h w
def Tryz.Kj:Go.Shelf.Ren:=⟨λ|171=>86|243=>131|246=>170|283=>190|284=>191|285=>192|286=>193|129=>169|317=>207|318=>208|319=>209|320=>210|337=>220|338=>221|n=>n,λ|3=>3|9=>9|2=>2|4=>4|171=>258|0=>0|53=>242|37=>126|5=>5|173=>260|212=>269|51=>240|20=>20|213=>270|46=>202|232=>280|233=>281|n=>n,λ|17=>0|18=>1|19=>2|n=>n⟩
theorem Tryz.My:Go.Proofs.LaysM.n171 Tryz.prog Tryz.Kj:={
 mixed:=by kernel_rfl
 f129:=Tryz.func169.trans (Cp some (by kernel_rfl))
 f171:=Tryz.func86.trans (Cp some (by kernel_rfl))
 f243:=Tryz.func131.trans (Cp some (by kernel_rfl))
 f246:=Tryz.func170.trans (Cp some (by kernel_rfl))
 f283:=Tryz.func190.trans (Cp some (by kernel_rfl))
 f284:=Tryz.func191.trans (Cp some (by kernel_rfl))
 f285:=Tryz.func192.trans (Cp some (by kernel_rfl))
 f286:=Tryz.func193.trans (Cp some (by kernel_rfl))
 f317:=Tryz.func207.trans (Cp some (by kernel_rfl))
 f318:=Tryz.func208.trans (Cp some (by kernel_rfl))
 f319:=Tryz.func209.trans (Cp some (by kernel_rfl))
 f320:=Tryz.func210.trans (Cp some (by kernel_rfl))
 f337:=Tryz.func220.trans (Cp some (by kernel_rfl))
 f338:=Tryz.func221.trans (Cp some (by kernel_rfl))
 t0:=Tryz.underlying0
 a0:=Tryz.isAgg0
 z0:=Tryz.sizeOf0
 v0:=Tryz.zeroValue0
 t2:=Tryz.underlying2
 a2:=Tryz.isAgg2
 z2:=Tryz.sizeOf2
 v2:=Tryz.zeroValue2
 t3:=Tryz.underlying3
 a3:=Tryz.isAgg3
 z3:=Tryz.sizeOf3
 v3:=Tryz.zeroValue3
 t4:=Tryz.underlying4
 a4:=Tryz.isAgg4
 z4:=Tryz.sizeOf4
 v4:=Tryz.zeroValue4
 t5:=Tryz.underlying5
 a5:=Tryz.isAgg5
 z5:=Tryz.sizeOf5
 v5:=Tryz.zeroValue5
 t9:=Tryz.underlying9
 a9:=Tryz.isAgg9
 z9:=Tryz.sizeOf9
 v9:=Tryz.zeroValue9
 t20:=Tryz.underlying20
 a20:=Tryz.isAgg20
 z20:=Tryz.sizeOf20
 v20:=Tryz.zeroValue20
 t37:=Tryz.underlying126
 a37:=Tryz.isAgg126
 z37:=Tryz.sizeOf126
 v37:=Tryz.zeroValue126
 t46:=Tryz.underlying202
 a46:=Tryz.isAgg202
 z46:=Tryz.sizeOf202
 v46:=Tryz.zeroValue202
 t51:=Tryz.underlying240
 a51:=Tryz.isAgg240
 z51:=Tryz.sizeOf240
 v51:=Tryz.zeroValue240
 t53:=Tryz.underlying242
 a53:=Tryz.isAgg242
 z53:=Tryz.sizeOf242
 v53:=Tryz.zeroValue242
 t171:=Tryz.underlying258
 a171:=Tryz.isAgg258
 z171:=Tryz.sizeOf258
 v171:=Tryz.zeroValue258
 t173:=Tryz.underlying260
 a173:=Tryz.isAgg260
 z173:=Tryz.sizeOf260
 v173:=Tryz.zeroValue260
 t212:=Tryz.underlying269
 a212:=Tryz.isAgg269
 z212:=Tryz.sizeOf269
 v212:=Tryz.zeroValue269
 t213:=Tryz.underlying270
 a213:=Tryz.isAgg270
 z213:=Tryz.sizeOf270
 t232:=Tryz.underlying280
 a232:=Tryz.isAgg280
 z232:=Tryz.sizeOf280
 v232:=Tryz.zeroValue280
 t233:=Tryz.underlying281
 a233:=Tryz.isAgg281
 z233:=Tryz.sizeOf281
 v233:=Tryz.zeroValue281
 g17:=by kernel_rfl
 g18:=by kernel_rfl
 g19:=by kernel_rfl
 i0:=by kernel_rfl
 i2:=by kernel_rfl
 i3:=by kernel_rfl
 i4:=by kernel_rfl
 i5:=by kernel_rfl
 i9:=by kernel_rfl
 i20:=by kernel_rfl
 i37:=by kernel_rfl
 i46:=by kernel_rfl
 i51:=by kernel_rfl
 i53:=by kernel_rfl
 i171:=by kernel_rfl
 i173:=by kernel_rfl
 i212:=by kernel_rfl
 i232:=by kernel_rfl
 i233:=by kernel_rfl
 m17:=by kernel_rfl
 m18:=by kernel_rfl
 m19:=by kernel_rfl }
open Go.RowKit Go.Sort Go.Lib in
theorem Tryz.strconv_Itoa(n:Int)(h0 : -9223372036854775808<=n)(h1:n<=9223372036854775807)(w:World)(gH:Lib.TabIs Tryz.prog w "internal/strconv.uint64pow10" .u64 Lib.pow10Tab):Calls Tryz.prog 86 #[.int .i64 n] w λe w'=>e=.returned (.string ⟨(Lib.itoa n).toArray⟩)/\∃k os,w'=grow (w.drewN k) os:=Any.strconv_Itoa Tryz.My n h0 h1 w gH
def Tryz.KC:Go.Shelf.Ren:=⟨λ|101=>204|208=>219|206=>223|n=>n,λ|9=>9|4=>4|3=>3|n=>n,λ|n=>n⟩
theorem Tryz.Nx:Go.Proofs.Lays.n101 Tryz.prog Tryz.KC:={
 mixed:=by kernel_rfl
 f101:=Tryz.func204.trans (Cp some (by kernel_rfl))
 f206:=Tryz.func223.trans (Cp some (by kernel_rfl))
 f208:=Tryz.func219.trans (Cp some (by kernel_rfl))
 t3:=Tryz.underlying3
 a3:=Tryz.isAgg3
 z3:=Tryz.sizeOf3
 v3:=Tryz.zeroValue3
 t4:=Tryz.underlying4
 a4:=Tryz.isAgg4
 z4:=Tryz.sizeOf4
 v4:=Tryz.zeroValue4
 t9:=Tryz.underlying9
 a9:=Tryz.isAgg9
 z9:=Tryz.sizeOf9
 v9:=Tryz.zeroValue9 }
open Go.RowKit Go.Lib in
theorem Tryz.strings_TrimPrefix(s p:ByteArray)(w:World):Calls Tryz.prog 204 #[.string s,.string p] w λe w'=>e=.returned (.string ⟨(Lib.trimPrefix s.data.toList p.data.toList).toArray⟩)/\w'=w:=Any.strings_TrimPrefix Tryz.Nx s p w
end Go.Proofs
