/- A text of this proof. -/
import Derived.Shelf.SlIterI.Nil
import Derived.Shelf.SlSortCmp.WholeK
import Derived.Shelf.Slices.Cells
import Derived.Shelf.Slices.Clone
import Derived.Shelf.Slices.Empties2
import Derived.Shelf.Slices.In.SortNone
import Derived.Shelf.SlicesE.Clone
import Derived.Shelf.Small.Strs
import Derived.Shelf.Sort.Plain
import Derived.Shelf.SortM.Plain
import Derived.Shelf.SortM.SortNone
import Derived.Shelf.Strconv.Itoa3
import Derived.Shelf.Strings.Builder2
import Derived.WalkLawsBesides
import Derived.Test.YtgafcelloiagmaaGreatDoorProg
set_option maxHeartbeats 16000000
set_option linter.unusedSimpArgs false
set_option linter.unusedVariables false
set_option maxRecDepth 20000
namespace Go.Proofs
open Go.Proofs.Tryz
open Go.Shelf
def Tryz.lays106_ren:Go.Shelf.Ren:=⟨λ|106=>273|213=>329|265=>371|n=>n,λ|9=>9|3=>3|n=>n,λ|n=>n⟩
theorem Tryz.lays106:Go.Proofs.Lays.n106 prog Tryz.lays106_ren:={
 mixed:=by kernel_rfl
 f106:=func273.trans (congrArg some (by kernel_rfl))
 f213:=func329.trans (congrArg some (by kernel_rfl))
 f265:=func371.trans (congrArg some (by kernel_rfl))
 t3:=Tryz.underlying3
 a3:=Tryz.isAgg3
 z3:=Tryz.sizeOf3
 v3:=Tryz.zeroValue3
 t9:=Tryz.underlying9
 a9:=Tryz.isAgg9
 z9:=Tryz.sizeOf9
 v9:=Tryz.zeroValue9 }
open Go.RowKit in
theorem Tryz.strings_Compare(a b:ByteArray)(w:World):
  Calls prog 273 #[.string a,.string b] w λe w'=>e=.returned (.int .i64 (Lib.compareBytes a.data.toList b.data.toList))/\w'=w:=Any.strings_Compare Tryz.lays106 a b w
def Tryz.laysM243_ren:Go.Shelf.Ren:=⟨λ|243=>370|246=>396|283=>405|284=>406|285=>407|286=>408|129=>308|317=>410|318=>411|319=>412|320=>413|337=>414|338=>415|n=>n,λ|3=>3|9=>9|2=>2|4=>4|171=>421|0=>0|53=>343|37=>83|5=>5|173=>423|212=>428|51=>341|20=>20|213=>429|46=>301|232=>430|233=>431|n=>n,λ|17=>1|18=>2|19=>3|n=>n⟩
def Tryz.laysM171_ren:Go.Shelf.Ren:=⟨λ|171=>328|243=>370|246=>396|283=>405|284=>406|285=>407|286=>408|129=>308|317=>410|318=>411|319=>412|320=>413|337=>414|338=>415|n=>n,λ|3=>3|9=>9|2=>2|4=>4|171=>421|0=>0|53=>343|37=>83|5=>5|173=>423|212=>428|51=>341|20=>20|213=>429|46=>301|232=>430|233=>431|n=>n,λ|17=>1|18=>2|19=>3|n=>n⟩
theorem Tryz.laysM171:Go.Proofs.LaysM.n171 prog Tryz.laysM171_ren:={
 mixed:=by kernel_rfl
 f129:=func308.trans (congrArg some (by kernel_rfl))
 f171:=func328.trans (congrArg some (by kernel_rfl))
 f243:=func370.trans (congrArg some (by kernel_rfl))
 f246:=func396.trans (congrArg some (by kernel_rfl))
 f283:=func405.trans (congrArg some (by kernel_rfl))
 f284:=func406.trans (congrArg some (by kernel_rfl))
 f285:=func407.trans (congrArg some (by kernel_rfl))
 f286:=func408.trans (congrArg some (by kernel_rfl))
 f317:=func410.trans (congrArg some (by kernel_rfl))
 f318:=func411.trans (congrArg some (by kernel_rfl))
 f319:=func412.trans (congrArg some (by kernel_rfl))
 f320:=func413.trans (congrArg some (by kernel_rfl))
 f337:=func414.trans (congrArg some (by kernel_rfl))
 f338:=func415.trans (congrArg some (by kernel_rfl))
 t0:=Tryz.underlying0
 a0:=Tryz.isAgg0
 z0:=Tryz.sizeOf0
 v0:=Tryz.zeroValue0
 t2:=Tryz.underlying2
 a2:=Tryz.isAgg2
 z2:=Tryz.sizeOf2
 v2:=Tryz.zeroValue2
 t3:=Tryz.underlying3
 a3:=Tryz.isAgg3
 z3:=Tryz.sizeOf3
 v3:=Tryz.zeroValue3
 t4:=Tryz.underlying4
 a4:=Tryz.isAgg4
 z4:=Tryz.sizeOf4
 v4:=Tryz.zeroValue4
 t5:=Tryz.underlying5
 a5:=Tryz.isAgg5
 z5:=Tryz.sizeOf5
 v5:=Tryz.zeroValue5
 t9:=Tryz.underlying9
 a9:=Tryz.isAgg9
 z9:=Tryz.sizeOf9
 v9:=Tryz.zeroValue9
 t20:=Tryz.underlying20
 a20:=Tryz.isAgg20
 z20:=Tryz.sizeOf20
 v20:=Tryz.zeroValue20
 t37:=Tryz.underlying83
 a37:=Tryz.isAgg83
 z37:=Tryz.sizeOf83
 v37:=Tryz.zeroValue83
 t46:=Tryz.underlying301
 a46:=Tryz.isAgg301
 z46:=Tryz.sizeOf301
 v46:=Tryz.zeroValue301
 t51:=Tryz.underlying341
 a51:=Tryz.isAgg341
 z51:=Tryz.sizeOf341
 v51:=Tryz.zeroValue341
 t53:=Tryz.underlying343
 a53:=Tryz.isAgg343
 z53:=Tryz.sizeOf343
 v53:=Tryz.zeroValue343
 t171:=Tryz.underlying421
 a171:=Tryz.isAgg421
 z171:=Tryz.sizeOf421
 v171:=Tryz.zeroValue421
 t173:=Tryz.underlying423
 a173:=Tryz.isAgg423
 z173:=Tryz.sizeOf423
 v173:=Tryz.zeroValue423
 t212:=Tryz.underlying428
 a212:=Tryz.isAgg428
 z212:=Tryz.sizeOf428
 v212:=Tryz.zeroValue428
 t213:=Tryz.underlying429
 a213:=Tryz.isAgg429
 z213:=Tryz.sizeOf429
 t232:=Tryz.underlying430
 a232:=Tryz.isAgg430
 z232:=Tryz.sizeOf430
 v232:=Tryz.zeroValue430
 t233:=Tryz.underlying431
 a233:=Tryz.isAgg431
 z233:=Tryz.sizeOf431
 v233:=Tryz.zeroValue431
 g17:=by kernel_rfl
 g18:=by kernel_rfl
 g19:=by kernel_rfl
 i0:=by kernel_rfl
 i2:=by kernel_rfl
 i3:=by kernel_rfl
 i4:=by kernel_rfl
 i5:=by kernel_rfl
 i9:=by kernel_rfl
 i20:=by kernel_rfl
 i37:=by kernel_rfl
 i46:=by kernel_rfl
 i51:=by kernel_rfl
 i53:=by kernel_rfl
 i171:=by kernel_rfl
 i173:=by kernel_rfl
 i212:=by kernel_rfl
 i232:=by kernel_rfl
 i233:=by kernel_rfl
 m17:=by kernel_rfl
 m18:=by kernel_rfl
 m19:=by kernel_rfl }
open Go.RowKit Go.Sort Go.Lib in
theorem Tryz.strconv_Itoa(n:Int)(h0:-9223372036854775808<=n)(h1:n<=9223372036854775807)(w:World)(WO:Lib.TabIs prog w "internal/strconv.uint64pow10" .u64 Lib.pow10Tab):
  Calls prog 328 #[.int .i64 n] w λe w'=>e=.returned (.string ⟨(Lib.itoa n).toArray⟩)/\∃k os,w'=grow (w.drewN k) os:=Any.strconv_Itoa Tryz.laysM171 n h0 h1 w WO
def Tryz.lays171_ren:Go.Shelf.Ren:=⟨λ|171=>328|243=>370|246=>396|283=>405|284=>406|285=>407|286=>408|129=>308|317=>410|318=>411|319=>412|320=>413|337=>414|338=>415|n=>n,λ|3=>3|9=>9|2=>2|4=>4|171=>421|0=>0|53=>343|37=>83|5=>5|173=>423|212=>428|51=>341|20=>20|213=>429|46=>301|232=>430|233=>431|n=>n,λ|17=>1|18=>2|19=>3|n=>n⟩
theorem Tryz.lays171:Go.Proofs.Lays.n171 prog Tryz.lays171_ren:={
 mixed:=by kernel_rfl
 f129:=func308.trans (congrArg some (by kernel_rfl))
 f171:=func328.trans (congrArg some (by kernel_rfl))
 f243:=func370.trans (congrArg some (by kernel_rfl))
 f246:=func396.trans (congrArg some (by kernel_rfl))
 f283:=func405.trans (congrArg some (by kernel_rfl))
 f284:=func406.trans (congrArg some (by kernel_rfl))
 f285:=func407.trans (congrArg some (by kernel_rfl))
 f286:=func408.trans (congrArg some (by kernel_rfl))
 f317:=func410.trans (congrArg some (by kernel_rfl))
 f318:=func411.trans (congrArg some (by kernel_rfl))
 f319:=func412.trans (congrArg some (by kernel_rfl))
 f320:=func413.trans (congrArg some (by kernel_rfl))
 f337:=func414.trans (congrArg some (by kernel_rfl))
 f338:=func415.trans (congrArg some (by kernel_rfl))
 t0:=Tryz.underlying0
 a0:=Tryz.isAgg0
 z0:=Tryz.sizeOf0
 v0:=Tryz.zeroValue0
 t2:=Tryz.underlying2
 a2:=Tryz.isAgg2
 z2:=Tryz.sizeOf2
 v2:=Tryz.zeroValue2
 t3:=Tryz.underlying3
 a3:=Tryz.isAgg3
 z3:=Tryz.sizeOf3
 v3:=Tryz.zeroValue3
 t4:=Tryz.underlying4
 a4:=Tryz.isAgg4
 z4:=Tryz.sizeOf4
 v4:=Tryz.zeroValue4
 t5:=Tryz.underlying5
 a5:=Tryz.isAgg5
 z5:=Tryz.sizeOf5
 v5:=Tryz.zeroValue5
 t9:=Tryz.underlying9
 a9:=Tryz.isAgg9
 z9:=Tryz.sizeOf9
 v9:=Tryz.zeroValue9
 t20:=Tryz.underlying20
 a20:=Tryz.isAgg20
 z20:=Tryz.sizeOf20
 v20:=Tryz.zeroValue20
 t37:=Tryz.underlying83
 a37:=Tryz.isAgg83
 z37:=Tryz.sizeOf83
 v37:=Tryz.zeroValue83
 t46:=Tryz.underlying301
 a46:=Tryz.isAgg301
 z46:=Tryz.sizeOf301
 v46:=Tryz.zeroValue301
 t51:=Tryz.underlying341
 a51:=Tryz.isAgg341
 z51:=Tryz.sizeOf341
 v51:=Tryz.zeroValue341
 t53:=Tryz.underlying343
 a53:=Tryz.isAgg343
 z53:=Tryz.sizeOf343
 v53:=Tryz.zeroValue343
 t171:=Tryz.underlying421
 a171:=Tryz.isAgg421
 z171:=Tryz.sizeOf421
 v171:=Tryz.zeroValue421
 t173:=Tryz.underlying423
 a173:=Tryz.isAgg423
 z173:=Tryz.sizeOf423
 v173:=Tryz.zeroValue423
 t212:=Tryz.underlying428
 a212:=Tryz.isAgg428
 z212:=Tryz.sizeOf428
 v212:=Tryz.zeroValue428
 t213:=Tryz.underlying429
 a213:=Tryz.isAgg429
 z213:=Tryz.sizeOf429
 t232:=Tryz.underlying430
 a232:=Tryz.isAgg430
 z232:=Tryz.sizeOf430
 v232:=Tryz.zeroValue430
 t233:=Tryz.underlying431
 a233:=Tryz.isAgg431
 z233:=Tryz.sizeOf431
 v233:=Tryz.zeroValue431
 g17:=by kernel_rfl
 g18:=by kernel_rfl
 g19:=by kernel_rfl }
open Go.RowKit Go.Sort Go.Lib in
theorem Tryz.strconv_Itoa_small(i:Nat)(hi:i<100)(w:World):
  Calls prog 328 #[.int .i64 i] w λe w'=>e=.returned (.string ⟨(Lib.decDigits i).toArray⟩)/\w'=w:=Any.strconv_Itoa_small Tryz.lays171 i hi w
def Tryz.lays190_ren:Go.Shelf.Ren:=⟨λ|190=>233|125=>255|258=>283|128=>307|129=>308|302=>338|303=>339|304=>340|305=>341|306=>342|307=>343|308=>287|309=>344|310=>345|333=>376|329=>359|330=>360|334=>377|335=>378|336=>256|344=>400|n=>n,λ|31=>45|9=>9|3=>3|46=>301|0=>0|51=>341|53=>343|4=>4|183=>335|182=>334|131=>243|5=>5|218=>383|222=>387|228=>406|229=>407|n=>n,λ|n=>n⟩
theorem Tryz.lays190:Go.Proofs.Lays.n190 prog Tryz.lays190_ren:={
 mixed:=by kernel_rfl
 f125:=func255.trans (congrArg some (by kernel_rfl))
 f128:=func307.trans (congrArg some (by kernel_rfl))
 f129:=func308.trans (congrArg some (by kernel_rfl))
 f190:=func233.trans (congrArg some (by kernel_rfl))
 f258:=func283.trans (congrArg some (by kernel_rfl))
 f302:=func338.trans (congrArg some (by kernel_rfl))
 f303:=func339.trans (congrArg some (by kernel_rfl))
 f304:=func340.trans (congrArg some (by kernel_rfl))
 f305:=func341.trans (congrArg some (by kernel_rfl))
 f306:=func342.trans (congrArg some (by kernel_rfl))
 f307:=func343.trans (congrArg some (by kernel_rfl))
 f308:=func287.trans (congrArg some (by kernel_rfl))
 f309:=func344.trans (congrArg some (by kernel_rfl))
 f310:=func345.trans (congrArg some (by kernel_rfl))
 f329:=func359.trans (congrArg some (by kernel_rfl))
 f330:=func360.trans (congrArg some (by kernel_rfl))
 f333:=func376.trans (congrArg some (by kernel_rfl))
 f334:=func377.trans (congrArg some (by kernel_rfl))
 f335:=func378.trans (congrArg some (by kernel_rfl))
 f336:=func256.trans (congrArg some (by kernel_rfl))
 f344:=func400.trans (congrArg some (by kernel_rfl))
 t0:=Tryz.underlying0
 a0:=Tryz.isAgg0
 z0:=Tryz.sizeOf0
 v0:=Tryz.zeroValue0
 t3:=Tryz.underlying3
 a3:=Tryz.isAgg3
 z3:=Tryz.sizeOf3
 v3:=Tryz.zeroValue3
 t4:=Tryz.underlying4
 a4:=Tryz.isAgg4
 z4:=Tryz.sizeOf4
 v4:=Tryz.zeroValue4
 t5:=Tryz.underlying5
 a5:=Tryz.isAgg5
 z5:=Tryz.sizeOf5
 v5:=Tryz.zeroValue5
 t9:=Tryz.underlying9
 a9:=Tryz.isAgg9
 z9:=Tryz.sizeOf9
 v9:=Tryz.zeroValue9
 t31:=Tryz.underlying45
 a31:=Tryz.isAgg45
 z31:=Tryz.sizeOf45
 v31:=Tryz.zeroValue45
 t46:=Tryz.underlying301
 a46:=Tryz.isAgg301
 z46:=Tryz.sizeOf301
 v46:=Tryz.zeroValue301
 t51:=Tryz.underlying341
 a51:=Tryz.isAgg341
 z51:=Tryz.sizeOf341
 v51:=Tryz.zeroValue341
 t53:=Tryz.underlying343
 a53:=Tryz.isAgg343
 z53:=Tryz.sizeOf343
 v53:=Tryz.zeroValue343
 t131:=Tryz.underlying243
 a131:=Tryz.isAgg243
 z131:=Tryz.sizeOf243
 v131:=Tryz.zeroValue243
 t182:=Tryz.underlying334
 a182:=Tryz.isAgg334
 z182:=Tryz.sizeOf334
 v182:=Tryz.zeroValue334
 t183:=Tryz.underlying335
 a183:=Tryz.isAgg335
 z183:=Tryz.sizeOf335
 v183:=Tryz.zeroValue335
 t218:=Tryz.underlying383
 a218:=Tryz.isAgg383
 z218:=Tryz.sizeOf383
 v218:=Tryz.zeroValue383
 t222:=Tryz.underlying387
 a222:=Tryz.isAgg387
 z222:=Tryz.sizeOf387
 v222:=Tryz.zeroValue387
 t228:=Tryz.underlying406
 a228:=Tryz.isAgg406
 z228:=Tryz.sizeOf406
 v228:=Tryz.zeroValue406
 t229:=Tryz.underlying407
 a229:=Tryz.isAgg407
 z229:=Tryz.sizeOf407
 v229:=Tryz.zeroValue407 }
open Go.Sort Go.RowKit in
theorem Tryz.slices_Sort_string(dR off cap:Nat)(ss:List (List UInt8))(w:World)(hH:Holds encStr w dR off ss.toArray)(hblk:dR<w.heap.size)(db:ss.length<4611686018427387904):
  Calls prog 233 #[.slice (some ⟨dR,off,none⟩) ss.length cap] w λe w'=>
   e=.returned (.tuple #[])/\∃n os,w'=grow (putRow encStr (Sort.ahead w n) dR off (ss.mergeSort λx y=>decide (x<=y)).toArray) os:=Any.slices_Sort_string Tryz.lays190 dR off cap ss w hH hblk db
def Tryz.lays193_ren:Go.Shelf.Ren:=⟨λ|193=>158|n=>n,λ|31=>45|9=>9|4=>4|3=>3|0=>0|n=>n,λ|n=>n⟩
theorem Tryz.lays193:Go.Proofs.Lays.n193 prog Tryz.lays193_ren:={
 mixed:=by kernel_rfl
 f193:=func158.trans (congrArg some (by kernel_rfl))
 t0:=Tryz.underlying0
 a0:=Tryz.isAgg0
 z0:=Tryz.sizeOf0
 v0:=Tryz.zeroValue0
 t3:=Tryz.underlying3
 a3:=Tryz.isAgg3
 z3:=Tryz.sizeOf3
 v3:=Tryz.zeroValue3
 t4:=Tryz.underlying4
 a4:=Tryz.isAgg4
 z4:=Tryz.sizeOf4
 v4:=Tryz.zeroValue4
 t9:=Tryz.underlying9
 a9:=Tryz.isAgg9
 z9:=Tryz.sizeOf9
 v9:=Tryz.zeroValue9
 t31:=Tryz.underlying45
 a31:=Tryz.isAgg45
 z31:=Tryz.sizeOf45
 v31:=Tryz.zeroValue45 }
open Go.RowKit Go.Lib in
theorem Tryz.slices_Equal_string(b1 o1 n c b2 o2 m d:Nat)(xs ys:List ByteArray)(w:World)(hx:n<=xs.length)(hy:m<=ys.length)(WQ:n<=9223372036854775807)(Fg:m<=9223372036854775807)(eN:∀j,j<xs.length->w.cell? ⟨b1,o1+j,none⟩=some (.string (xs.getD j ByteArray.empty)))(fG:∀j,j<ys.length->w.cell? ⟨b2,o2+j,none⟩=some (.string (ys.getD j ByteArray.empty))):
  Calls prog 158 #[.slice (some ⟨b1,o1,none⟩) n c,.slice (some ⟨b2,o2,none⟩) m d] w λe w'=>e=.returned (.bool (decide (xs.take n=ys.take m)))/\∃q,w'=w.drewN q:=Any.slices_Equal_string Tryz.lays193 b1 o1 n c b2 o2 m d xs ys w hx hy WQ Fg eN fG
open Go.RowKit Go.Lib in
theorem Tryz.slices_Equal_string_empty(a1 a2:Option Addr)(c m d:Nat)(w:World)(Fg:m<=9223372036854775807):
  Calls prog 158 #[.slice a1 0 c,.slice a2 m d] w λe w'=>e=.returned (.bool (decide (m=0)))/\w'=w:=Any.slices_Equal_string_empty Tryz.lays193 a1 a2 c m d w Fg
def Tryz.lays194_ren:Go.Shelf.Ren:=⟨λ|194=>234|n=>n,λ|31=>45|9=>9|3=>3|4=>4|0=>0|n=>n,λ|n=>n⟩
theorem Tryz.lays194:Go.Proofs.Lays.n194 prog Tryz.lays194_ren:={
 mixed:=by kernel_rfl
 f194:=func234.trans (congrArg some (by kernel_rfl))
 t0:=Tryz.underlying0
 a0:=Tryz.isAgg0
 z0:=Tryz.sizeOf0
 v0:=Tryz.zeroValue0
 t3:=Tryz.underlying3
 a3:=Tryz.isAgg3
 z3:=Tryz.sizeOf3
 v3:=Tryz.zeroValue3
 t4:=Tryz.underlying4
 a4:=Tryz.isAgg4
 z4:=Tryz.sizeOf4
 v4:=Tryz.zeroValue4
 t9:=Tryz.underlying9
 a9:=Tryz.isAgg9
 z9:=Tryz.sizeOf9
 v9:=Tryz.zeroValue9
 t31:=Tryz.underlying45
 a31:=Tryz.isAgg45
 z31:=Tryz.sizeOf45
 v31:=Tryz.zeroValue45 }
open Go.RowKit Go.Lib Go.Sort in
theorem Tryz.slices_Compact_string(dR off cap:Nat)(zs:List (List UInt8))(w:World)(hH:Holds encStr w dR off zs.toArray)(db:zs.length<=9223372036854775807)(Rn:zs.length<=cap):
  Calls prog 234 #[.slice (some ⟨dR,off,none⟩) zs.length cap] w λe w'=>e=.returned (.slice (some ⟨dR,off,none⟩) (Lib.compact zs).length cap)/\∃q,w'=putRow encStr (Sort.ahead w q) dR off (Lib.compact zs++List.replicate (zs.length-(Lib.compact zs).length) []).toArray:=Any.slices_Compact_string Tryz.lays194 dR off cap zs w hH db Rn
open Go.RowKit Go.Lib Go.Sort in
theorem Tryz.slices_Compact_string_empty(a:Option Addr)(cap:Nat)(w:World):
  Calls prog 234 #[.slice a 0 cap] w λe w'=>e=.returned (.slice a 0 cap)/\w'=w:=Any.slices_Compact_string_empty Tryz.lays194 a cap w
open Go.RowKit Go.Sort in
theorem Tryz.slices_Sort_string_none(p:Option Addr)(cap:Nat)(w:World):
  Calls prog 233 #[.slice p 0 cap] w λe w'=>e=.returned (.tuple #[])/\w'=w:=Any.slices_Sort_string_none Tryz.lays190 p cap w
end Go.Proofs
namespace Go.Proofs.YtgafcelloiagmaaGreatDoor
open Go.Proofs.Tryz
open Go.RowKit
def wv(n:Nat):Nat:=if n=0 then 0 else (n.log2+1022)*2 ^ 52+n*2 ^ (52-n.log2)
theorem Fh{n:Nat}(h0:n≠0)(h:n<2 ^ 53):n.log2<=52:=by
 have:=(Nat.log2_lt h0).2 h;omega
theorem BD(n k:Nat)(h0:n≠0):(n*2 ^ k).log2=n.log2+k:=by
 have hp:0<2 ^ k:=Nat.two_pow_pos k;have bA:n*2 ^ k≠0:=Nat.mul_ne_zero h0 (by omega)
 have l1:2 ^ n.log2<=n:=Nat.log2_self_le h0;have l2:n<2 ^ (n.log2+1):=Nat.lt_log2_self;apply Nat.le_antisymm
 ·have:n*2 ^ k<2 ^ (n.log2+k+1):=by
   rw[show n.log2+k+1=(n.log2+1)+k by omega,Nat.pow_add]
   exact Nat.mul_lt_mul_of_pos_right l2 hp
  have:=(Nat.log2_lt bA).2 this;omega
 rw[Nat.le_log2 bA,Nat.pow_add];exact Nat.mul_le_mul_right _ l1
theorem BE(neg:Bool)(n k:Nat)(h:n<2 ^ 53):Ieee.double.nearest neg (n*2 ^ k) (-(k:Int))=Ieee.double.word neg (wv n):=by
 unfold Ieee.Format.nearest wv;by_cases h0:n=0
 ·subst h0;simp
 have hp:0<2 ^ k:=Nat.two_pow_pos k;have bA:n*2 ^ k≠0:=Nat.mul_ne_zero h0 (by omega)
 have hL:=Fh h0 h;rw[if_neg bA,if_neg h0];simp only[BD n k h0]
 have Vk:Ieee.double.leastPlace = -1074:=by decide
 have wx:(Ieee.double.fractionBits:Int)=52:=by decide
 have Qw:Ieee.double.binade=2 ^ 52:=by decide
 have eK:Ieee.double.infRung=2047*2 ^ 52:=by decide
 rw[Vk,wx,Qw,eK];have NR:max (-(k:Int)+((n.log2+k:Nat):Int)-52) (-1074)=(n.log2:Int)-52:=by omega
 rw[NR]
 have hcut:Ieee.Toward.even.cut neg ((n*2 ^ k) <<< (-(k:Int)-((n.log2:Int)-52)).toNat) (((n.log2:Int)-52) - -(k:Int)).toNat=n*2 ^ (52-n.log2):=by
  by_cases hc:n.log2+k<=52
  ·rw[show(((n.log2:Int)-52) - -(k:Int)).toNat=0 by omega,show(-(k:Int)-((n.log2:Int)-52)).toNat=52-n.log2-k by omega,Nat.shiftLeft_eq,Nat.mul_assoc,<-Nat.pow_add,show k+(52-n.log2-k)=52-n.log2 by omega]
   unfold Ieee.Toward.cut;simp[Nat.mod_one]
  rw[show(-(k:Int)-((n.log2:Int)-52)).toNat=0 by omega,show(((n.log2:Int)-52) - -(k:Int)).toNat=n.log2+k-52 by omega,Nat.shiftLeft_eq,Nat.pow_zero,Nat.mul_one]
  unfold Ieee.Toward.cut;rw[BD n k h0,Nat.min_eq_left (by omega),Nat.one_shiftLeft]
  have e:n*2 ^ k=n*2 ^ (52-n.log2)*2 ^ (n.log2+k-52):=by
   rw[Nat.mul_assoc,<-Nat.pow_add,show 52-n.log2+(n.log2+k-52)=k by omega]
  have hg:0<2 ^ (n.log2+k-52):=Nat.two_pow_pos _;rw[e];dsimp only
  rw[Nat.mul_mod_left,Nat.mul_div_cancel _ hg];simp
 rw[hcut]
 have hub:n*2 ^ (52-n.log2)<2 ^ 53:=by
  have:n<2 ^ (n.log2+1):=Nat.lt_log2_self
  calc n*2 ^ (52-n.log2)<2 ^ (n.log2+1)*2 ^ (52-n.log2):=Nat.mul_lt_mul_of_pos_right this (Nat.two_pow_pos _)
   _=2 ^ 53:=by rw[<-Nat.pow_add];congr 1;omega
 rw[show(((n.log2:Int)-52) - -1074).toNat=n.log2+1022 by omega]
 refine congrArg (Ieee.double.word neg) (Nat.min_eq_left ?_);have:n.log2+1022<=1074:=by omega
 generalize n*2 ^ (52-n.log2)=K at *;generalize n.log2=L at *;omega
def Reads(b:Nat)(neg:Bool)(n:Nat):Prop:=∃k:Nat,k<=1074/\Ieee.double.read b=.number neg (n*2 ^ k) (-(k:Int))
theorem sU(neg:Bool)(n:Nat)(h:n<2 ^ 53):Reads (Ieee.double.word neg (wv n)) neg n:=by
 have jc:Ieee.double.signWeight=2 ^ 63:=by decide
 have Vk:Ieee.double.leastPlace = -1074:=by decide
 have Qw:Ieee.double.binade=2 ^ 52:=by decide
 have eK:Ieee.double.infRung=2047*2 ^ 52:=by decide
 have key:∀r,r<2 ^ 63->(Ieee.double.word neg r / 2 ^ 63 % 2 == 1)=neg/\Ieee.double.word neg r % 2 ^ 63=r:=by
  intro r hr;unfold Ieee.Format.word;rw[jc];cases neg
  ·simp only[Bool.false_eq_true,if_false]
   constructor
   ·rw[Nat.div_eq_of_lt hr];rfl
   exact Nat.mod_eq_of_lt hr
  simp only[if_true]
  constructor
  ·rw[show(2 ^ 63+r) / 2 ^ 63=1 by omega];rfl
  omega
 unfold Reads Ieee.Format.read;rw[jc,Vk,Qw,eK];by_cases h0:n=0
 ·subst h0
  have hr:wv 0=0:=rfl;rw[hr];have:=key 0 (by omega)
  simp only[this.1,this.2]
  obtain⟨k,hk⟩:∃k:Nat,k=1074:=⟨_,rfl⟩;refine⟨k,by omega,?_⟩
  rw[Nat.zero_mul];subst hk;rfl
 have hL:=Fh h0 h
 have hub:n*2 ^ (52-n.log2)<2 ^ 53:=by
  have:n<2 ^ (n.log2+1):=Nat.lt_log2_self
  calc n*2 ^ (52-n.log2)<2 ^ (n.log2+1)*2 ^ (52-n.log2):=Nat.mul_lt_mul_of_pos_right this (Nat.two_pow_pos _)
   _=2 ^ 53:=by rw[<-Nat.pow_add];congr 1;omega
 have Jk:2 ^ 52<=n*2 ^ (52-n.log2):=by
  have:2 ^ n.log2<=n:=Nat.log2_self_le h0
  calc 2 ^ 52=2 ^ n.log2*2 ^ (52-n.log2):=by rw[<-Nat.pow_add];congr 1;omega
   _<=n*2 ^ (52-n.log2):=Nat.mul_le_mul_right _ this
 have hr:wv n=(n.log2+1022)*2 ^ 52+n*2 ^ (52-n.log2):=by unfold wv;rw[if_neg h0]
 generalize Fi:n*2 ^ (52-n.log2)=K at *;have hLn:n.log2+1022<=1074:=by omega
 rw[hr];generalize n.log2=L at *;have hs:=key ((L+1022)*2 ^ 52+K) (by omega)
 simp only[hs.1,hs.2]
 rw[if_neg (by omega),if_pos (by omega)]
 have WR:((L+1022)*2 ^ 52+K) % 2 ^ 52=K-2 ^ 52:=by omega
 have hdiv:((L+1022)*2 ^ 52+K) / 2 ^ 52=L+1023:=by omega
 rw[WR,hdiv];refine⟨52-L,by omega,?_⟩
 rw[Fi];have a1:2 ^ 52+(K-2 ^ 52)=K:=by omega
 have a2:(-1074:Int)+((L+1023-1:Nat):Int) = -((52-L:Nat):Int):=by omega
 rw[a1,a2]
def Mw(n:Nat):Nat:=Ieee.double.word false (wv n)
theorem BF(n:Nat)(h:n<2 ^ 53):Reads (Mw n) false n:=sU false n h
theorem BG(n:Nat)(h:n<2 ^ 53):floatOfInt .f64 (n:Int)=Mw n:=by
 unfold floatOfInt FloatKind.nearest FloatKind.encode Ieee.Format.write;have:=BE false n 0 h;rw[show decide ((n:Int)<0)=false from decide_eq_false (by omega)]
 show Ieee.double.nearest false (n:Int).natAbs 0=_
 rw[Int.natAbs_natCast];rw[Nat.pow_zero,Nat.mul_one]at this;exact this
def df(a b:Nat):Nat:=Ieee.double.word (decide (a<b)) (wv (a-b+(b-a)))
theorem ny(neg:Bool)(n k up:Nat):Ieee.signed neg (n*2 ^ k) up=(if neg then -1 else 1)*((n*2 ^ (k+up):Nat):Int):=by
 unfold Ieee.signed;rw[Nat.shiftLeft_eq,Nat.mul_assoc,<-Nat.pow_add];cases neg<;>simp
theorem Fj(a b:Nat)(ha:a<2 ^ 53)(hb:b<2 ^ 53):floatBits .sub .f64 (Mw a) (Mw b)=some (df a b):=by
 obtain⟨i,hi,ri⟩:=BF a ha;obtain⟨j,hj,rj⟩:=BF b hb;show Ieee.double.sub (Mw a) (Mw b)=_
 unfold Ieee.Format.sub;rw[ri,rj];simp only[Ieee.Datum.opposite,Ieee.Datum.sum,Option.map_some,Bool.not_false,Bool.false_and]
 rw[ny,ny];have e1:i+(-(i:Int)-min (-(i:Int)) (-(j:Int))).toNat=max i j:=by omega
 have e2:j+(-(j:Int)-min (-(i:Int)) (-(j:Int))).toNat=max i j:=by omega
 have e3:min (-(i:Int)) (-(j:Int)) = -((max i j:Nat):Int):=by omega
 rw[e1,e2,e3];have hm:max i j<=1074:=by omega
 generalize max i j=m at *;have hp:0<2 ^ m:=Nat.two_pow_pos m
 have et:(if false=true then (-1:Int) else 1)*((a*2 ^ m:Nat):Int)+(if true=true then (-1:Int) else 1)*((b*2 ^ m:Nat):Int)=((a:Int)-b)*((2 ^ m:Nat):Int):=by
  rw[if_neg (by decide),if_pos rfl,Int.sub_mul];simp only[Int.natCast_mul];omega
 rw[et]
 have hz:(((a:Int)-b)*((2 ^ m:Nat):Int)=0)↔a=b:=by
  constructor
  ·intro h
   rcases Int.mul_eq_zero.1 h with h|h<;>omega
  rintro rfl;simp
 have hl:decide (((a:Int)-b)*((2 ^ m:Nat):Int)<0)=decide (a<b):=by
  apply decide_eq_decide.2
  constructor
  ·intro h
   rcases Nat.lt_or_ge a b with h'|h'
   ·exact h'
   have:=Int.mul_nonneg (show 0<=(a:Int)-b by omega) (show 0<=((2 ^ m:Nat):Int) by omega)
   omega
  intro h;exact Int.mul_neg_of_neg_of_pos (by omega) (by omega)
 have hna:(((a:Int)-b)*((2 ^ m:Nat):Int)).natAbs=(a-b+(b-a))*2 ^ m:=by
  rw[Int.natAbs_mul,Int.natAbs_natCast];congr 1
  omega
 rw[hna]
 have hs:(if ((a:Int)-b)*((2 ^ m:Nat):Int)=0 then false else decide (((a:Int)-b)*((2 ^ m:Nat):Int)<0))=decide (a<b):=by
  split
  ·rename_i h;have:=hz.1 h;simp[this]
  exact hl
 rw[hs];show some (Ieee.double.nearest _ _ _)=_
 rw[BE _ _ m (by omega)]
 rfl
theorem qb(a b:Nat)(ha:a<2 ^ 53)(hb:b<2 ^ 53):Ieee.double.order (df a b) 0=some (compare a b):=by
 obtain⟨i,hi,ri⟩:=sU (decide (a<b)) (a-b+(b-a)) (by omega)
 have r0:Ieee.double.read 0=.number false 0 (-1074):=by decide
 unfold Ieee.Format.order df;rw[ri,r0];simp only[Ieee.Datum.order]
 rw[ny];have s0:Ieee.signed false 0 (-1074-min (-(i:Int)) (-1074)).toNat=0:=by simp[Ieee.signed]
 rw[s0];congr 1
 have hp:∀u,0<2 ^ u:=λu=>Nat.two_pow_pos u
 generalize i+(-(i:Int)-min (-(i:Int)) (-1074)).toNat=u;have hu:=hp u;rcases Nat.lt_trichotomy a b with h|h|h
 ·have e:a-b+(b-a)=b-a:=by omega
  rw[e];have:0<(b-a)*2 ^ u:=Nat.mul_pos (by omega) hu
  rw[decide_eq_true h,if_pos rfl,Nat.compare_eq_lt.2 h];exact(Int.compare_eq_lt).2 (by omega)
 ·subst h
  simp
 have e:a-b+(b-a)=a-b:=by omega
 rw[e];have:0<(a-b)*2 ^ u:=Nat.mul_pos (by omega) hu
 rw[decide_eq_false (by omega),if_neg (by decide),Nat.compare_eq_gt.2 h]
 exact(Int.compare_eq_gt).2 (by omega)
end Go.Proofs.YtgafcelloiagmaaGreatDoor
namespace Go.Proofs
open Go.Proofs.Tryz
open Go.Shelf
def Tryz.keysA_ren:Go.Shelf.Ren:=⟨λ|7=>245|10=>291|n=>n,λ|23=>286|26=>2|3=>287|28=>290|0=>0|27=>289|33=>119|4=>4|n=>n,λ|n=>n⟩
theorem Tryz.keysA:Go.Proofs.SlLaysZI.n7 prog Tryz.keysA_ren:={
 mixed:=by kernel_rfl
 f7:=⟨Tryz.f245.name,by decide,func245.trans (congrArg some (by kernel_rfl))⟩
 f10:=⟨Tryz.f291.name,by decide,func291.trans (congrArg some (by kernel_rfl))⟩
 t0:=Tryz.underlying0
 a0:=Tryz.isAgg0
 z0:=Tryz.sizeOf0
 v0:=Tryz.zeroValue0
 t4:=Tryz.underlying4
 a4:=Tryz.isAgg4
 z4:=Tryz.sizeOf4
 v4:=Tryz.zeroValue4
 t23:=Tryz.underlying286
 a23:=Tryz.isAgg286
 z23:=Tryz.sizeOf286
 v23:=Tryz.zeroValue286
 t26:=Tryz.underlying2
 a26:=Tryz.isAgg2
 z26:=Tryz.sizeOf2
 v26:=Tryz.zeroValue2
 t27:=Tryz.underlying289
 a27:=Tryz.isAgg289
 z27:=Tryz.sizeOf289
 v27:=Tryz.zeroValue289
 t28:=Tryz.underlying290
 a28:=Tryz.isAgg290
 z28:=Tryz.sizeOf290
 v28:=Tryz.zeroValue290
 t33:=Tryz.underlying119
 a33:=Tryz.isAgg119
 z33:=Tryz.sizeOf119
 v33:=Tryz.zeroValue119 }
def Tryz.sortedA_ren:Go.Shelf.Ren:=⟨λ|6=>244|8=>289|9=>290|11=>347|13=>255|12=>348|23=>307|24=>308|14=>379|15=>380|16=>381|17=>382|18=>383|19=>384|20=>385|21=>386|22=>387|25=>401|26=>359|27=>360|28=>402|29=>403|30=>327|31=>409|n=>n,λ|26=>2|28=>290|24=>40|0=>0|3=>3|37=>301|48=>341|50=>343|4=>4|40=>335|39=>334|45=>243|5=>5|9=>9|51=>383|55=>387|57=>406|58=>407|33=>119|n=>n,λ|n=>n⟩
theorem Tryz.sortedA:Go.Proofs.SlLaysZI.n6 prog Tryz.sortedA_ren:={
 mixed:=by kernel_rfl
 f6:=⟨Tryz.f244.name,by decide,func244.trans (congrArg some (by kernel_rfl))⟩
 f8:=⟨Tryz.f289.name,by decide,func289.trans (congrArg some (by kernel_rfl))⟩
 f11:=⟨Tryz.f347.name,by decide,func347.trans (congrArg some (by kernel_rfl))⟩
 t0:=Tryz.underlying0
 a0:=Tryz.isAgg0
 z0:=Tryz.sizeOf0
 v0:=Tryz.zeroValue0
 t24:=Tryz.underlying40
 a24:=Tryz.isAgg40
 z24:=Tryz.sizeOf40
 v24:=Tryz.zeroValue40
 t26:=Tryz.underlying2
 a26:=Tryz.isAgg2
 z26:=Tryz.sizeOf2
 v26:=Tryz.zeroValue2
 t28:=Tryz.underlying290
 a28:=Tryz.isAgg290
 z28:=Tryz.sizeOf290
 v28:=Tryz.zeroValue290
 i26:=by kernel_rfl }
def Tryz.sortA_ren:Go.Shelf.Ren:=⟨λ|5=>290|8=>255|7=>348|19=>307|20=>308|10=>379|11=>380|12=>381|13=>382|14=>383|15=>384|16=>385|17=>386|18=>387|30=>401|31=>359|32=>360|33=>402|34=>403|35=>327|40=>409|n=>n,λ|23=>40|25=>2|3=>3|32=>301|22=>40|0=>0|44=>341|46=>343|4=>4|36=>335|35=>334|41=>243|5=>5|9=>9|53=>383|57=>387|63=>406|64=>407|n=>n,λ|n=>n⟩
theorem Tryz.sortA:Go.Proofs.SlLaysM.n5 prog Tryz.sortA_ren:={
 mixed:=by kernel_rfl
 f5:=⟨Tryz.f290.name,by decide,func290.trans (congrArg some (by kernel_rfl))⟩
 f7:=⟨Tryz.f348.name,by decide,func348.trans (congrArg some (by kernel_rfl))⟩
 f8:=func255.trans (congrArg some (by kernel_rfl))
 f10:=⟨Tryz.f379.name,by decide,func379.trans (congrArg some (by kernel_rfl))⟩
 f11:=⟨Tryz.f380.name,by decide,func380.trans (congrArg some (by kernel_rfl))⟩
 f12:=⟨Tryz.f381.name,by decide,func381.trans (congrArg some (by kernel_rfl))⟩
 f13:=⟨Tryz.f382.name,by decide,func382.trans (congrArg some (by kernel_rfl))⟩
 f14:=⟨Tryz.f383.name,by decide,func383.trans (congrArg some (by kernel_rfl))⟩
 f15:=⟨Tryz.f384.name,by decide,func384.trans (congrArg some (by kernel_rfl))⟩
 f16:=⟨Tryz.f385.name,by decide,func385.trans (congrArg some (by kernel_rfl))⟩
 f17:=⟨Tryz.f386.name,by decide,func386.trans (congrArg some (by kernel_rfl))⟩
 f18:=⟨Tryz.f387.name,by decide,func387.trans (congrArg some (by kernel_rfl))⟩
 f19:=func307.trans (congrArg some (by kernel_rfl))
 f20:=func308.trans (congrArg some (by kernel_rfl))
 f30:=⟨Tryz.f401.name,by decide,func401.trans (congrArg some (by kernel_rfl))⟩
 f31:=func359.trans (congrArg some (by kernel_rfl))
 f32:=func360.trans (congrArg some (by kernel_rfl))
 f33:=⟨Tryz.f402.name,by decide,func402.trans (congrArg some (by kernel_rfl))⟩
 f34:=⟨Tryz.f403.name,by decide,func403.trans (congrArg some (by kernel_rfl))⟩
 f35:=⟨Tryz.f327.name,by decide,func327.trans (congrArg some (by kernel_rfl))⟩
 f40:=⟨Tryz.f409.name,by decide,func409.trans (congrArg some (by kernel_rfl))⟩
 t0:=Tryz.underlying0
 a0:=Tryz.isAgg0
 z0:=Tryz.sizeOf0
 v0:=Tryz.zeroValue0
 t3:=Tryz.underlying3
 a3:=Tryz.isAgg3
 z3:=Tryz.sizeOf3
 v3:=Tryz.zeroValue3
 t4:=Tryz.underlying4
 a4:=Tryz.isAgg4
 z4:=Tryz.sizeOf4
 v4:=Tryz.zeroValue4
 t5:=Tryz.underlying5
 a5:=Tryz.isAgg5
 z5:=Tryz.sizeOf5
 v5:=Tryz.zeroValue5
 t9:=Tryz.underlying9
 a9:=Tryz.isAgg9
 z9:=Tryz.sizeOf9
 v9:=Tryz.zeroValue9
 t22:=Tryz.underlying40
 a22:=Tryz.isAgg40
 z22:=Tryz.sizeOf40
 v22:=Tryz.zeroValue40
 t23:=Tryz.underlying40
 a23:=Tryz.isAgg40
 z23:=Tryz.sizeOf40
 v23:=Tryz.zeroValue40
 t25:=Tryz.underlying2
 a25:=Tryz.isAgg2
 z25:=Tryz.sizeOf2
 v25:=Tryz.zeroValue2
 t32:=Tryz.underlying301
 a32:=Tryz.isAgg301
 z32:=Tryz.sizeOf301
 v32:=Tryz.zeroValue301
 t35:=Tryz.underlying334
 a35:=Tryz.isAgg334
 z35:=Tryz.sizeOf334
 v35:=Tryz.zeroValue334
 t36:=Tryz.underlying335
 a36:=Tryz.isAgg335
 z36:=Tryz.sizeOf335
 v36:=Tryz.zeroValue335
 t41:=Tryz.underlying243
 a41:=Tryz.isAgg243
 z41:=Tryz.sizeOf243
 v41:=Tryz.zeroValue243
 t44:=Tryz.underlying341
 a44:=Tryz.isAgg341
 z44:=Tryz.sizeOf341
 v44:=Tryz.zeroValue341
 t46:=Tryz.underlying343
 a46:=Tryz.isAgg343
 z46:=Tryz.sizeOf343
 v46:=Tryz.zeroValue343
 t53:=Tryz.underlying383
 a53:=Tryz.isAgg383
 z53:=Tryz.sizeOf383
 v53:=Tryz.zeroValue383
 t57:=Tryz.underlying387
 a57:=Tryz.isAgg387
 z57:=Tryz.sizeOf387
 v57:=Tryz.zeroValue387
 t63:=Tryz.underlying406
 a63:=Tryz.isAgg406
 z63:=Tryz.sizeOf406
 v63:=Tryz.zeroValue406
 t64:=Tryz.underlying407
 a64:=Tryz.isAgg407
 z64:=Tryz.sizeOf407
 v64:=Tryz.zeroValue407 }
end Go.Proofs
namespace Go.Proofs
open Go.Proofs.Tryz
open Go.Shelf
def Tryz.sortN_ren:Go.Shelf.Ren:=⟨λ|6=>249|15=>255|14=>296|28=>307|29=>308|20=>349|21=>350|22=>351|23=>352|24=>353|25=>354|26=>355|27=>356|46=>388|47=>359|48=>360|49=>389|50=>390|57=>404|n=>n,λ|22=>34|24=>62|25=>295|3=>3|39=>301|0=>0|53=>341|55=>343|4=>4|46=>335|45=>334|50=>243|5=>5|9=>9|66=>383|70=>387|76=>406|77=>407|n=>n,λ|n=>n⟩
theorem Tryz.sortN:Go.Proofs.SlLaysF0.n6 prog Tryz.sortN_ren:={
 mixed:=by kernel_rfl
 f6:=⟨Tryz.f249.name,by decide,func249.trans (congrArg some (by kernel_rfl))⟩
 f14:=⟨Tryz.f296.name,by decide,func296.trans (congrArg some (by kernel_rfl))⟩
 f15:=func255.trans (congrArg some (by kernel_rfl))
 f20:=⟨Tryz.f349.name,by decide,func349.trans (congrArg some (by kernel_rfl))⟩
 f21:=⟨Tryz.f350.name,by decide,func350.trans (congrArg some (by kernel_rfl))⟩
 f22:=⟨Tryz.f351.name,by decide,func351.trans (congrArg some (by kernel_rfl))⟩
 f23:=⟨Tryz.f352.name,by decide,func352.trans (congrArg some (by kernel_rfl))⟩
 f24:=⟨Tryz.f353.name,by decide,func353.trans (congrArg some (by kernel_rfl))⟩
 f25:=⟨Tryz.f354.name,by decide,func354.trans (congrArg some (by kernel_rfl))⟩
 f26:=⟨Tryz.f355.name,by decide,func355.trans (congrArg some (by kernel_rfl))⟩
 f27:=⟨Tryz.f356.name,by decide,func356.trans (congrArg some (by kernel_rfl))⟩
 f28:=func307.trans (congrArg some (by kernel_rfl))
 f29:=func308.trans (congrArg some (by kernel_rfl))
 f46:=⟨Tryz.f388.name,by decide,func388.trans (congrArg some (by kernel_rfl))⟩
 f47:=func359.trans (congrArg some (by kernel_rfl))
 f48:=func360.trans (congrArg some (by kernel_rfl))
 f49:=⟨Tryz.f389.name,by decide,func389.trans (congrArg some (by kernel_rfl))⟩
 f50:=⟨Tryz.f390.name,by decide,func390.trans (congrArg some (by kernel_rfl))⟩
 f57:=⟨Tryz.f404.name,by decide,func404.trans (congrArg some (by kernel_rfl))⟩
 t0:=Tryz.underlying0
 a0:=Tryz.isAgg0
 z0:=Tryz.sizeOf0
 v0:=Tryz.zeroValue0
 t3:=Tryz.underlying3
 a3:=Tryz.isAgg3
 z3:=Tryz.sizeOf3
 v3:=Tryz.zeroValue3
 t4:=Tryz.underlying4
 a4:=Tryz.isAgg4
 z4:=Tryz.sizeOf4
 v4:=Tryz.zeroValue4
 t5:=Tryz.underlying5
 a5:=Tryz.isAgg5
 z5:=Tryz.sizeOf5
 v5:=Tryz.zeroValue5
 t9:=Tryz.underlying9
 a9:=Tryz.isAgg9
 z9:=Tryz.sizeOf9
 v9:=Tryz.zeroValue9
 t22:=Tryz.underlying34
 a22:=Tryz.isAgg34
 z22:=Tryz.sizeOf34
 v22:=Tryz.zeroValue34
 t25:=Tryz.underlying295
 a25:=Tryz.isAgg295
 z25:=Tryz.sizeOf295
 v25:=Tryz.zeroValue295
 t39:=Tryz.underlying301
 a39:=Tryz.isAgg301
 z39:=Tryz.sizeOf301
 v39:=Tryz.zeroValue301
 t45:=Tryz.underlying334
 a45:=Tryz.isAgg334
 z45:=Tryz.sizeOf334
 v45:=Tryz.zeroValue334
 t46:=Tryz.underlying335
 a46:=Tryz.isAgg335
 z46:=Tryz.sizeOf335
 v46:=Tryz.zeroValue335
 t50:=Tryz.underlying243
 a50:=Tryz.isAgg243
 z50:=Tryz.sizeOf243
 v50:=Tryz.zeroValue243
 t53:=Tryz.underlying341
 a53:=Tryz.isAgg341
 z53:=Tryz.sizeOf341
 v53:=Tryz.zeroValue341
 t55:=Tryz.underlying343
 a55:=Tryz.isAgg343
 z55:=Tryz.sizeOf343
 v55:=Tryz.zeroValue343
 t66:=Tryz.underlying383
 a66:=Tryz.isAgg383
 z66:=Tryz.sizeOf383
 v66:=Tryz.zeroValue383
 t70:=Tryz.underlying387
 a70:=Tryz.isAgg387
 z70:=Tryz.sizeOf387
 v70:=Tryz.zeroValue387
 t76:=Tryz.underlying406
 a76:=Tryz.isAgg406
 z76:=Tryz.sizeOf406
 v76:=Tryz.zeroValue406
 t77:=Tryz.underlying407
 a77:=Tryz.isAgg407
 z77:=Tryz.sizeOf407
 v77:=Tryz.zeroValue407 }
end Go.Proofs
