import Derived.Shelf.Spec.SearchS
import Derived.Shelf.Small.Wraps
import Derived.Shelf.Sort.Plain
import Derived.Shelf.Slices.Clone
import Derived.Shelf.Slices.SearchI
import Derived.Shelf.Slices.Cells
import Derived.Shelf.Slices.In.SortNone
import Derived.Shelf.SlicesE.DeleteFunc
import Derived.Test.YtmknpmamkjjiaaaProg
namespace Go.Proofs
open Go.Shelf
def Try.lays122_ren:Go.Shelf.Ren:=⟨fun|122=>75|215=>90|n=>n,fun|3=>3|4=>4|n=>n,fun|n=>n⟩
theorem Try.lays122:Go.Proofs.Lays.n122 Try.prog Try.lays122_ren:={
 mixed:=by kernel_rfl
 f122:=Try.func75.trans (congrArg some (by kernel_rfl))
 f215:=Try.func90.trans (congrArg some (by kernel_rfl))
 t3:=Try.underlying3
 a3:=Try.isAgg3
 z3:=Try.sizeOf3
 v3:=Try.zeroValue3
 t4:=Try.underlying4
 a4:=Try.isAgg4
 z4:=Try.sizeOf4
 v4:=Try.zeroValue4}
theorem Try.cmp_Compare_int_f75(x y:Int)(w:World):
 Calls Try.prog 75 #[.int .i64 x,.int .i64 y] w fun e w'=>e= .returned (.int .i64 (Lib.compareInt x y))/\w'=w:=Any.cmp_Compare_int Try.lays122 x y w
def Try.lays190_ren:Go.Shelf.Ren:=⟨fun|190=>52|125=>66|258=>65|128=>84|129=>85|302=>76|303=>77|304=>78|305=>79|306=>80|307=>81|308=>57|309=>82|310=>83|333=>91|329=>92|330=>93|334=>94|335=>95|336=>72|344=>97|n=>n,fun|31=>60|9=>9|3=>3|46=>93|0=>0|51=>111|53=>113|4=>4|183=>105|182=>104|131=>80|5=>5|218=>116|222=>120|228=>122|229=>123|n=>n,fun|n=>n⟩
theorem Try.lays190:Go.Proofs.Lays.n190 Try.prog Try.lays190_ren:={
 mixed:=by kernel_rfl
 f125:=Try.func66.trans (congrArg some (by kernel_rfl))
 f128:=Try.func84.trans (congrArg some (by kernel_rfl))
 f129:=Try.func85.trans (congrArg some (by kernel_rfl))
 f190:=Try.func52.trans (congrArg some (by kernel_rfl))
 f258:=Try.func65.trans (congrArg some (by kernel_rfl))
 f302:=Try.func76.trans (congrArg some (by kernel_rfl))
 f303:=Try.func77.trans (congrArg some (by kernel_rfl))
 f304:=Try.func78.trans (congrArg some (by kernel_rfl))
 f305:=Try.func79.trans (congrArg some (by kernel_rfl))
 f306:=Try.func80.trans (congrArg some (by kernel_rfl))
 f307:=Try.func81.trans (congrArg some (by kernel_rfl))
 f308:=Try.func57.trans (congrArg some (by kernel_rfl))
 f309:=Try.func82.trans (congrArg some (by kernel_rfl))
 f310:=Try.func83.trans (congrArg some (by kernel_rfl))
 f329:=Try.func92.trans (congrArg some (by kernel_rfl))
 f330:=Try.func93.trans (congrArg some (by kernel_rfl))
 f333:=Try.func91.trans (congrArg some (by kernel_rfl))
 f334:=Try.func94.trans (congrArg some (by kernel_rfl))
 f335:=Try.func95.trans (congrArg some (by kernel_rfl))
 f336:=Try.func72.trans (congrArg some (by kernel_rfl))
 f344:=Try.func97.trans (congrArg some (by kernel_rfl))
 t0:=Try.underlying0
 a0:=Try.isAgg0
 z0:=Try.sizeOf0
 v0:=Try.zeroValue0
 t3:=Try.underlying3
 a3:=Try.isAgg3
 z3:=Try.sizeOf3
 v3:=Try.zeroValue3
 t4:=Try.underlying4
 a4:=Try.isAgg4
 z4:=Try.sizeOf4
 v4:=Try.zeroValue4
 t5:=Try.underlying5
 a5:=Try.isAgg5
 z5:=Try.sizeOf5
 v5:=Try.zeroValue5
 t9:=Try.underlying9
 a9:=Try.isAgg9
 z9:=Try.sizeOf9
 v9:=Try.zeroValue9
 t31:=Try.underlying60
 a31:=Try.isAgg60
 z31:=Try.sizeOf60
 v31:=Try.zeroValue60
 t46:=Try.underlying93
 a46:=Try.isAgg93
 z46:=Try.sizeOf93
 v46:=Try.zeroValue93
 t51:=Try.underlying111
 a51:=Try.isAgg111
 z51:=Try.sizeOf111
 v51:=Try.zeroValue111
 t53:=Try.underlying113
 a53:=Try.isAgg113
 z53:=Try.sizeOf113
 v53:=Try.zeroValue113
 t131:=Try.underlying80
 a131:=Try.isAgg80
 z131:=Try.sizeOf80
 v131:=Try.zeroValue80
 t182:=Try.underlying104
 a182:=Try.isAgg104
 z182:=Try.sizeOf104
 v182:=Try.zeroValue104
 t183:=Try.underlying105
 a183:=Try.isAgg105
 z183:=Try.sizeOf105
 v183:=Try.zeroValue105
 t218:=Try.underlying116
 a218:=Try.isAgg116
 z218:=Try.sizeOf116
 v218:=Try.zeroValue116
 t222:=Try.underlying120
 a222:=Try.isAgg120
 z222:=Try.sizeOf120
 v222:=Try.zeroValue120
 t228:=Try.underlying122
 a228:=Try.isAgg122
 z228:=Try.sizeOf122
 v228:=Try.zeroValue122
 t229:=Try.underlying123
 a229:=Try.isAgg123
 z229:=Try.sizeOf123
 v229:=Try.zeroValue123}
open Go.Sort Go.RowKit in
theorem Try.slices_Sort_string(blk off cap:Nat)(ss:List (List UInt8))(w:World)(hH:Holds encStr w blk off ss.toArray)(hblk:blk<w.heap.size)(hsz:ss.length<4611686018427387904):
 Calls Try.prog 52 #[.slice (some ⟨blk,off,none⟩) ss.length cap] w fun e w'=>
 e= .returned (.tuple #[])/\∃ n os,w'=grow (putRow encStr (Sort.ahead w n) blk off (ss.mergeSort fun x y=>decide (x<=y)).toArray) os:=Any.slices_Sort_string Try.lays190 blk off cap ss w hH hblk hsz
def Try.lays99_ren:Go.Shelf.Ren:=⟨fun|99=>86|206=>96|n=>n,fun|9=>9|4=>4|3=>3|n=>n,fun|n=>n⟩
theorem Try.lays99:Go.Proofs.Lays.n99 Try.prog Try.lays99_ren:={
 mixed:=by kernel_rfl
 f99:=Try.func86.trans (congrArg some (by kernel_rfl))
 f206:=Try.func96.trans (congrArg some (by kernel_rfl))
 t3:=Try.underlying3
 a3:=Try.isAgg3
 z3:=Try.sizeOf3
 v3:=Try.zeroValue3
 t4:=Try.underlying4
 a4:=Try.isAgg4
 z4:=Try.sizeOf4
 v4:=Try.zeroValue4
 t9:=Try.underlying9
 a9:=Try.isAgg9
 z9:=Try.sizeOf9
 v9:=Try.zeroValue9}
open Go.RowKit Go.Lib in
theorem Try.strings_HasPrefix(s p:ByteArray)(w:World):
 Calls Try.prog 86 #[.string s,.string p] w fun e w'=>e= .returned (.bool (Lib.hasPrefix s.data.toList p.data.toList))/\w'=w:=Any.strings_HasPrefix Try.lays99 s p w
def Try.laysNm216_ren:Go.Shelf.Ren:=⟨fun|16=>88|n=>n,fun|24=>60|9=>9|4=>4|n=>n,fun|n=>n⟩
theorem Try.laysNm216:Go.Proofs.Lays2.n16 Try.prog Try.laysNm216_ren:={
 mixed:=by kernel_rfl
 f16:=Try.func88.trans (congrArg some (by kernel_rfl))
 t4:=Try.underlying4
 a4:=Try.isAgg4
 z4:=Try.sizeOf4
 v4:=Try.zeroValue4
 t9:=Try.underlying9
 a9:=Try.isAgg9
 z9:=Try.sizeOf9
 v9:=Try.zeroValue9
 t24:=Try.underlying60
 a24:=Try.isAgg60
 z24:=Try.sizeOf60
 v24:=Try.zeroValue60
 i9:=by kernel_rfl}
open Go.RowKit Go.Lib in
theorem Try.slices_Clone_string(b off n c:Nat)(zs:List ByteArray)(w:World)(hz:n<=zs.length)(hbig:n*16<=140737488355328)(hc:∀ j,j<zs.length ->w.cell? ⟨b,off+j,none⟩=some (.string (zs.getD j ByteArray.empty))):
 Calls Try.prog 88 #[.slice (some ⟨b,off,none⟩) n c] w fun e w'=>∃ v',e= .returned v'/\w'.ownsRow w.heap.size 9 1 v' n ((zs.take n).map (Value.string))/\v'≠ .slice none 0 0/\Below w.heap.size w w':=Any.slices_Clone_string Try.laysNm216 b off n c zs w hz hbig hc
open Go.RowKit Go.Lib in
theorem Try.slices_Clone_string_nil(n c:Nat)(w:World):
 Calls Try.prog 88 #[.slice none n c] w fun e w'=>e= .returned (.slice none 0 0)/\w'=w:=Any.slices_Clone_string_nil Try.laysNm216 n c w
open Go.RowKit Go.Lib in
theorem Try.slices_Clone_string_zero(a:Addr)(c:Nat)(w:World):
 Calls Try.prog 88 #[.slice (some a) 0 c] w fun e w'=>∃ v',e= .returned v'/\w'.ownsRow w.heap.size 9 1 v' 0 []/\v'≠ .slice none 0 0/\Below w.heap.size w w':=Any.slices_Clone_string_zero Try.laysNm216 a c w
def Try.lays194_ren:Go.Shelf.Ren:=⟨fun|194=>53|n=>n,fun|31=>60|9=>9|3=>3|4=>4|0=>0|n=>n,fun|n=>n⟩
theorem Try.lays194:Go.Proofs.Lays.n194 Try.prog Try.lays194_ren:={
 mixed:=by kernel_rfl
 f194:=Try.func53.trans (congrArg some (by kernel_rfl))
 t0:=Try.underlying0
 a0:=Try.isAgg0
 z0:=Try.sizeOf0
 v0:=Try.zeroValue0
 t3:=Try.underlying3
 a3:=Try.isAgg3
 z3:=Try.sizeOf3
 v3:=Try.zeroValue3
 t4:=Try.underlying4
 a4:=Try.isAgg4
 z4:=Try.sizeOf4
 v4:=Try.zeroValue4
 t9:=Try.underlying9
 a9:=Try.isAgg9
 z9:=Try.sizeOf9
 v9:=Try.zeroValue9
 t31:=Try.underlying60
 a31:=Try.isAgg60
 z31:=Try.sizeOf60
 v31:=Try.zeroValue60}
open Go.RowKit Go.Lib Go.Sort in
theorem Try.slices_Compact_string(blk off cap:Nat)(zs:List (List UInt8))(w:World)(hH:Holds encStr w blk off zs.toArray)(hsz:zs.length<=9223372036854775807)(hcap:zs.length<=cap):
 Calls Try.prog 53 #[.slice (some ⟨blk,off,none⟩) zs.length cap] w fun e w'=>e= .returned (.slice (some ⟨blk,off,none⟩) (Lib.compact zs).length cap)/\∃ q,w'=putRow encStr (Sort.ahead w q) blk off (Lib.compact zs++List.replicate (zs.length-(Lib.compact zs).length) []).toArray:=Any.slices_Compact_string Try.lays194 blk off cap zs w hH hsz hcap
open Go.RowKit Go.Lib Go.Sort in
theorem Try.slices_Compact_string_empty(a:Option Addr)(cap:Nat)(w:World):
 Calls Try.prog 53 #[.slice a 0 cap] w fun e w'=>e= .returned (.slice a 0 cap)/\w'=w:=Any.slices_Compact_string_empty Try.lays194 a cap w
open Go.RowKit Go.Sort in
theorem Try.slices_Sort_string_none(p:Option Addr)(cap:Nat)(w:World):
 Calls Try.prog 52 #[.slice p 0 cap] w fun e w'=>e= .returned (.tuple #[])/\w'=w:=Any.slices_Sort_string_none Try.lays190 p cap w
def Try.laysSlH6_f87_ren:Go.Shelf.Ren:=⟨fun|6=>87|n=>n,fun|22=>60|23=>9|25=>95|3=>3|0=>0|4=>4|n=>n,fun|n=>n⟩
theorem Try.laysSlH6_f87:Go.Proofs.SlLaysH.n6 Try.prog Try.laysSlH6_f87_ren:={
 mixed:=by kernel_rfl
 f6:=⟨Try.f87.name,by decide,Try.func87.trans (congrArg some (by kernel_rfl))⟩
 t0:=Try.underlying0
 a0:=Try.isAgg0
 z0:=Try.sizeOf0
 v0:=Try.zeroValue0
 t3:=Try.underlying3
 a3:=Try.isAgg3
 z3:=Try.sizeOf3
 v3:=Try.zeroValue3
 t4:=Try.underlying4
 a4:=Try.isAgg4
 z4:=Try.sizeOf4
 v4:=Try.zeroValue4
 t22:=Try.underlying60
 a22:=Try.isAgg60
 z22:=Try.sizeOf60
 v22:=Try.zeroValue60
 a23:=Try.isAgg9
 z23:=Try.sizeOf9
 t25:=Try.underlying95
 a25:=Try.isAgg95
 z25:=Try.sizeOf95
 v25:=Try.zeroValue95}
open Go.RowKit Go.Lib in
theorem Try.slices_IndexFunc_empty{α:Type}[Inhabited α](a:Option Addr)(c:Nat)(fv:Value)(w:World):
 Calls Try.prog 87 #[.slice a 0 c,fv] w fun e w'=>e= .returned (.int .i64 (-1))/\w'=w:=AnyE.slices_IndexFunc_empty Try.laysSlH6_f87 a c fv w
def Try.laysSlH10_f68_ren:Go.Shelf.Ren:=⟨fun|10=>68|6=>87|n=>n,fun|22=>60|23=>9|25=>95|3=>3|4=>4|0=>0|n=>n,fun|n=>n⟩
theorem Try.laysSlH10_f68:Go.Proofs.SlLaysH.n10 Try.prog Try.laysSlH10_f68_ren:={
 mixed:=by kernel_rfl
 f6:=⟨Try.f87.name,by decide,Try.func87.trans (congrArg some (by kernel_rfl))⟩
 f10:=⟨Try.f68.name,by decide,Try.func68.trans (congrArg some (by kernel_rfl))⟩
 t0:=Try.underlying0
 a0:=Try.isAgg0
 z0:=Try.sizeOf0
 v0:=Try.zeroValue0
 t3:=Try.underlying3
 a3:=Try.isAgg3
 z3:=Try.sizeOf3
 v3:=Try.zeroValue3
 t4:=Try.underlying4
 a4:=Try.isAgg4
 z4:=Try.sizeOf4
 v4:=Try.zeroValue4
 t22:=Try.underlying60
 a22:=Try.isAgg60
 z22:=Try.sizeOf60
 v22:=Try.zeroValue60
 a23:=Try.isAgg9
 z23:=Try.sizeOf9
 t25:=Try.underlying95
 a25:=Try.isAgg95
 z25:=Try.sizeOf95
 v25:=Try.zeroValue95}
open Go.RowKit Go.Lib Go.Sort in
theorem Try.slices_DeleteFunc{α:Type}[Inhabited α](enc:α ->Value)(hO:OneCell enc)(p:α ->Bool)(g:Nat)(lb:Array Value)(eg:∀ args w,(callFunc g args).run Try.prog w= .ok (.enter g args) w)(zr:α)(v23:∀ w,(zeroValue 9).run Try.prog w= .ok (enc zr) w)(blk off cap:Nat)(d:Array α)(w:World)(hp:PredAt Try.prog g lb enc p w)(hpo:PredOver Try.prog g lb enc p blk off d.size w)(hH:Holds enc w blk off d)(hsz:d.size<=9223372036854775807)(hcap:d.size<=cap):
 Calls Try.prog 68 #[.slice (some ⟨blk,off,none⟩) d.size cap,.func (.func g) #[] lb] w fun e w'=>e= .returned (.slice (some ⟨blk,off,none⟩) (d.toList.filter fun x=> !p x).length cap)/\∃ q,w'=putRow enc (Sort.ahead w q) blk off ((d.toList.filter fun x=> !p x)++List.replicate (d.size-(d.toList.filter fun x=> !p x).length) zr).toArray:=AnyE.slices_DeleteFunc Try.laysSlH10_f68 enc hO p g lb eg zr v23 blk off cap d w hp hpo hH hsz hcap
def Try.laysNm226_ren:Go.Shelf.Ren:=⟨fun|26=>42|33=>57|34=>58|38=>72|n=>n,fun|24=>60|9=>9|3=>3|4=>4|40=>93|0=>0|n=>n,fun|n=>n⟩
theorem Try.laysNm226:Go.Proofs.Lays2.n26 Try.prog Try.laysNm226_ren:={
 mixed:=by kernel_rfl
 f26:=Try.func42.trans (congrArg some (by kernel_rfl))
 f33:=Try.func57.trans (congrArg some (by kernel_rfl))
 f34:=Try.func58.trans (congrArg some (by kernel_rfl))
 f38:=Try.func72.trans (congrArg some (by kernel_rfl))
 t0:=Try.underlying0
 a0:=Try.isAgg0
 z0:=Try.sizeOf0
 v0:=Try.zeroValue0
 t3:=Try.underlying3
 a3:=Try.isAgg3
 z3:=Try.sizeOf3
 v3:=Try.zeroValue3
 t4:=Try.underlying4
 a4:=Try.isAgg4
 z4:=Try.sizeOf4
 v4:=Try.zeroValue4
 t9:=Try.underlying9
 a9:=Try.isAgg9
 z9:=Try.sizeOf9
 v9:=Try.zeroValue9
 t24:=Try.underlying60
 a24:=Try.isAgg60
 z24:=Try.sizeOf60
 v24:=Try.zeroValue60
 t40:=Try.underlying93
 a40:=Try.isAgg93
 z40:=Try.sizeOf93
 v40:=Try.zeroValue93}
open Go.RowKit Go.Lib in
theorem Try.slices_BinarySearch_string(b off n c:Nat)(Sx:Nat ->ByteArray)(x:ByteArray)(w:World)(hbig:n<4611686018427387904)(hc:∀ j,j<n ->w.cell? ⟨b,off+j,none⟩=some (.string (Sx j))):
 Calls Try.prog 42 #[.slice (some ⟨b,off,none⟩) n c,.string x] w fun e w'=>e= .returned (.tuple #[.int .i64 (Lib.bsGo (fun t=>Op.bytesLess (Sx t).toList x.toList) n 0 n:Nat),.bool (decide (Lib.bsGo (fun t=>Op.bytesLess (Sx t).toList x.toList) n 0 n<n/\Sx (Lib.bsGo (fun t=>Op.bytesLess (Sx t).toList x.toList) n 0 n)=x))])/\∃ q,w'=w.drewN q:=Any2.slices_BinarySearch_string Try.laysNm226 b off n c Sx x w hbig hc
open Go.RowKit Go.Lib in
theorem Try.slices_BinarySearch_string_empty(a:Option Addr)(c:Nat)(x:ByteArray)(w:World):
 Calls Try.prog 42 #[.slice a 0 c,.string x] w fun e w'=>e= .returned (.tuple #[.int .i64 0,.bool false])/\w'=w:=Any2.slices_BinarySearch_string_empty Try.laysNm226 a c x w
end Go.Proofs
