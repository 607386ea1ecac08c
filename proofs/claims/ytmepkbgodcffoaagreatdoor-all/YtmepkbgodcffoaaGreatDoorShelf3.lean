/- The contracts of slices.Sort and slices.Compact of strings at this translation. -/
import Derived.Shelf.Sort.Plain
import Derived.Shelf.Slices.CompactS
import Derived.Test.YtmepkbgodcffoaaGreatDoorProg
namespace Go.Proofs
open Go.Shelf Tryz
theorem shz{α:Type}{a:Option α}{b c:α}(h:a=some b)(k:b=c:=by kernel_rfl):a=some c:=h.trans (congrArg some k)
def Tryz.lays190_ren : Go.Shelf.Ren := ⟨fun|190=>218|125=>244|258=>243|128=>274|129=>275|302=>265|303=>266|304=>267|305=>268|306=>269|307=>270|308=>271|309=>272|310=>273|333=>294|329=>295|330=>296|334=>297|335=>298|336=>299|344=>316|n=>n, fun|31=>31|9=>9|3=>3|46=>231|0=>0|51=>312|53=>269|4=>4|183=>305|182=>304|131=>134|5=>5|218=>332|222=>336|228=>354|229=>115|n=>n, fun|n=>n⟩
theorem Tryz.lays190 : Go.Proofs.Lays.n190 Tryz.prog Tryz.lays190_ren := {
 mixed:=by kernel_rfl
 f125:=shz func244
 f128:=shz func274
 f129:=shz func275
 f190:=shz func218
 f258:=shz func243
 f302:=shz func265
 f303:=shz func266
 f304:=shz func267
 f305:=shz func268
 f306:=shz func269
 f307:=shz func270
 f308:=shz func271
 f309:=shz func272
 f310:=shz func273
 f329:=shz func295
 f330:=shz func296
 f333:=shz func294
 f334:=shz func297
 f335:=shz func298
 f336:=shz func299
 f344:=shz func316
 t0:=underlying0
 a0:=isAgg0
 z0:=sizeOf0
 v0:=zeroValue0
 t3:=underlying3
 a3:=isAgg3
 z3:=sizeOf3
 v3:=zeroValue3
 t4:=underlying4
 a4:=isAgg4
 z4:=sizeOf4
 v4:=zeroValue4
 t5:=underlying5
 a5:=isAgg5
 z5:=sizeOf5
 v5:=zeroValue5
 t9:=underlying9
 a9:=isAgg9
 z9:=sizeOf9
 v9:=zeroValue9
 t31:=underlying31
 a31:=isAgg31
 z31:=sizeOf31
 v31:=zeroValue31
 t46:=underlying231
 a46:=isAgg231
 z46:=sizeOf231
 v46:=zeroValue231
 t51:=underlying312
 a51:=isAgg312
 z51:=sizeOf312
 v51:=zeroValue312
 t53:=underlying269
 a53:=isAgg269
 z53:=sizeOf269
 v53:=zeroValue269
 t131:=underlying134
 a131:=isAgg134
 z131:=sizeOf134
 v131:=zeroValue134
 t182:=underlying304
 a182:=isAgg304
 z182:=sizeOf304
 v182:=zeroValue304
 t183:=underlying305
 a183:=isAgg305
 z183:=sizeOf305
 v183:=zeroValue305
 t218:=underlying332
 a218:=isAgg332
 z218:=sizeOf332
 v218:=zeroValue332
 t222:=underlying336
 a222:=isAgg336
 z222:=sizeOf336
 v222:=zeroValue336
 t228:=underlying354
 a228:=isAgg354
 z228:=sizeOf354
 v228:=zeroValue354
 t229:=underlying115
 a229:=isAgg115
 z229:=sizeOf115
 v229:=zeroValue115 }
open Go.Sort Go.RowKit in
theorem Tryz.slices_Sort_string (blk off cap : Nat) (ss : List (List UInt8)) (w : World) (hH : Holds encStr w blk off ss.toArray) (hblk : blk < w.heap.size) (hsz : ss.length < 4611686018427387904) :
  Calls Tryz.prog 218 #[.slice (some ⟨blk, off, none⟩) ss.length cap] w fun e w' =>
   e = .returned (.tuple #[]) ∧ ∃ n os, w' = grow (putRow encStr (Sort.ahead w n) blk off (ss.mergeSort fun x y => decide (x ≤ y)).toArray) os := Any.slices_Sort_string Tryz.lays190 blk off cap ss w hH hblk hsz
def Tryz.lays194_ren : Go.Shelf.Ren := ⟨fun|194=>192|n=>n, fun|31=>31|9=>9|3=>3|4=>4|0=>0|n=>n, fun|n=>n⟩
theorem Tryz.lays194 : Go.Proofs.Lays.n194 Tryz.prog Tryz.lays194_ren := {
 mixed:=by kernel_rfl
 f194:=shz func192
 t0:=underlying0
 a0:=isAgg0
 z0:=sizeOf0
 v0:=zeroValue0
 t3:=underlying3
 a3:=isAgg3
 z3:=sizeOf3
 v3:=zeroValue3
 t4:=underlying4
 a4:=isAgg4
 z4:=sizeOf4
 v4:=zeroValue4
 t9:=underlying9
 a9:=isAgg9
 z9:=sizeOf9
 v9:=zeroValue9
 t31:=underlying31
 a31:=isAgg31
 z31:=sizeOf31
 v31:=zeroValue31 }
open Go.RowKit Go.Lib Go.Sort in
theorem Tryz.slices_Compact_string (blk off cap : Nat) (zs : List (List UInt8)) (w : World) (hH : Holds encStr w blk off zs.toArray) (hsz : zs.length ≤ 9223372036854775807) (hcap : zs.length ≤ cap) :
  Calls Tryz.prog 192 #[.slice (some ⟨blk, off, none⟩) zs.length cap] w fun e w' => e = .returned (.slice (some ⟨blk, off, none⟩) (Lib.compact zs).length cap) ∧ ∃ q, w' = putRow encStr (Sort.ahead w q) blk off (Lib.compact zs ++ List.replicate (zs.length - (Lib.compact zs).length) []).toArray := Any.slices_Compact_string Tryz.lays194 blk off cap zs w hH hsz hcap
end Go.Proofs
