/- The contracts of slices.Sort and slices.Compact of strings at this translation. -/
import Derived.Shelf.Sort.Plain
import Derived.Shelf.Slices.CompactS
import Derived.Test.YtfkcaldjphakpaaGreatDoorProg
namespace Go.Proofs
open Go.Shelf Tryz
theorem shz{α:Type}{a:Option α}{b c:α}(h:a=some b)(k:b=c:=by kernel_rfl):a=some c:=h.trans (congrArg some k)
def Tryz.lays190_ren : Go.Shelf.Ren := ⟨fun|190=>207|125=>253|258=>252|128=>287|129=>288|302=>278|303=>279|304=>280|305=>281|306=>282|307=>283|308=>284|309=>285|310=>286|333=>308|329=>309|330=>310|334=>311|335=>312|336=>313|344=>336|n=>n, fun|31=>62|9=>9|3=>3|46=>275|0=>0|51=>315|53=>317|4=>4|183=>309|182=>308|131=>198|5=>5|218=>336|222=>340|228=>359|229=>186|n=>n, fun|n=>n⟩
theorem Tryz.lays190 : Go.Proofs.Lays.n190 Tryz.prog Tryz.lays190_ren := {
 mixed:=by kernel_rfl
 f125:=shz func253
 f128:=shz func287
 f129:=shz func288
 f190:=shz func207
 f258:=shz func252
 f302:=shz func278
 f303:=shz func279
 f304:=shz func280
 f305:=shz func281
 f306:=shz func282
 f307:=shz func283
 f308:=shz func284
 f309:=shz func285
 f310:=shz func286
 f329:=shz func309
 f330:=shz func310
 f333:=shz func308
 f334:=shz func311
 f335:=shz func312
 f336:=shz func313
 f344:=shz func336
 t0:=underlying0
 a0:=isAgg0
 z0:=sizeOf0
 v0:=zeroValue0
 t3:=underlying3
 a3:=isAgg3
 z3:=sizeOf3
 v3:=zeroValue3
 t4:=underlying4
 a4:=isAgg4
 z4:=sizeOf4
 v4:=zeroValue4
 t5:=underlying5
 a5:=isAgg5
 z5:=sizeOf5
 v5:=zeroValue5
 t9:=underlying9
 a9:=isAgg9
 z9:=sizeOf9
 v9:=zeroValue9
 t31:=underlying62
 a31:=isAgg62
 z31:=sizeOf62
 v31:=zeroValue62
 t46:=underlying275
 a46:=isAgg275
 z46:=sizeOf275
 v46:=zeroValue275
 t51:=underlying315
 a51:=isAgg315
 z51:=sizeOf315
 v51:=zeroValue315
 t53:=underlying317
 a53:=isAgg317
 z53:=sizeOf317
 v53:=zeroValue317
 t131:=underlying198
 a131:=isAgg198
 z131:=sizeOf198
 v131:=zeroValue198
 t182:=underlying308
 a182:=isAgg308
 z182:=sizeOf308
 v182:=zeroValue308
 t183:=underlying309
 a183:=isAgg309
 z183:=sizeOf309
 v183:=zeroValue309
 t218:=underlying336
 a218:=isAgg336
 z218:=sizeOf336
 v218:=zeroValue336
 t222:=underlying340
 a222:=isAgg340
 z222:=sizeOf340
 v222:=zeroValue340
 t228:=underlying359
 a228:=isAgg359
 z228:=sizeOf359
 v228:=zeroValue359
 t229:=underlying186
 a229:=isAgg186
 z229:=sizeOf186
 v229:=zeroValue186 }
open Go.Sort Go.RowKit in
theorem Tryz.slices_Sort_string (blk off cap : Nat) (ss : List (List UInt8)) (w : World) (hH : Holds encStr w blk off ss.toArray) (hblk : blk < w.heap.size) (hsz : ss.length < 4611686018427387904) :
  Calls Tryz.prog 207 #[.slice (some ⟨blk, off, none⟩) ss.length cap] w fun e w' =>
   e = .returned (.tuple #[]) ∧ ∃ n os, w' = grow (putRow encStr (Sort.ahead w n) blk off (ss.mergeSort fun x y => decide (x ≤ y)).toArray) os := Any.slices_Sort_string Tryz.lays190 blk off cap ss w hH hblk hsz
def Tryz.lays194_ren : Go.Shelf.Ren := ⟨fun|194=>165|n=>n, fun|31=>62|9=>9|3=>3|4=>4|0=>0|n=>n, fun|n=>n⟩
theorem Tryz.lays194 : Go.Proofs.Lays.n194 Tryz.prog Tryz.lays194_ren := {
 mixed:=by kernel_rfl
 f194:=shz func165
 t0:=underlying0
 a0:=isAgg0
 z0:=sizeOf0
 v0:=zeroValue0
 t3:=underlying3
 a3:=isAgg3
 z3:=sizeOf3
 v3:=zeroValue3
 t4:=underlying4
 a4:=isAgg4
 z4:=sizeOf4
 v4:=zeroValue4
 t9:=underlying9
 a9:=isAgg9
 z9:=sizeOf9
 v9:=zeroValue9
 t31:=underlying62
 a31:=isAgg62
 z31:=sizeOf62
 v31:=zeroValue62 }
open Go.RowKit Go.Lib Go.Sort in
theorem Tryz.slices_Compact_string (blk off cap : Nat) (zs : List (List UInt8)) (w : World) (hH : Holds encStr w blk off zs.toArray) (hsz : zs.length ≤ 9223372036854775807) (hcap : zs.length ≤ cap) :
  Calls Tryz.prog 165 #[.slice (some ⟨blk, off, none⟩) zs.length cap] w fun e w' => e = .returned (.slice (some ⟨blk, off, none⟩) (Lib.compact zs).length cap) ∧ ∃ q, w' = putRow encStr (Sort.ahead w q) blk off (Lib.compact zs ++ List.replicate (zs.length - (Lib.compact zs).length) []).toArray := Any.slices_Compact_string Tryz.lays194 blk off cap zs w hH hsz hcap
end Go.Proofs
