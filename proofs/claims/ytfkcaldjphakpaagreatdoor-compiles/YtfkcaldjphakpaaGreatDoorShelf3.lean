/- The contracts of slices.Sort and slices.Compact of strings at this translation. -/
import Derived.Shelf.Sort.Plain
import Derived.Shelf.Slices.CompactS
import Derived.Test.YtfkcaldjphakpaaGreatDoorProg
namespace Go.Proofs
open Go.Shelf
def Tryz.lays190_ren : Go.Shelf.Ren := ⟨fun | 190 => 207 | 125 => 253 | 258 => 252 | 128 => 287 | 129 => 288 | 302 => 278 | 303 => 279 | 304 => 280 | 305 => 281 | 306 => 282 | 307 => 283 | 308 => 284 | 309 => 285 | 310 => 286 | 333 => 308 | 329 => 309 | 330 => 310 | 334 => 311 | 335 => 312 | 336 => 313 | 344 => 336 | n => n, fun | 31 => 62 | 9 => 9 | 3 => 3 | 46 => 275 | 0 => 0 | 51 => 315 | 53 => 317 | 4 => 4 | 183 => 309 | 182 => 308 | 131 => 198 | 5 => 5 | 218 => 336 | 222 => 340 | 228 => 359 | 229 => 186 | n => n, fun | n => n⟩
theorem Tryz.lays190 : Go.Proofs.Lays.n190 Tryz.prog Tryz.lays190_ren := {
  mixed := by kernel_rfl
  f125 := Tryz.func253.trans (congrArg some (by kernel_rfl))
  f128 := Tryz.func287.trans (congrArg some (by kernel_rfl))
  f129 := Tryz.func288.trans (congrArg some (by kernel_rfl))
  f190 := Tryz.func207.trans (congrArg some (by kernel_rfl))
  f258 := Tryz.func252.trans (congrArg some (by kernel_rfl))
  f302 := Tryz.func278.trans (congrArg some (by kernel_rfl))
  f303 := Tryz.func279.trans (congrArg some (by kernel_rfl))
  f304 := Tryz.func280.trans (congrArg some (by kernel_rfl))
  f305 := Tryz.func281.trans (congrArg some (by kernel_rfl))
  f306 := Tryz.func282.trans (congrArg some (by kernel_rfl))
  f307 := Tryz.func283.trans (congrArg some (by kernel_rfl))
  f308 := Tryz.func284.trans (congrArg some (by kernel_rfl))
  f309 := Tryz.func285.trans (congrArg some (by kernel_rfl))
  f310 := Tryz.func286.trans (congrArg some (by kernel_rfl))
  f329 := Tryz.func309.trans (congrArg some (by kernel_rfl))
  f330 := Tryz.func310.trans (congrArg some (by kernel_rfl))
  f333 := Tryz.func308.trans (congrArg some (by kernel_rfl))
  f334 := Tryz.func311.trans (congrArg some (by kernel_rfl))
  f335 := Tryz.func312.trans (congrArg some (by kernel_rfl))
  f336 := Tryz.func313.trans (congrArg some (by kernel_rfl))
  f344 := Tryz.func336.trans (congrArg some (by kernel_rfl))
  t0 := Tryz.underlying0
  a0 := Tryz.isAgg0
  z0 := Tryz.sizeOf0
  v0 := Tryz.zeroValue0
  t3 := Tryz.underlying3
  a3 := Tryz.isAgg3
  z3 := Tryz.sizeOf3
  v3 := Tryz.zeroValue3
  t4 := Tryz.underlying4
  a4 := Tryz.isAgg4
  z4 := Tryz.sizeOf4
  v4 := Tryz.zeroValue4
  t5 := Tryz.underlying5
  a5 := Tryz.isAgg5
  z5 := Tryz.sizeOf5
  v5 := Tryz.zeroValue5
  t9 := Tryz.underlying9
  a9 := Tryz.isAgg9
  z9 := Tryz.sizeOf9
  v9 := Tryz.zeroValue9
  t31 := Tryz.underlying62
  a31 := Tryz.isAgg62
  z31 := Tryz.sizeOf62
  v31 := Tryz.zeroValue62
  t46 := Tryz.underlying275
  a46 := Tryz.isAgg275
  z46 := Tryz.sizeOf275
  v46 := Tryz.zeroValue275
  t51 := Tryz.underlying315
  a51 := Tryz.isAgg315
  z51 := Tryz.sizeOf315
  v51 := Tryz.zeroValue315
  t53 := Tryz.underlying317
  a53 := Tryz.isAgg317
  z53 := Tryz.sizeOf317
  v53 := Tryz.zeroValue317
  t131 := Tryz.underlying198
  a131 := Tryz.isAgg198
  z131 := Tryz.sizeOf198
  v131 := Tryz.zeroValue198
  t182 := Tryz.underlying308
  a182 := Tryz.isAgg308
  z182 := Tryz.sizeOf308
  v182 := Tryz.zeroValue308
  t183 := Tryz.underlying309
  a183 := Tryz.isAgg309
  z183 := Tryz.sizeOf309
  v183 := Tryz.zeroValue309
  t218 := Tryz.underlying336
  a218 := Tryz.isAgg336
  z218 := Tryz.sizeOf336
  v218 := Tryz.zeroValue336
  t222 := Tryz.underlying340
  a222 := Tryz.isAgg340
  z222 := Tryz.sizeOf340
  v222 := Tryz.zeroValue340
  t228 := Tryz.underlying359
  a228 := Tryz.isAgg359
  z228 := Tryz.sizeOf359
  v228 := Tryz.zeroValue359
  t229 := Tryz.underlying186
  a229 := Tryz.isAgg186
  z229 := Tryz.sizeOf186
  v229 := Tryz.zeroValue186 }
open Go.Sort Go.RowKit in
theorem Tryz.slices_Sort_string (blk off cap : Nat) (ss : List (List UInt8)) (w : World) (hH : Holds encStr w blk off ss.toArray) (hblk : blk < w.heap.size) (hsz : ss.length < 4611686018427387904) :
    Calls Tryz.prog 207 #[.slice (some ⟨blk, off, none⟩) ss.length cap] w fun e w' =>
      e = .returned (.tuple #[]) ∧ ∃ n os, w' = grow (putRow encStr (Sort.ahead w n) blk off (ss.mergeSort fun x y => decide (x ≤ y)).toArray) os := Any.slices_Sort_string Tryz.lays190 blk off cap ss w hH hblk hsz
def Tryz.lays194_ren : Go.Shelf.Ren := ⟨fun | 194 => 165 | n => n, fun | 31 => 62 | 9 => 9 | 3 => 3 | 4 => 4 | 0 => 0 | n => n, fun | n => n⟩
theorem Tryz.lays194 : Go.Proofs.Lays.n194 Tryz.prog Tryz.lays194_ren := {
  mixed := by kernel_rfl
  f194 := Tryz.func165.trans (congrArg some (by kernel_rfl))
  t0 := Tryz.underlying0
  a0 := Tryz.isAgg0
  z0 := Tryz.sizeOf0
  v0 := Tryz.zeroValue0
  t3 := Tryz.underlying3
  a3 := Tryz.isAgg3
  z3 := Tryz.sizeOf3
  v3 := Tryz.zeroValue3
  t4 := Tryz.underlying4
  a4 := Tryz.isAgg4
  z4 := Tryz.sizeOf4
  v4 := Tryz.zeroValue4
  t9 := Tryz.underlying9
  a9 := Tryz.isAgg9
  z9 := Tryz.sizeOf9
  v9 := Tryz.zeroValue9
  t31 := Tryz.underlying62
  a31 := Tryz.isAgg62
  z31 := Tryz.sizeOf62
  v31 := Tryz.zeroValue62 }
open Go.RowKit Go.Lib Go.Sort in
theorem Tryz.slices_Compact_string (blk off cap : Nat) (zs : List (List UInt8)) (w : World) (hH : Holds encStr w blk off zs.toArray) (hsz : zs.length ≤ 9223372036854775807) (hcap : zs.length ≤ cap) :
    Calls Tryz.prog 165 #[.slice (some ⟨blk, off, none⟩) zs.length cap] w fun e w' => e = .returned (.slice (some ⟨blk, off, none⟩) (Lib.compact zs).length cap) ∧ ∃ q, w' = putRow encStr (Sort.ahead w q) blk off (Lib.compact zs ++ List.replicate (zs.length - (Lib.compact zs).length) []).toArray := Any.slices_Compact_string Tryz.lays194 blk off cap zs w hH hsz hcap
end Go.Proofs
