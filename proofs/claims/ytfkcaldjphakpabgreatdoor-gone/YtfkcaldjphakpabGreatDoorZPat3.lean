/- from: the ends that one more piece can reach. -/
import Derived.Test.YtfkcaldjphakpabGreatDoorP09
import Derived.Test.YtfkcaldjphakpabGreatDoorP11
import Derived.Deep.QuietTactic
import Derived.BigQuiet
import Derived.Deep.OwnRows
import Derived.Deep.RegionHeld3
namespace Go.Proofs.YtfkcaldjphakpabGreatDoor
open Go.RowKit
theorem jb2 : (Tryz.prog.info? 4).map (fun i => (i.zero, i.size, i.bytes)) = some (some (.bool false), 1, 1) := by kernel_rfl
def BoolsAt (w : World) (b n : Nat) (e : Nat → Bool) : Prop := ∀ j, j ≤ n → w.cell? ⟨b, j, none⟩ = some (.bool (e j))
def qt4 (p : Pc) (t : List UInt8) (e : Nat → Bool) (k : Nat) : Nat → Value := fun j => .bool (if j ≤ k then nextB p t e j else false)
structure FromAt (w W : World) (p : Pc) (t : ByteArray) (e : Nat → Bool) (m k : Nat) : Prop where
  row : W.rowIs (w.heap.size + 1) 4 m (qt4 p t.data.toList e k)
  c0 : W.cell? ⟨w.heap.size, 0, none⟩ = some (.int .i64 p.kind)
  c1 : W.cell? ⟨w.heap.size, 1, none⟩ = some (.int .u8 p.c.toNat)
  lt : w.heap.size + 1 < W.heap.size
  below : Below w.heap.size w W
theorem getD_at (t : ByteArray) (k : Nat) (h : k < t.size) : t.data.toList.getD k 0 = t[k] := by
  rw [List.getD_eq_getElem?_getD, List.getElem?_eq_getElem (by rw [qb3]; exact h), qc7 t k h]; rfl
theorem FromAt.drew {w W : World} {p : Pc} {t : ByteArray} {e : Nat → Bool} {m k : Nat} (h : FromAt w W p t e m k) : FromAt w W.drew p t e m k := ⟨h.row.drew, h.c0, h.c1, h.lt, h.below.drew⟩
theorem FromAt.step {w W : World} {p : Pc} {t : ByteArray} {e : Nat → Bool} {m k : Nat} (h : FromAt w W p t e m k) (v : Bool) (hv : nextB p t.data.toList e (k + 1) = v) : FromAt w (W.setCell ⟨w.heap.size + 1, k + 1, none⟩ (.bool v)) p t e m (k + 1) := by
  refine ⟨(h.row.set (k + 1) (.bool v)).congr fun i _ => ?_, ?_, ?_, by simpa using h.lt, h.below.setCell (by show w.heap.size ≤ w.heap.size + 1; omega) _⟩
  · unfold qt4
    by_cases hi : i = k + 1
    · subst hi; simp [hv]
    · rw [if_neg hi]
      by_cases hl : i ≤ k
      · rw [if_pos hl, if_pos (by omega)]
      · rw [if_neg hl, if_neg (by omega)]
  · simp [go_sem, h.c0]
  · simp [go_sem, h.c1]
theorem jd8 (w : World) (p : Pc) (t : ByteArray) (e : Nat → Bool) (m : Nat) (hk : (p.kind == 2) = true) : FromAt w ((w.alloc (.cells #[.int .i64 p.kind, .int .u8 p.c.toNat] 257)).alloc (.cells ((madeCells #[.bool false] m).setIfInBounds 0 (.bool (e 0))) 4)) p t e m 0 := by
  have hz : ((madeCells #[.bool false] m).setIfInBounds 0 (Value.bool (e 0))).size = m := by rw [Array.size_setIfInBounds]; exact size_madeCells _ _
  have hr := World.rowIs_alloc (w.alloc (.cells #[.int .i64 p.kind, .int .u8 p.c.toNat] 257)) ((madeCells #[.bool false] m).setIfInBounds 0 (.bool (e 0))) 4 (qt4 p t.data.toList e 0) (fun i hi => by
    rw [hz] at hi
    rw [Array.getElem?_setIfInBounds]
    by_cases h0 : i = 0
    · subst h0
      rw [if_pos rfl, if_pos (by rw [size_madeCells _ _]; exact hi), qt4, if_pos (Nat.le_refl _), nextB, hk]; rfl
    · rw [if_neg (fun h => h0 h.symm), qt4, if_neg (by omega)]
      simp [madeCells, hi, Nat.mod_one])
  rw [hz, show (w.alloc (.cells #[.int .i64 p.kind, .int .u8 p.c.toNat] 257)).heap.size = w.heap.size + 1 by simp] at hr
  refine ⟨hr, ?_, ?_, by simp, qh1 _ _ _⟩
  · rw [World.cell?_alloc_past _ _ _ (by simp), World.cell?_alloc_at _ _ _ _ rfl]; rfl
  · rw [World.cell?_alloc_past _ _ _ (by simp), World.cell?_alloc_at _ _ _ _ rfl]; rfl
theorem jg1 (w : World) (p : Pc) (t : ByteArray) (e : Nat → Bool) (m : Nat) (hk : (p.kind == 2) = false) : FromAt w ((w.alloc (.cells #[.int .i64 p.kind, .int .u8 p.c.toNat] 257)).alloc (.cells (madeCells #[.bool false] m) 4)) p t e m 0 := by
  have hr := World.rowIs_made (w.alloc (.cells #[.int .i64 p.kind, .int .u8 p.c.toNat] 257)) (.bool false) m 4
  rw [show (w.alloc (.cells #[.int .i64 p.kind, .int .u8 p.c.toNat] 257)).heap.size = w.heap.size + 1 by simp] at hr
  refine ⟨hr.congr fun i _ => ?_, ?_, ?_, by simp, qh1 _ _ _⟩
  · unfold qt4
    split
    · rename_i h; obtain rfl : i = 0 := by omega
      rw [nextB, hk]; rfl
    · rfl
  · rw [World.cell?_alloc_past _ _ _ (by simp), World.cell?_alloc_at _ _ _ _ rfl]; rfl
  · rw [World.cell?_alloc_past _ _ _ (by simp), World.cell?_alloc_at _ _ _ _ rfl]; rfl
set_option maxHeartbeats 2000000 in
set_option maxRecDepth 100000 in
theorem from_any (p : Pc) (e : Nat → Bool) (eb cap : Nat) (t : ByteArray) (ht : t.size ≤ 1000) (w : World) (he : BoolsAt w eb t.size e) (hlt : eb < w.heap.size) :
    Calls Tryz.prog 196 #[pcV p, .slice (some ⟨eb, 0, none⟩) (t.size + 1) cap, .string t] w fun en w' => ∃ nb, en = .returned (.slice (some ⟨nb, 0, none⟩) (t.size + 1) (t.size + 1)) ∧ w.heap.size ≤ nb ∧ nb < w'.heap.size ∧ BoolsAt w' nb t.size (nextB p t.data.toList e) ∧ Below w.heap.size w w' := by
  obtain ⟨m, hm⟩ : ∃ m, t.size + 1 = m := ⟨_, rfl⟩
  have hmk := run_make_row' (P := Tryz.prog) 254 4 (.bool false) 1 Tryz.underlying254 jb2 rfl .i64 .i64 m (by omega) (by omega)
  rw [hm]
  have hm0 : 0 < m := by omega
  have HE := v6 he
  have e0 := he 0 (Nat.zero_le _)
  have l1 : eb < w.heap.size + 1 := by omega
  have d0 : ¬ w.heap.size + 1 = eb := by omega
  have d1 : ¬ eb = w.heap.size + 1 := by omega
  have ROW0 := v6 (World.rowIs_made (w.alloc (.cells #[.int .i64 p.kind, .int .u8 p.c.toNat] 257)) (.bool false) m 4)
  have hrc := (q9 ROW0).cell (i := 0) hm0
  have hrf := (q9 ROW0).frozen 0
  rw [show (w.alloc (.cells #[.int .i64 p.kind, .int .u8 p.c.toNat] 257)).heap.size = w.heap.size + 1 by simp] at hrc hrf ROW0
  clear he
  cases hk2 : (p.kind == 2)
  · have ST : Hid (FromAt w ((w.alloc (.cells #[.int .i64 p.kind, .int .u8 p.c.toNat] 257)).alloc (.cells (madeCells #[.bool false] m) 4)) p t e m 0) := v6 (jg1 w p t e m hk2)
    conv => arg 3; simp only [pcV]
    go_enter Tryz.func196, Tryz.ntmps196
    go_wp2_with fail
    clear hrc hrf e0 ROW0
    go_loopw [22] (fun i wr => ∃ k : Nat, k ≤ t.size ∧ i = .int .i64 k ∧ Hid (FromAt w wr p t e m k)) (fun i _ => t.size - (intOf i).toNat)
    case atStart => exact ⟨0, Nat.zero_le _, rfl, ST⟩
    case round =>
      obtain ⟨k, hk, rfl, hF⟩ := hrel
      have fc0 := (q9 hF).c0
      have fc1 := (q9 hF).c1
      have hz := (q9 hF).lt
      by_cases hlt : k < t.size
      · have ek := ((q9 hF).below.cell (p := ⟨eb, k, none⟩) (by assumption)).trans (q9 HE k (by omega))
        have rk := (q9 hF).row.cell (i := k + 1) (by omega)
        have rf := (q9 hF).row.frozen (k + 1)
        have hkm : k + 1 < m := by omega
        have hkm' : k < m := by omega
        have hi0 : (0 : Int) ≤ (k : Int) + 1 := by omega
        have hi1 : (k : Int) + 1 < (m : Int) := by omega
        have hi2 : (0 : Int) ≤ (k : Int) := by omega
        have hi3 : (k : Int) < (m : Int) := by omega
        have hi4 : (k : Int) < (t.size : Int) := by omega
        have hwr : IntKind.i64.wrap ((k : Int) + 1) = (k : Int) + 1 := IntWalk.i64_in _ (by omega)
        cases hk1 : (p.kind == 1)
        · cases hek : e k
          · rw [hek] at ek
            go_wp2_with fail
            go_region
            all_goals
              go_wp2_with fail
              go_roundw
              case rel => exact ⟨k + 1, by omega, by go_num, v6 ((q9 hF).drew.step _ (by rw [nextB, hk2, hk1, hek]; simp))⟩
              case measure => simp [intOf]; omega
          · rw [hek] at ek
            cases hx : (t[k] == p.c)
            all_goals
              have hx' := (vi7 t[k] p.c).trans hx
              go_wp2_with fail
              go_region_held3 (fun W => W.cell? ⟨eb, k, none⟩ = some (.bool true) ∧ W.cell? ⟨w.heap.size, 1, none⟩ = some (.int .u8 p.c.toNat)) (go_keep) (fail)
              go_wp2_with fail
              go_roundw
              case rel => exact ⟨k + 1, by omega, by go_num, v6 ((q9 hF).drew.step _ (by rw [nextB, hk2, hk1, hek, getD_at t k hlt, hx]; simp))⟩
              case measure => simp [intOf]; omega
        · obtain ⟨bk, hbk⟩ : ∃ b, e k = b := ⟨_, rfl⟩
          rw [hbk] at ek
          go_wp2_with fail
          go_roundw
          case rel => exact ⟨k + 1, by omega, by go_num, v6 ((q9 hF).step _ (by rw [nextB, hk2, hk1, hbk]; simp))⟩
          case measure => simp [intOf]; omega
      · go_wp2_with fail
        go_ret
        obtain rfl : k = t.size := by omega
        exact ⟨_, rfl, by omega, hz, fun j hj => by have := (q9 hF).row.cell (i := j) (by omega); rw [this, qt4, if_pos hj], (q9 hF).below⟩
  · have ST : Hid (FromAt w ((w.alloc (.cells #[.int .i64 p.kind, .int .u8 p.c.toNat] 257)).alloc (.cells ((madeCells #[.bool false] m).setIfInBounds 0 (.bool (e 0))) 4)) p t e m 0) := v6 (jd8 w p t e m hk2)
    conv => arg 3; simp only [pcV]
    go_enter Tryz.func196, Tryz.ntmps196
    go_wp2_with fail
    clear hrc hrf e0 ROW0
    go_loopw [22] (fun i wr => ∃ k : Nat, k ≤ t.size ∧ i = .int .i64 k ∧ Hid (FromAt w wr p t e m k)) (fun i _ => t.size - (intOf i).toNat)
    case atStart => exact ⟨0, Nat.zero_le _, rfl, ST⟩
    case round =>
      obtain ⟨k, hk, rfl, hF⟩ := hrel
      have fc0 := (q9 hF).c0
      have hz := (q9 hF).lt
      by_cases hlt : k < t.size
      · have ek := ((q9 hF).below.cell (p := ⟨eb, k + 1, none⟩) (by assumption)).trans (q9 HE (k + 1) (by omega))
        have rk := (q9 hF).row.cell (i := k + 1) (by omega)
        have rf := (q9 hF).row.frozen (k + 1)
        have rk0 : wr.cell? ⟨w.heap.size + 1, k, none⟩ = some (.bool (nextB p t.data.toList e k)) := by have := (q9 hF).row.cell (i := k) (by omega); rw [this, qt4, if_pos (Nat.le_refl _)]
        obtain ⟨nk, hnk⟩ : ∃ b, nextB p t.data.toList e k = b := ⟨_, rfl⟩
        rw [hnk] at rk0
        have HNK := v6 hnk
        clear hnk
        have hkm : k + 1 < m := by omega
        have hkm' : k < m := by omega
        have hi0 : (0 : Int) ≤ (k : Int) + 1 := by omega
        have hi1 : (k : Int) + 1 < (m : Int) := by omega
        cases hek : e (k + 1)
        all_goals
          rw [hek] at ek
          go_wp2_with fail
          go_roundw
          case rel => exact ⟨k + 1, by omega, by go_num, v6 ((q9 hF).step _ (by rw [nextB, hk2, hek, q9 HNK]; simp))⟩
          case measure => simp [intOf]; omega
      · go_wp2_with fail
        go_ret
        obtain rfl : k = t.size := by omega
        exact ⟨_, rfl, by omega, hz, fun j hj => by have := (q9 hF).row.cell (i := j) (by omega); rw [this, qt4, if_pos hj], (q9 hF).below⟩
end Go.Proofs.YtfkcaldjphakpabGreatDoor
