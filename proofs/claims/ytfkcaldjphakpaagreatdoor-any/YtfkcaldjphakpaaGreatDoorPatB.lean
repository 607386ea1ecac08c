/- from: the ends that one more piece can reach. Fits. -/
import Derived.Test.YtfkcaldjphakpaaGreatDoorPatA
import Derived.Test.YtfkcaldjphakpaaGreatDoorClA
import Derived.Deep.QuietTactic
import Derived.BigQuiet
import Derived.Deep.OwnRows
import Derived.Deep.RegionHeld3
namespace Go.Proofs.YtfkcaldjphakpaaGreatDoor
open Go.RowKit

section
theorem info_bool : (Tryz.prog.info? 4).map (fun i => (i.zero, i.size, i.bytes)) = some (some (.bool false), 1, 1) := by kernel_rfl

/-- Bools lie in a row. -/
def BoolsAt (w : World) (b n : Nat) (e : Nat → Bool) : Prop := ∀ j, j ≤ n → w.cell? ⟨b, j, none⟩ = some (.bool (e j))

/-- What the row of next holds behind k rounds. -/
def nextRow (p : Pc) (t : List UInt8) (e : Nat → Bool) (k : Nat) : Nat → Value := fun j => .bool (if j ≤ k then nextB p t e j else false)

structure FromAt (w W : World) (p : Pc) (t : ByteArray) (e : Nat → Bool) (m k : Nat) : Prop where
  row : W.rowIs (w.heap.size + 1) 4 m (nextRow p t.data.toList e k)
  c0 : W.cell? ⟨w.heap.size, 0, none⟩ = some (.int .i64 p.kind)
  c1 : W.cell? ⟨w.heap.size, 1, none⟩ = some (.int .u8 p.c.toNat)
  lt : w.heap.size + 1 < W.heap.size
  below : Below w.heap.size w W

theorem getD_at (t : ByteArray) (k : Nat) (h : k < t.size) : t.data.toList.getD k 0 = t[k] := by
  rw [List.getD_eq_getElem?_getD, List.getElem?_eq_getElem (by rw [data_len]; exact h), data_getElem t k h]; rfl

theorem FromAt.drew {w W : World} {p : Pc} {t : ByteArray} {e : Nat → Bool} {m k : Nat} (h : FromAt w W p t e m k) : FromAt w W.drew p t e m k := ⟨h.row.drew, h.c0, h.c1, h.lt, h.below.drew⟩

theorem FromAt.step {w W : World} {p : Pc} {t : ByteArray} {e : Nat → Bool} {m k : Nat} (h : FromAt w W p t e m k) (v : Bool) (hv : nextB p t.data.toList e (k + 1) = v) : FromAt w (W.setCell ⟨w.heap.size + 1, k + 1, none⟩ (.bool v)) p t e m (k + 1) := by
  refine ⟨(h.row.set (k + 1) (.bool v)).congr fun i _ => ?_, ?_, ?_, by simpa using h.lt, h.below.setCell (by show w.heap.size ≤ w.heap.size + 1; omega) _⟩
  · unfold nextRow
    by_cases hi : i = k + 1
    · subst hi; simp [hv]
    · rw [if_neg hi]
      by_cases hl : i ≤ k
      · rw [if_pos hl, if_pos (by omega)]
      · rw [if_neg hl, if_neg (by omega)]
  · simp [go_sem, h.c0]
  · simp [go_sem, h.c1]

theorem from_start1 (w : World) (p : Pc) (t : ByteArray) (e : Nat → Bool) (m : Nat) (hk : (p.kind == 2) = true) : FromAt w ((w.alloc (.cells #[.int .i64 p.kind, .int .u8 p.c.toNat] 262)).alloc (.cells ((madeCells #[.bool false] m).setIfInBounds 0 (.bool (e 0))) 4)) p t e m 0 := by
  have hz : ((madeCells #[.bool false] m).setIfInBounds 0 (Value.bool (e 0))).size = m := by rw [Array.size_setIfInBounds]; exact size_madeCells _ _
  have hr := World.rowIs_alloc (w.alloc (.cells #[.int .i64 p.kind, .int .u8 p.c.toNat] 262)) ((madeCells #[.bool false] m).setIfInBounds 0 (.bool (e 0))) 4 (nextRow p t.data.toList e 0) (fun i hi => by
    rw [hz] at hi
    rw [Array.getElem?_setIfInBounds]
    by_cases h0 : i = 0
    · subst h0
      rw [if_pos rfl, if_pos (by rw [size_madeCells _ _]; exact hi), nextRow, if_pos (Nat.le_refl _), nextB, hk]; rfl
    · rw [if_neg (fun h => h0 h.symm), nextRow, if_neg (by omega)]
      simp [madeCells, hi, Nat.mod_one])
  rw [hz, show (w.alloc (.cells #[.int .i64 p.kind, .int .u8 p.c.toNat] 262)).heap.size = w.heap.size + 1 by simp] at hr
  refine ⟨hr, ?_, ?_, by simp, below2 _ _ _⟩
  · rw [World.cell?_alloc_past _ _ _ (by simp), World.cell?_alloc_at _ _ _ _ rfl]; rfl
  · rw [World.cell?_alloc_past _ _ _ (by simp), World.cell?_alloc_at _ _ _ _ rfl]; rfl

theorem from_start0 (w : World) (p : Pc) (t : ByteArray) (e : Nat → Bool) (m : Nat) (hk : (p.kind == 2) = false) : FromAt w ((w.alloc (.cells #[.int .i64 p.kind, .int .u8 p.c.toNat] 262)).alloc (.cells (madeCells #[.bool false] m) 4)) p t e m 0 := by
  have hr := World.rowIs_made (w.alloc (.cells #[.int .i64 p.kind, .int .u8 p.c.toNat] 262)) (.bool false) m 4
  rw [show (w.alloc (.cells #[.int .i64 p.kind, .int .u8 p.c.toNat] 262)).heap.size = w.heap.size + 1 by simp] at hr
  refine ⟨hr.congr fun i _ => ?_, ?_, ?_, by simp, below2 _ _ _⟩
  · unfold nextRow
    split
    · rename_i h; obtain rfl : i = 0 := by omega
      rw [nextB, hk]; rfl
    · rfl
  · rw [World.cell?_alloc_past _ _ _ (by simp), World.cell?_alloc_at _ _ _ _ rfl]; rfl
  · rw [World.cell?_alloc_past _ _ _ (by simp), World.cell?_alloc_at _ _ _ _ rfl]; rfl

set_option maxHeartbeats 2000000 in
set_option maxRecDepth 100000 in
theorem from_any (p : Pc) (e : Nat → Bool) (eb cap : Nat) (t : ByteArray) (ht : t.size ≤ 1000) (w : World) (he : BoolsAt w eb t.size e) (hlt : eb < w.heap.size) :
    Calls Tryz.prog 204 #[pcV p, .slice (some ⟨eb, 0, none⟩) (t.size + 1) cap, .string t] w fun en w' => ∃ nb, en = .returned (.slice (some ⟨nb, 0, none⟩) (t.size + 1) (t.size + 1)) ∧ w.heap.size ≤ nb ∧ nb < w'.heap.size ∧ BoolsAt w' nb t.size (nextB p t.data.toList e) ∧ Below w.heap.size w w' := by
  obtain ⟨m, hm⟩ : ∃ m, t.size + 1 = m := ⟨_, rfl⟩
  have hmk := run_make_row' (P := Tryz.prog) 259 4 (.bool false) 1 Tryz.underlying259 info_bool rfl .i64 .i64 m (by omega) (by omega)
  rw [hm]
  have hm0 : 0 < m := by omega
  have HE := hide he
  have e0 := he 0 (Nat.zero_le _)
  have l1 : eb < w.heap.size + 1 := by omega
  have d0 : ¬ w.heap.size + 1 = eb := by omega
  have d1 : ¬ eb = w.heap.size + 1 := by omega
  have ROW0 := hide (World.rowIs_made (w.alloc (.cells #[.int .i64 p.kind, .int .u8 p.c.toNat] 262)) (.bool false) m 4)
  have hrc := (unhide ROW0).cell (i := 0) hm0
  have hrf := (unhide ROW0).frozen 0
  rw [show (w.alloc (.cells #[.int .i64 p.kind, .int .u8 p.c.toNat] 262)).heap.size = w.heap.size + 1 by simp] at hrc hrf ROW0
  clear he
  cases hk2 : (p.kind == 2)
  · have ST : Hid (FromAt w ((w.alloc (.cells #[.int .i64 p.kind, .int .u8 p.c.toNat] 262)).alloc (.cells (madeCells #[.bool false] m) 4)) p t e m 0) := hide (from_start0 w p t e m hk2)
    conv => arg 3; simp only [pcV]
    go_enter Tryz.func204, Tryz.ntmps204
    go_wp2_with fail
    clear hrc hrf e0 ROW0
    go_loopw [22] (fun i wr => ∃ k : Nat, k ≤ t.size ∧ i = .int .i64 k ∧ Hid (FromAt w wr p t e m k)) (fun i _ => t.size - (intOf i).toNat)
    case atStart => exact ⟨0, Nat.zero_le _, rfl, ST⟩
    case round =>
      obtain ⟨k, hk, rfl, hF⟩ := hrel
      have fc0 := (unhide hF).c0
      have fc1 := (unhide hF).c1
      have hz := (unhide hF).lt
      by_cases hlt : k < t.size
      · have ek := ((unhide hF).below.cell (p := ⟨eb, k, none⟩) (by assumption)).trans (unhide HE k (by omega))
        have rk := (unhide hF).row.cell (i := k + 1) (by omega)
        have rf := (unhide hF).row.frozen (k + 1)
        have hkm : k + 1 < m := by omega
        have hkm' : k < m := by omega
        have hi0 : (0 : Int) ≤ (k : Int) + 1 := by omega
        have hi1 : (k : Int) + 1 < (m : Int) := by omega
        have hi2 : (0 : Int) ≤ (k : Int) := by omega
        have hi3 : (k : Int) < (m : Int) := by omega
        have hi4 : (k : Int) < (t.size : Int) := by omega
        have hwr : IntKind.i64.wrap ((k : Int) + 1) = (k : Int) + 1 := IntWalk.i64_in _ (by omega)
        cases hk1 : (p.kind == 1)
        · cases hek : e k
          · rw [hek] at ek
            go_wp2_with fail
            go_region
            all_goals
              go_wp2_with fail
              go_roundw
              case rel => exact ⟨k + 1, by omega, by go_num, hide ((unhide hF).drew.step _ (by rw [nextB, hk2, hk1, hek]; simp))⟩
              case measure => simp [intOf]; omega
          · rw [hek] at ek
            cases hx : (t[k] == p.c)
            all_goals
              have hx' := (u8_beq t[k] p.c).trans hx
              go_wp2_with fail
              go_region_held3 (fun W => W.cell? ⟨eb, k, none⟩ = some (.bool true) ∧ W.cell? ⟨w.heap.size, 1, none⟩ = some (.int .u8 p.c.toNat)) (go_keep) (fail)
              go_wp2_with fail
              go_roundw
              case rel => exact ⟨k + 1, by omega, by go_num, hide ((unhide hF).drew.step _ (by rw [nextB, hk2, hk1, hek, getD_at t k hlt, hx]; simp))⟩
              case measure => simp [intOf]; omega
        · obtain ⟨bk, hbk⟩ : ∃ b, e k = b := ⟨_, rfl⟩
          rw [hbk] at ek
          go_wp2_with fail
          go_roundw
          case rel => exact ⟨k + 1, by omega, by go_num, hide ((unhide hF).step _ (by rw [nextB, hk2, hk1, hbk]; simp))⟩
          case measure => simp [intOf]; omega
      · go_wp2_with fail
        go_ret
        obtain rfl : k = t.size := by omega
        exact ⟨_, rfl, by omega, hz, fun j hj => by have := (unhide hF).row.cell (i := j) (by omega); rw [this, nextRow, if_pos hj], (unhide hF).below⟩
  · have ST : Hid (FromAt w ((w.alloc (.cells #[.int .i64 p.kind, .int .u8 p.c.toNat] 262)).alloc (.cells ((madeCells #[.bool false] m).setIfInBounds 0 (.bool (e 0))) 4)) p t e m 0) := hide (from_start1 w p t e m hk2)
    conv => arg 3; simp only [pcV]
    go_enter Tryz.func204, Tryz.ntmps204
    go_wp2_with fail
    clear hrc hrf e0 ROW0
    go_loopw [22] (fun i wr => ∃ k : Nat, k ≤ t.size ∧ i = .int .i64 k ∧ Hid (FromAt w wr p t e m k)) (fun i _ => t.size - (intOf i).toNat)
    case atStart => exact ⟨0, Nat.zero_le _, rfl, ST⟩
    case round =>
      obtain ⟨k, hk, rfl, hF⟩ := hrel
      have fc0 := (unhide hF).c0
      have hz := (unhide hF).lt
      by_cases hlt : k < t.size
      · have ek := ((unhide hF).below.cell (p := ⟨eb, k + 1, none⟩) (by assumption)).trans (unhide HE (k + 1) (by omega))
        have rk := (unhide hF).row.cell (i := k + 1) (by omega)
        have rf := (unhide hF).row.frozen (k + 1)
        have rk0 : wr.cell? ⟨w.heap.size + 1, k, none⟩ = some (.bool (nextB p t.data.toList e k)) := by have := (unhide hF).row.cell (i := k) (by omega); rw [this, nextRow, if_pos (Nat.le_refl _)]
        obtain ⟨nk, hnk⟩ : ∃ b, nextB p t.data.toList e k = b := ⟨_, rfl⟩
        rw [hnk] at rk0
        have HNK := hide hnk
        clear hnk
        have hkm : k + 1 < m := by omega
        have hkm' : k < m := by omega
        have hi0 : (0 : Int) ≤ (k : Int) + 1 := by omega
        have hi1 : (k : Int) + 1 < (m : Int) := by omega
        cases hek : e (k + 1)
        all_goals
          rw [hek] at ek
          go_wp2_with fail
          go_roundw
          case rel => exact ⟨k + 1, by omega, by go_num, hide ((unhide hF).step _ (by rw [nextB, hk2, hek, unhide HNK]; simp))⟩
          case measure => simp [intOf]; omega
      · go_wp2_with fail
        go_ret
        obtain rfl : k = t.size := by omega
        exact ⟨_, rfl, by omega, hz, fun j hj => by have := (unhide hF).row.cell (i := j) (by omega); rw [this, nextRow, if_pos hj], (unhide hF).below⟩
end

section
theorem pcCells_at (ps : List Pc) : ∀ (k : Nat) (p : Pc), ps[k]? = some p → (pcCells ps)[k * 2]? = some (.int .i64 p.kind) ∧ (pcCells ps)[k * 2 + 1]? = some (.int .u8 p.c.toNat) := by
  induction ps with
  | nil => intro k p h; simp at h
  | cons q r ih =>
    intro k p h
    have hc : pcCells (q :: r) = .int .i64 q.kind :: .int .u8 q.c.toNat :: pcCells r := rfl
    rw [hc]
    cases k with
    | zero => simp at h; subst h; exact ⟨rfl, rfl⟩
    | succ k =>
      have := ih k p (by simpa using h)
      rw [show (k + 1) * 2 = k * 2 + 1 + 1 by omega]
      exact ⟨by simpa using this.1, by simpa using this.2⟩

theorem fit_more {ps : List Pc} {k : Nat} {p : Pc} {t : List UInt8} {e : Nat → Bool} (h : ps[k]? = some p) : fitB' (ps.drop k) t e = fitB' (ps.drop (k + 1)) t (nextB p t e) := by
  obtain ⟨hk, he⟩ := List.getElem?_eq_some_iff.1 h
  rw [List.drop_eq_getElem_cons hk, he, fitB']
theorem fit_end {ps : List Pc} {k : Nat} {t : List UInt8} {e : Nat → Bool} (h : ps.length ≤ k) : fitB' (ps.drop k) t e = e t.length := by
  rw [List.drop_of_length_le h, fitB']

theorem cutL_len (e : List UInt8) : (p : List UInt8) → ∀ ps, cutL e p = some ps → ps.length ≤ p.length
  | [], ps, h => by rw [cutL] at h; injection h with h; subst h; simp
  | [c], ps, h => by
    simp only [cutL] at h
    split at h
    · cases h
    · injection h with h; subst h; simp
  | c :: d :: t, ps, h => by
    simp only [cutL] at h
    split at h
    · cases hq : cutL e t with
      | none => rw [hq] at h; cases h
      | some q => rw [hq] at h; injection h with h; subst h; have := cutL_len e t q hq; simp; omega
    · cases hq : cutL e (d :: t) with
      | none => rw [hq] at h; cases h
      | some q => rw [hq] at h; injection h with h; subst h; have := cutL_len e (d :: t) q hq; simp at this ⊢; omega

theorem ownsRow_at {base e size n : Nat} {w : World} {v : Value} {xs : List Value} (h : w.ownsRow base e size v n xs) : ∃ a c, v = .slice a n c ∧ ∀ (j : Nat) (u : Value), xs[j]? = some u → ∃ g, a = some ⟨g, 0, none⟩ ∧ w.cell? ⟨g, j, none⟩ = some u ∧ g < w.heap.size ∧ base ≤ g := by
  have h0 := h
  rcases h.2 with ⟨rfl, hn⟩ | ⟨g, cap, cur, rfl, hb, hg, _⟩
  · refine ⟨none, 0, by rw [hn], fun j u hu => ?_⟩
    have := h.1; rw [hn, Nat.zero_mul] at this
    rw [List.eq_nil_of_length_eq_zero this] at hu; simp at hu
  · refine ⟨some ⟨g, 0, none⟩, cap, rfl, fun j u hu => ⟨g, rfl, ?_, (Array.getElem?_eq_some_iff.1 hg).1, hb⟩⟩
    have := h0.cells (g := g) rfl j u hu
    have hadd : (⟨g, 0, none⟩ : Addr).add j = ⟨g, j, none⟩ := by unfold Addr.add; split <;> simp_all
    rwa [hadd] at this

theorem fits_start (w : World) (m : Nat) : ∀ j, j < m → (w.alloc (.cells ((madeCells #[.bool false] m).setIfInBounds 0 (.bool true)) 4)).cell? ⟨w.heap.size, j, none⟩ = some (.bool (j == 0)) := by
  have hz : ((madeCells #[.bool false] m).setIfInBounds 0 (Value.bool true)).size = m := by rw [Array.size_setIfInBounds]; exact size_madeCells _ _
  have hr := World.rowIs_alloc w ((madeCells #[.bool false] m).setIfInBounds 0 (.bool true)) 4 (fun j => .bool (j == 0)) (fun i hi => by
    rw [hz] at hi
    rw [Array.getElem?_setIfInBounds]
    by_cases h0 : i = 0
    · subst h0
      rw [if_pos rfl, if_pos (by rw [size_madeCells _ _]; exact hi)]; rfl
    · rw [if_neg (fun h => h0 h.symm)]
      simp [madeCells, hi, Nat.mod_one, h0])
  intro j hj
  exact hr.cell (by rw [hz]; exact hj)

theorem ownsRow_slice' {base e size n : Nat} {w : World} {v : Value} {xs : List Value} (h : w.ownsRow base e size v n xs) : ∃ a m c, v = .slice a m c := by
  rcases h.2 with ⟨rfl, _⟩ | ⟨g, cap, cur, rfl, _⟩
  · exact ⟨_, _, _, rfl⟩
  · exact ⟨_, _, _, rfl⟩

theorem BoolsAt.below {w w' : World} {b n : Nat} {e : Nat → Bool} (h : BoolsAt w b n e) (hb : Below w.heap.size w w') (hlt : b < w.heap.size) : BoolsAt w' b n e := fun j hj => (hb.cell (p := ⟨b, j, none⟩) hlt).trans (h j hj)

set_option maxHeartbeats 2000000 in
set_option maxRecDepth 100000 in
theorem fits_any (pat esc t : ByteArray) (hp : pat.size ≤ 200) (ht : t.size ≤ 1000) (w : World) :
    Calls Tryz.prog 156 #[.string pat, .string esc, .string t] w fun en w' => en = .returned (.bool (fitsB pat.data.toList esc.data.toList t.data.toList)) ∧ Below w.heap.size w w' := by
  have CUT := hide (cut_any pat esc hp w)
  unfold fitsB
  cases hc : cutL esc.data.toList pat.data.toList with
  | none =>
    rw [hc] at CUT
    clear hc
    go_enter Tryz.func156, Tryz.ntmps156
    go_wp2_with (go_at_call 203; refine (unhide CUT).mono ?_; rintro en w1 ⟨hb1, h1⟩; subst h1)
    go_ret
    exact ⟨rfl, hb1⟩
  | some ps =>
    rw [hc] at CUT
    have hpl := cutL_len _ _ _ hc
    rw [data_len] at hpl
    clear hc
    obtain ⟨m, hm⟩ : ∃ m, t.size + 1 = m := ⟨_, rfl⟩
    have hmk := run_make_row' (P := Tryz.prog) 259 4 (.bool false) 1 Tryz.underlying259 info_bool rfl .i64 .i64 m (by omega) (by omega)
    have hm0 : 0 < m := by omega
    have hmi : (t.size : Int) + 1 = (m : Int) := by omega
    obtain ⟨R, hR⟩ : ∃ r, fitB' ps t.data.toList (fun j => j == 0) = r := ⟨_, rfl⟩
    show Calls _ _ _ _ (fun en w' => en = .returned (.bool (fitB' ps t.data.toList fun j => j == 0)) ∧ Below w.heap.size w w')
    rw [hR]
    have HR := hide hR
    clear hR
    obtain ⟨n, hn⟩ : ∃ n, ps.length = n := ⟨_, rfl⟩
    rw [hn] at hpl
    have HN := hide hn
    go_enter Tryz.func156, Tryz.ntmps156
    go_wp2_with (go_at_call 203; refine (unhide CUT).mono ?_; rintro en w1 ⟨hb1, v1, rfl, hown⟩; obtain ⟨va, vc, rfl, hat⟩ := ownsRow_at hown; rw [unhide HN]; have hz1 := hb1.size; have hrc := (World.rowIs_made w1 (.bool false) m 4).cell (i := 0) hm0; have hrf := (World.rowIs_made w1 (.bool false) m 4).frozen 0)
    have HAT := hide hat
    have ST := hide (fits_start w1 m)
    have hb1 := hide hb1
    clear hown hrc hrf hat hn
    go_loopw [9, 28] (fun s9 i wr => ∃ (k eb : Nat) (f : Nat → Bool), k ≤ n ∧ i = .int .i64 k ∧ s9 = .slice (some ⟨eb, 0, none⟩) m m ∧ Hid (BoolsAt wr eb t.size f) ∧ eb < wr.heap.size ∧ Hid (R = fitB' (ps.drop k) t.data.toList f) ∧ Hid (Below w1.heap.size w1 wr)) (fun _ i _ => n - (intOf i).toNat)
    case atStart => exact ⟨0, w1.heap.size, fun j => j == 0, Nat.zero_le _, rfl, rfl, hide (fun j hj => unhide ST j (by omega)), by simp, hide (by rw [List.drop_zero, unhide HR]), hide ((Below.refl _ _).alloc (Nat.le_refl _) _)⟩
    case round =>
      obtain ⟨k, eb, f, hk, rfl, rfl, hf, heb, hh, hbel⟩ := hrel
      have hzr := (unhide hbel).size
      by_cases hlt : k < n
      · obtain ⟨p, hpk⟩ : ∃ p, ps[k]? = some p := ⟨_, List.getElem?_eq_getElem (by rw [unhide HN]; exact hlt)⟩
        obtain ⟨q0, q1⟩ := pcCells_at ps k p hpk
        obtain ⟨g, rfl, hc0, hg, _⟩ := unhide HAT _ _ q0
        obtain ⟨g', hgg, hc1, _, _⟩ := unhide HAT _ _ q1
        obtain rfl : g = g' := by simpa using hgg
        have d0 := ((unhide hbel).cell (p := ⟨g, k * 2, none⟩) hg).trans hc0
        have d1 := ((unhide hbel).cell (p := ⟨g, k * 2 + 1, none⟩) hg).trans hc1
        have HH : Hid (R = fitB' (ps.drop (k + 1)) t.data.toList (nextB p t.data.toList f)) := hide (by rw [unhide hh, fit_more hpk])
        have FR := hide (fun w2 (h : BoolsAt w2 eb t.size f) (hl : eb < w2.heap.size) => from_any p f eb m t ht w2 h hl)
        rw [hm] at FR
        clear hh hpk q0 q1 hgg hc0 hc1
        go_wp2_with (go_at_call 204; refine (unhide FR _ ((unhide hf).below ((Below.refl _ _).alloc (Nat.le_refl _) _) heb) (by simp; omega)).mono ?_; rintro en w2 ⟨nb, rfl, hnb, hnl, hbs, hb2⟩)
        go_roundw
        case rel => exact ⟨k + 1, nb, _, by omega, by go_num, rfl, hide hbs, hnl, HH, hide ((unhide hbel).trans ((below_step hb2).mono (by omega)))⟩
        case measure => simp [intOf]; omega
      · have HH : Hid (R = f t.size) := hide (by rw [unhide hh, fit_end (by rw [unhide HN]; omega), data_len])
        have hfl := unhide hf t.size (Nat.le_refl _)
        have htm : t.size < m := by omega
        clear hh
        go_wp2_with fail
        go_ret
        exact ⟨by rw [unhide HH]; rfl, below_any (unhide hb1) (unhide hbel)⟩
end

end Go.Proofs.YtfkcaldjphakpaaGreatDoor
