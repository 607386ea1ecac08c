/- from: the ends that one more piece can reach. Fits. Of, over what join says. among. -/
import Derived.Test.YtfkcaldjphakpabGreatDoorT10
import Derived.Test.YtfkcaldjphakpabGreatDoorT11
import Derived.Deep.QuietTactic
import Derived.BigQuiet
import Derived.Deep.OwnRows
import Derived.Deep.RegionHeld3
import Derived.Deep.RegionWith
namespace Go.Proofs.YtfkcaldjphakpabGreatDoor
open Go.RowKit
section
theorem vy7 : (Tryz.prog.info? 4).map (fun i => (i.zero, i.size, i.bytes)) = some (some (.bool false), 1, 1) := by kernel_rfl
def BoolsAt (w : World) (b n : Nat) (e : Nat → Bool) : Prop := ∀ j, j ≤ n → w.cell? ⟨b, j, none⟩ = some (.bool (e j))
def qt9 (p : Pc) (t : List UInt8) (e : Nat → Bool) (k : Nat) : Nat → Value := fun j => .bool (if j ≤ k then nextB p t e j else false)
structure FromAt (w W : World) (p : Pc) (t : ByteArray) (e : Nat → Bool) (m k : Nat) : Prop where
  row : W.rowIs (w.heap.size + 1) 4 m (qt9 p t.data.toList e k)
  c0 : W.cell? ⟨w.heap.size, 0, none⟩ = some (.int .i64 p.kind)
  c1 : W.cell? ⟨w.heap.size, 1, none⟩ = some (.int .u8 p.c.toNat)
  lt : w.heap.size + 1 < W.heap.size
  below : Below w.heap.size w W
theorem getD_at (t : ByteArray) (k : Nat) (h : k < t.size) : t.data.toList.getD k 0 = t[k] := by
  rw [List.getD_eq_getElem?_getD, List.getElem?_eq_getElem (by rw [qa9]; exact h), qc3 t k h]; rfl
theorem FromAt.drew {w W : World} {p : Pc} {t : ByteArray} {e : Nat → Bool} {m k : Nat} (h : FromAt w W p t e m k) : FromAt w W.drew p t e m k := ⟨h.row.drew, h.c0, h.c1, h.lt, h.below.drew⟩
theorem FromAt.step {w W : World} {p : Pc} {t : ByteArray} {e : Nat → Bool} {m k : Nat} (h : FromAt w W p t e m k) (v : Bool) (hv : nextB p t.data.toList e (k + 1) = v) : FromAt w (W.setCell ⟨w.heap.size + 1, k + 1, none⟩ (.bool v)) p t e m (k + 1) := by
  refine ⟨(h.row.set (k + 1) (.bool v)).congr fun i _ => ?_, ?_, ?_, by simpa using h.lt, h.below.setCell (by show w.heap.size ≤ w.heap.size + 1; omega) _⟩
  · unfold qt9
    by_cases hi : i = k + 1
    · subst hi; simp [hv]
    · rw [if_neg hi]
      by_cases hl : i ≤ k
      · rw [if_pos hl, if_pos (by omega)]
      · rw [if_neg hl, if_neg (by omega)]
  · simp [go_sem, h.c0]
  · simp [go_sem, h.c1]
theorem jf3 (w : World) (p : Pc) (t : ByteArray) (e : Nat → Bool) (m : Nat) (hk : (p.kind == 2) = true) : FromAt w ((w.alloc (.cells #[.int .i64 p.kind, .int .u8 p.c.toNat] 257)).alloc (.cells ((madeCells #[.bool false] m).setIfInBounds 0 (.bool (e 0))) 4)) p t e m 0 := by
  have hz : ((madeCells #[.bool false] m).setIfInBounds 0 (Value.bool (e 0))).size = m := by rw [Array.size_setIfInBounds]; exact size_madeCells _ _
  have hr := World.rowIs_alloc (w.alloc (.cells #[.int .i64 p.kind, .int .u8 p.c.toNat] 257)) ((madeCells #[.bool false] m).setIfInBounds 0 (.bool (e 0))) 4 (qt9 p t.data.toList e 0) (fun i hi => by
    rw [hz] at hi
    rw [Array.getElem?_setIfInBounds]
    by_cases h0 : i = 0
    · subst h0
      rw [if_pos rfl, if_pos (by rw [size_madeCells _ _]; exact hi), qt9, if_pos (Nat.le_refl _), nextB, hk]; rfl
    · rw [if_neg (fun h => h0 h.symm), qt9, if_neg (by omega)]
      simp [madeCells, hi, Nat.mod_one])
  rw [hz, show (w.alloc (.cells #[.int .i64 p.kind, .int .u8 p.c.toNat] 257)).heap.size = w.heap.size + 1 by simp] at hr
  refine ⟨hr, ?_, ?_, by simp, qg3 _ _ _⟩
  · rw [World.cell?_alloc_past _ _ _ (by simp), World.cell?_alloc_at _ _ _ _ rfl]; rfl
  · rw [World.cell?_alloc_past _ _ _ (by simp), World.cell?_alloc_at _ _ _ _ rfl]; rfl
theorem jf2 (w : World) (p : Pc) (t : ByteArray) (e : Nat → Bool) (m : Nat) (hk : (p.kind == 2) = false) : FromAt w ((w.alloc (.cells #[.int .i64 p.kind, .int .u8 p.c.toNat] 257)).alloc (.cells (madeCells #[.bool false] m) 4)) p t e m 0 := by
  have hr := World.rowIs_made (w.alloc (.cells #[.int .i64 p.kind, .int .u8 p.c.toNat] 257)) (.bool false) m 4
  rw [show (w.alloc (.cells #[.int .i64 p.kind, .int .u8 p.c.toNat] 257)).heap.size = w.heap.size + 1 by simp] at hr
  refine ⟨hr.congr fun i _ => ?_, ?_, ?_, by simp, qg3 _ _ _⟩
  · unfold qt9
    split
    · rename_i h; obtain rfl : i = 0 := by omega
      rw [nextB, hk]; rfl
    · rfl
  · rw [World.cell?_alloc_past _ _ _ (by simp), World.cell?_alloc_at _ _ _ _ rfl]; rfl
  · rw [World.cell?_alloc_past _ _ _ (by simp), World.cell?_alloc_at _ _ _ _ rfl]; rfl
set_option maxHeartbeats 2000000 in
set_option maxRecDepth 100000 in
theorem from_any (p : Pc) (e : Nat → Bool) (eb cap : Nat) (t : ByteArray) (ht : t.size ≤ 1000) (w : World) (he : BoolsAt w eb t.size e) (hlt : eb < w.heap.size) :
    Calls Tryz.prog 196 #[pcV p, .slice (some ⟨eb, 0, none⟩) (t.size + 1) cap, .string t] w fun en w' => ∃ nb, en = .returned (.slice (some ⟨nb, 0, none⟩) (t.size + 1) (t.size + 1)) ∧ w.heap.size ≤ nb ∧ nb < w'.heap.size ∧ BoolsAt w' nb t.size (nextB p t.data.toList e) ∧ Below w.heap.size w w' := by
  obtain ⟨m, hm⟩ : ∃ m, t.size + 1 = m := ⟨_, rfl⟩
  have hmk := run_make_row' (P := Tryz.prog) 254 4 (.bool false) 1 Tryz.underlying254 vy7 rfl .i64 .i64 m (by omega) (by omega)
  rw [hm]
  have hm0 : 0 < m := by omega
  have HE := v6 he
  have e0 := he 0 (Nat.zero_le _)
  have l1 : eb < w.heap.size + 1 := by omega
  have d0 : ¬ w.heap.size + 1 = eb := by omega
  have d1 : ¬ eb = w.heap.size + 1 := by omega
  have ROW0 := v6 (World.rowIs_made (w.alloc (.cells #[.int .i64 p.kind, .int .u8 p.c.toNat] 257)) (.bool false) m 4)
  have hrc := (q9 ROW0).cell (i := 0) hm0
  have hrf := (q9 ROW0).frozen 0
  rw [show (w.alloc (.cells #[.int .i64 p.kind, .int .u8 p.c.toNat] 257)).heap.size = w.heap.size + 1 by simp] at hrc hrf ROW0
  clear he
  cases hk2 : (p.kind == 2)
  · have ST : Hid (FromAt w ((w.alloc (.cells #[.int .i64 p.kind, .int .u8 p.c.toNat] 257)).alloc (.cells (madeCells #[.bool false] m) 4)) p t e m 0) := v6 (jf2 w p t e m hk2)
    conv => arg 3; simp only [pcV]
    go_enter Tryz.func196, Tryz.ntmps196
    go_wp2_with fail
    clear hrc hrf e0 ROW0
    go_loopw [22] (fun i wr => ∃ k : Nat, k ≤ t.size ∧ i = .int .i64 k ∧ Hid (FromAt w wr p t e m k)) (fun i _ => t.size - (intOf i).toNat)
    case atStart => exact ⟨0, Nat.zero_le _, rfl, ST⟩
    case round =>
      obtain ⟨k, hk, rfl, hF⟩ := hrel
      have fc0 := (q9 hF).c0
      have fc1 := (q9 hF).c1
      have hz := (q9 hF).lt
      by_cases hlt : k < t.size
      · have ek := ((q9 hF).below.cell (p := ⟨eb, k, none⟩) (by assumption)).trans (q9 HE k (by omega))
        have rk := (q9 hF).row.cell (i := k + 1) (by omega)
        have rf := (q9 hF).row.frozen (k + 1)
        have hkm : k + 1 < m := by omega
        have hkm' : k < m := by omega
        have hi0 : (0 : Int) ≤ (k : Int) + 1 := by omega
        have hi1 : (k : Int) + 1 < (m : Int) := by omega
        have hi2 : (0 : Int) ≤ (k : Int) := by omega
        have hi3 : (k : Int) < (m : Int) := by omega
        have hi4 : (k : Int) < (t.size : Int) := by omega
        have hwr : IntKind.i64.wrap ((k : Int) + 1) = (k : Int) + 1 := IntWalk.i64_in _ (by omega)
        cases hk1 : (p.kind == 1)
        · cases hek : e k
          · rw [hek] at ek
            go_wp2_with fail
            go_region
            all_goals
              go_wp2_with fail
              go_roundw
              case rel => exact ⟨k + 1, by omega, by go_num, v6 ((q9 hF).drew.step _ (by rw [nextB, hk2, hk1, hek]; simp))⟩
              case measure => simp [intOf]; omega
          · rw [hek] at ek
            cases hx : (t[k] == p.c)
            all_goals
              have hx' := (vm5 t[k] p.c).trans hx
              go_wp2_with fail
              go_region_held3 (fun W => W.cell? ⟨eb, k, none⟩ = some (.bool true) ∧ W.cell? ⟨w.heap.size, 1, none⟩ = some (.int .u8 p.c.toNat)) (go_keep) (fail)
              go_wp2_with fail
              go_roundw
              case rel => exact ⟨k + 1, by omega, by go_num, v6 ((q9 hF).drew.step _ (by rw [nextB, hk2, hk1, hek, getD_at t k hlt, hx]; simp))⟩
              case measure => simp [intOf]; omega
        · obtain ⟨bk, hbk⟩ : ∃ b, e k = b := ⟨_, rfl⟩
          rw [hbk] at ek
          go_wp2_with fail
          go_roundw
          case rel => exact ⟨k + 1, by omega, by go_num, v6 ((q9 hF).step _ (by rw [nextB, hk2, hk1, hbk]; simp))⟩
          case measure => simp [intOf]; omega
      · go_wp2_with fail
        go_ret
        obtain rfl : k = t.size := by omega
        exact ⟨_, rfl, by omega, hz, fun j hj => by have := (q9 hF).row.cell (i := j) (by omega); rw [this, qt9, if_pos hj], (q9 hF).below⟩
  · have ST : Hid (FromAt w ((w.alloc (.cells #[.int .i64 p.kind, .int .u8 p.c.toNat] 257)).alloc (.cells ((madeCells #[.bool false] m).setIfInBounds 0 (.bool (e 0))) 4)) p t e m 0) := v6 (jf3 w p t e m hk2)
    conv => arg 3; simp only [pcV]
    go_enter Tryz.func196, Tryz.ntmps196
    go_wp2_with fail
    clear hrc hrf e0 ROW0
    go_loopw [22] (fun i wr => ∃ k : Nat, k ≤ t.size ∧ i = .int .i64 k ∧ Hid (FromAt w wr p t e m k)) (fun i _ => t.size - (intOf i).toNat)
    case atStart => exact ⟨0, Nat.zero_le _, rfl, ST⟩
    case round =>
      obtain ⟨k, hk, rfl, hF⟩ := hrel
      have fc0 := (q9 hF).c0
      have hz := (q9 hF).lt
      by_cases hlt : k < t.size
      · have ek := ((q9 hF).below.cell (p := ⟨eb, k + 1, none⟩) (by assumption)).trans (q9 HE (k + 1) (by omega))
        have rk := (q9 hF).row.cell (i := k + 1) (by omega)
        have rf := (q9 hF).row.frozen (k + 1)
        have rk0 : wr.cell? ⟨w.heap.size + 1, k, none⟩ = some (.bool (nextB p t.data.toList e k)) := by have := (q9 hF).row.cell (i := k) (by omega); rw [this, qt9, if_pos (Nat.le_refl _)]
        obtain ⟨nk, hnk⟩ : ∃ b, nextB p t.data.toList e k = b := ⟨_, rfl⟩
        rw [hnk] at rk0
        have HNK := v6 hnk
        clear hnk
        have hkm : k + 1 < m := by omega
        have hkm' : k < m := by omega
        have hi0 : (0 : Int) ≤ (k : Int) + 1 := by omega
        have hi1 : (k : Int) + 1 < (m : Int) := by omega
        cases hek : e (k + 1)
        all_goals
          rw [hek] at ek
          go_wp2_with fail
          go_roundw
          case rel => exact ⟨k + 1, by omega, by go_num, v6 ((q9 hF).step _ (by rw [nextB, hk2, hek, q9 HNK]; simp))⟩
          case measure => simp [intOf]; omega
      · go_wp2_with fail
        go_ret
        obtain rfl : k = t.size := by omega
        exact ⟨_, rfl, by omega, hz, fun j hj => by have := (q9 hF).row.cell (i := j) (by omega); rw [this, qt9, if_pos hj], (q9 hF).below⟩
end
section
theorem jv4 (ps : List Pc) : ∀ (k : Nat) (p : Pc), ps[k]? = some p → (qn4 ps)[k * 2]? = some (.int .i64 p.kind) ∧ (qn4 ps)[k * 2 + 1]? = some (.int .u8 p.c.toNat) := by
  induction ps with
  | nil => intro k p h; simp at h
  | cons q r ih =>
    intro k p h
    have hc : qn4 (q :: r) = .int .i64 q.kind :: .int .u8 q.c.toNat :: qn4 r := rfl
    rw [hc]
    cases k with
    | zero => simp at h; subst h; exact ⟨rfl, rfl⟩
    | succ k =>
      have := ih k p (by simpa using h)
      rw [show (k + 1) * 2 = k * 2 + 1 + 1 by omega]
      exact ⟨by simpa using this.1, by simpa using this.2⟩
theorem fit_more {ps : List Pc} {k : Nat} {p : Pc} {t : List UInt8} {e : Nat → Bool} (h : ps[k]? = some p) : vi0 (ps.drop k) t e = vi0 (ps.drop (k + 1)) t (nextB p t e) := by
  obtain ⟨hk, he⟩ := List.getElem?_eq_some_iff.1 h
  rw [List.drop_eq_getElem_cons hk, he, vi0]
theorem fit_end {ps : List Pc} {k : Nat} {t : List UInt8} {e : Nat → Bool} (h : ps.length ≤ k) : vi0 (ps.drop k) t e = e t.length := by
  rw [List.drop_of_length_le h, vi0]
theorem vs6 (e : List UInt8) : (p : List UInt8) → ∀ ps, qv4 e p = some ps → ps.length ≤ p.length
  | [], ps, h => by rw [qv4] at h; injection h with h; subst h; simp
  | [c], ps, h => by
    simp only [qv4] at h
    split at h
    · cases h
    · injection h with h; subst h; simp
  | c :: d :: t, ps, h => by
    simp only [qv4] at h
    split at h
    · cases hq : qv4 e t with
      | none => rw [hq] at h; cases h
      | some q => rw [hq] at h; injection h with h; subst h; have := vs6 e t q hq; simp; omega
    · cases hq : qv4 e (d :: t) with
      | none => rw [hq] at h; cases h
      | some q => rw [hq] at h; injection h with h; subst h; have := vs6 e (d :: t) q hq; simp at this ⊢; omega
theorem jv2 {base e size n : Nat} {w : World} {v : Value} {xs : List Value} (h : w.ownsRow base e size v n xs) : ∃ a c, v = .slice a n c ∧ ∀ (j : Nat) (u : Value), xs[j]? = some u → ∃ g, a = some ⟨g, 0, none⟩ ∧ w.cell? ⟨g, j, none⟩ = some u ∧ g < w.heap.size ∧ base ≤ g := by
  have h0 := h
  rcases h.2 with ⟨rfl, hn⟩ | ⟨g, cap, cur, rfl, hb, hg, _⟩
  · refine ⟨none, 0, by rw [hn], fun j u hu => ?_⟩
    have := h.1; rw [hn, Nat.zero_mul] at this
    rw [List.eq_nil_of_length_eq_zero this] at hu; simp at hu
  · refine ⟨some ⟨g, 0, none⟩, cap, rfl, fun j u hu => ⟨g, rfl, ?_, (Array.getElem?_eq_some_iff.1 hg).1, hb⟩⟩
    have := h0.cells (g := g) rfl j u hu
    have hadd : (⟨g, 0, none⟩ : Addr).add j = ⟨g, j, none⟩ := by unfold Addr.add; split <;> simp_all
    rwa [hadd] at this
theorem js8 (w : World) (m : Nat) : ∀ j, j < m → (w.alloc (.cells ((madeCells #[.bool false] m).setIfInBounds 0 (.bool true)) 4)).cell? ⟨w.heap.size, j, none⟩ = some (.bool (j == 0)) := by
  have hz : ((madeCells #[.bool false] m).setIfInBounds 0 (Value.bool true)).size = m := by rw [Array.size_setIfInBounds]; exact size_madeCells _ _
  have hr := World.rowIs_alloc w ((madeCells #[.bool false] m).setIfInBounds 0 (.bool true)) 4 (fun j => .bool (j == 0)) (fun i hi => by
    rw [hz] at hi
    rw [Array.getElem?_setIfInBounds]
    by_cases h0 : i = 0
    · subst h0
      rw [if_pos rfl, if_pos (by rw [size_madeCells _ _]; exact hi)]; rfl
    · rw [if_neg (fun h => h0 h.symm)]
      simp [madeCells, hi, Nat.mod_one, h0])
  intro j hj
  exact hr.cell (by rw [hz]; exact hj)
theorem BoolsAt.below {w w' : World} {b n : Nat} {e : Nat → Bool} (h : BoolsAt w b n e) (hb : Below w.heap.size w w') (hlt : b < w.heap.size) : BoolsAt w' b n e := fun j hj => (hb.cell (p := ⟨b, j, none⟩) hlt).trans (h j hj)
set_option maxHeartbeats 2000000 in
set_option maxRecDepth 100000 in
theorem fits_any (pat esc t : ByteArray) (hp : pat.size ≤ 200) (ht : t.size ≤ 1000) (w : World) :
    Calls Tryz.prog 147 #[.string pat, .string esc, .string t] w fun en w' => en = .returned (.bool (fitsB pat.data.toList esc.data.toList t.data.toList)) ∧ Below w.heap.size w w' := by
  have CUT := v6 (jd5 pat esc hp w)
  unfold fitsB
  cases hc : qv4 esc.data.toList pat.data.toList with
  | none =>
    rw [hc] at CUT
    clear hc
    go_enter Tryz.func147, Tryz.ntmps147
    go_wp2_with (go_at_call 195; refine (q9 CUT).mono ?_; rintro en w1 ⟨hb1, h1⟩; subst h1)
    go_ret
    exact ⟨rfl, hb1⟩
  | some ps =>
    rw [hc] at CUT
    have hpl := vs6 _ _ _ hc
    rw [qa9] at hpl
    clear hc
    obtain ⟨m, hm⟩ : ∃ m, t.size + 1 = m := ⟨_, rfl⟩
    have hmk := run_make_row' (P := Tryz.prog) 254 4 (.bool false) 1 Tryz.underlying254 vy7 rfl .i64 .i64 m (by omega) (by omega)
    have hm0 : 0 < m := by omega
    have hmi : (t.size : Int) + 1 = (m : Int) := by omega
    obtain ⟨R, hR⟩ : ∃ r, vi0 ps t.data.toList (fun j => j == 0) = r := ⟨_, rfl⟩
    show Calls _ _ _ _ (fun en w' => en = .returned (.bool (vi0 ps t.data.toList fun j => j == 0)) ∧ Below w.heap.size w w')
    rw [hR]
    have HR := v6 hR
    clear hR
    obtain ⟨n, hn⟩ : ∃ n, ps.length = n := ⟨_, rfl⟩
    rw [hn] at hpl
    have HN := v6 hn
    go_enter Tryz.func147, Tryz.ntmps147
    go_wp2_with (go_at_call 195; refine (q9 CUT).mono ?_; rintro en w1 ⟨hb1, v1, rfl, hown⟩; obtain ⟨va, vc, rfl, hat⟩ := jv2 hown; rw [q9 HN]; have hz1 := hb1.size; have hrc := (World.rowIs_made w1 (.bool false) m 4).cell (i := 0) hm0; have hrf := (World.rowIs_made w1 (.bool false) m 4).frozen 0)
    have HAT := v6 hat
    have ST := v6 (js8 w1 m)
    have hb1 := v6 hb1
    clear hown hrc hrf hat hn
    go_loopw [9, 28] (fun s9 i wr => ∃ (k eb : Nat) (f : Nat → Bool), k ≤ n ∧ i = .int .i64 k ∧ s9 = .slice (some ⟨eb, 0, none⟩) m m ∧ Hid (BoolsAt wr eb t.size f) ∧ eb < wr.heap.size ∧ Hid (R = vi0 (ps.drop k) t.data.toList f) ∧ Hid (Below w1.heap.size w1 wr)) (fun _ i _ => n - (intOf i).toNat)
    case atStart => exact ⟨0, w1.heap.size, fun j => j == 0, Nat.zero_le _, rfl, rfl, v6 (fun j hj => q9 ST j (by omega)), by simp, v6 (by rw [List.drop_zero, q9 HR]), v6 ((Below.refl _ _).alloc (Nat.le_refl _) _)⟩
    case round =>
      obtain ⟨k, eb, f, hk, rfl, rfl, hf, heb, hh, hbel⟩ := hrel
      have hzr := (q9 hbel).size
      by_cases hlt : k < n
      · obtain ⟨p, hpk⟩ : ∃ p, ps[k]? = some p := ⟨_, List.getElem?_eq_getElem (by rw [q9 HN]; exact hlt)⟩
        obtain ⟨q0, q1⟩ := jv4 ps k p hpk
        obtain ⟨g, rfl, hc0, hg, _⟩ := q9 HAT _ _ q0
        obtain ⟨g', hgg, hc1, _, _⟩ := q9 HAT _ _ q1
        obtain rfl : g = g' := by simpa using hgg
        have d0 := ((q9 hbel).cell (p := ⟨g, k * 2, none⟩) hg).trans hc0
        have d1 := ((q9 hbel).cell (p := ⟨g, k * 2 + 1, none⟩) hg).trans hc1
        have HH : Hid (R = vi0 (ps.drop (k + 1)) t.data.toList (nextB p t.data.toList f)) := v6 (by rw [q9 hh, fit_more hpk])
        have FR := v6 (fun w2 (h : BoolsAt w2 eb t.size f) (hl : eb < w2.heap.size) => from_any p f eb m t ht w2 h hl)
        rw [hm] at FR
        clear hh hpk q0 q1 hgg hc0 hc1
        go_wp2_with (go_at_call 196; refine (q9 FR _ ((q9 hf).below ((Below.refl _ _).alloc (Nat.le_refl _) _) heb) (by simp; omega)).mono ?_; rintro en w2 ⟨nb, rfl, hnb, hnl, hbs, hb2⟩)
        go_roundw
        case rel => exact ⟨k + 1, nb, _, by omega, by go_num, rfl, v6 hbs, hnl, HH, v6 ((q9 hbel).trans ((qc1 hb2).mono (by omega)))⟩
        case measure => simp [intOf]; omega
      · have HH : Hid (R = f t.size) := v6 (by rw [q9 hh, fit_end (by rw [q9 HN]; omega), qa9])
        have hfl := q9 hf t.size (Nat.le_refl _)
        have htm : t.size < m := by omega
        clear hh
        go_wp2_with fail
        go_ret
        exact ⟨by rw [q9 HH]; rfl, v7 (q9 hb1) (q9 hbel)⟩
end
section
def OfOk (lo : Nat) (ps : List Pr) (ev : Value) (t : Ast) : Prop := ∀ (w : World) (v : Value), IsNode lo w v t → EvArg w ev ps → Calls Tryz.prog 161 #[v, ev] w fun e w' => e = .returned (vV (ofA ps t)) ∧ Below w.heap.size w w'
def vg9 (lo : Nat) (t : Ast) : Prop := ∀ (w : World) (b : Nat) (x y z : V), Rng x.num → Rng y.num → Rng z.num → x.str.length ≤ 1000 → IsNode lo w (.pointer (some ⟨b, 0, none⟩)) t →
  Calls Tryz.prog 199 #[.pointer (some ⟨b, 0, none⟩), vV x, vV y, vV z] w fun e w' => e = .returned (vV (qs6 (y7 t) x y z)) ∧ Below w.heap.size w w'
set_option maxHeartbeats 400000 in
theorem of_0 (lo : Nat) (ps : List Pr) (ev : Value) (t : Ast) (ho : (y7 t).op = 0) : OfOk lo ps ev t := by
  intro w v h hev
  have hr : ofA ps t = qy0 ps (y7 t).str := by rw [vq4, ofN, ho]; rfl
  rw [hr]
  have CON := v6 (fun w1 (h : EvArg w1 ev ps) => jm3 h (BS (y7 t).str))
  obtain ⟨b, sv, rfl, hnode, _⟩ := h.parts
  have c0 := hnode.c0
  rw [ho] at c0
  have c3 := hnode.c3
  have c4 := hnode.c4
  have hbw := hnode.within
  have HE := v6 hev
  obtain ⟨ea, en, ec, rfl⟩ := hev.slice
  clear hnode h hr ho hev
  go_enter Tryz.func161, Tryz.ntmps161
  go_wp2_with (go_at_call 102; refine (q9 CON _ ((q9 HE).below ((Below.refl _ _).alloc (Nat.le_refl _) _))).mono ?_; rintro e w1 ⟨rfl, hb1⟩; obtain ⟨hc1, hf1⟩ := j5 hb1; have hz1 : w.heap.size < w1.heap.size := (by have := hb1.size; simp at this; omega); simp only [vV])
  refine bodyPost_ret (by simp [results, Tryz.results161, go_sem, hc1] <;> rfl) rfl ⟨rfl, ?_⟩
  exact (((v7 ((Below.refl _ _).alloc (Nat.le_refl _) _) hb1).setCell (by simp) _).setCell (by simp) _).setCell (by simp) _
set_option maxHeartbeats 400000 in
theorem of_1 (lo : Nat) (ps : List Pr) (ev : Value) (t : Ast) (ho : (y7 t).op = 1) : OfOk lo ps ev t := by
  intro w v h hev
  have hr : ofA ps t = iV (y7 t).num := by rw [vq4, ofN, ho]; rfl
  rw [hr]
  have CON := v6 (fun w1 => qp4 (y7 t).num w1)
  obtain ⟨b, sv, rfl, hnode, _⟩ := h.parts
  have c0 := hnode.c0
  rw [ho] at c0
  have c3 := hnode.c3
  have c4 := hnode.c4
  have hbw := hnode.within
  have HE := v6 hev
  obtain ⟨ea, en, ec, rfl⟩ := hev.slice
  clear hnode h hr ho hev
  go_enter Tryz.func161, Tryz.ntmps161
  go_wp2_with (go_at_call 103; refine (q9 CON _).mono ?_; rintro e w1 ⟨rfl, hb1⟩; obtain ⟨hc1, hf1⟩ := j5 hb1; have hz1 : w.heap.size < w1.heap.size := (by have := hb1.size; simp at this; omega); simp only [vV])
  refine bodyPost_ret (by simp [results, Tryz.results161, go_sem, hc1] <;> rfl) rfl ⟨rfl, ?_⟩
  exact (((v7 ((Below.refl _ _).alloc (Nat.le_refl _) _) hb1).setCell (by simp) _).setCell (by simp) _).setCell (by simp) _
set_option maxHeartbeats 400000 in
theorem of_2 (lo : Nat) (ps : List Pr) (ev : Value) (t : Ast) (ho : (y7 t).op = 2) : OfOk lo ps ev t := by
  intro w v h hev
  have hr : ofA ps t = tV (y7 t).str := by rw [vq4, ofN, ho]; rfl
  rw [hr]
  have CON := v6 (fun w1 => vm6 (BS (y7 t).str) w1)
  obtain ⟨b, sv, rfl, hnode, _⟩ := h.parts
  have c0 := hnode.c0
  rw [ho] at c0
  have c3 := hnode.c3
  have c4 := hnode.c4
  have hbw := hnode.within
  have HE := v6 hev
  obtain ⟨ea, en, ec, rfl⟩ := hev.slice
  clear hnode h hr ho hev
  go_enter Tryz.func161, Tryz.ntmps161
  go_wp2_with (go_at_call 104; refine (q9 CON _).mono ?_; rintro e w1 ⟨rfl, hb1⟩; obtain ⟨hc1, hf1⟩ := j5 hb1; have hz1 : w.heap.size < w1.heap.size := (by have := hb1.size; simp at this; omega); simp only [vV])
  refine bodyPost_ret (by simp [results, Tryz.results161, go_sem, hc1] <;> rfl) rfl ⟨rfl, ?_⟩
  exact (((v7 ((Below.refl _ _).alloc (Nat.le_refl _) _) hb1).setCell (by simp) _).setCell (by simp) _).setCell (by simp) _
set_option maxHeartbeats 400000 in
theorem of_3 (lo : Nat) (ps : List Pr) (ev : Value) (t : Ast) (ho : (y7 t).op = 3) : OfOk lo ps ev t := by
  intro w v h hev
  have hr : ofA ps t = bV true := by rw [vq4, ofN, ho]; rfl
  rw [hr]
  have CON := v6 (fun w1 => qf5 true w1)
  obtain ⟨b, sv, rfl, hnode, _⟩ := h.parts
  have c0 := hnode.c0
  rw [ho] at c0
  have c3 := hnode.c3
  have c4 := hnode.c4
  have hbw := hnode.within
  have HE := v6 hev
  obtain ⟨ea, en, ec, rfl⟩ := hev.slice
  clear hnode h hr ho hev
  go_enter Tryz.func161, Tryz.ntmps161
  go_wp2_with (go_at_call 70; refine (q9 CON _).mono ?_; rintro e w1 ⟨rfl, hb1⟩; obtain ⟨hc1, hf1⟩ := j5 hb1; have hz1 : w.heap.size < w1.heap.size := (by have := hb1.size; simp at this; omega); simp only [vV])
  refine bodyPost_ret (by simp [results, Tryz.results161, go_sem, hc1] <;> rfl) rfl ⟨rfl, ?_⟩
  exact (((v7 ((Below.refl _ _).alloc (Nat.le_refl _) _) hb1).setCell (by simp) _).setCell (by simp) _).setCell (by simp) _
set_option maxHeartbeats 400000 in
theorem of_4 (lo : Nat) (ps : List Pr) (ev : Value) (t : Ast) (ho : (y7 t).op = 4) : OfOk lo ps ev t := by
  intro w v h hev
  have hr : ofA ps t = bV false := by rw [vq4, ofN, ho]; rfl
  rw [hr]
  have CON := v6 (fun w1 => qf5 false w1)
  obtain ⟨b, sv, rfl, hnode, _⟩ := h.parts
  have c0 := hnode.c0
  rw [ho] at c0
  have c3 := hnode.c3
  have c4 := hnode.c4
  have hbw := hnode.within
  have HE := v6 hev
  obtain ⟨ea, en, ec, rfl⟩ := hev.slice
  clear hnode h hr ho hev
  go_enter Tryz.func161, Tryz.ntmps161
  go_wp2_with (go_at_call 70; refine (q9 CON _).mono ?_; rintro e w1 ⟨rfl, hb1⟩; obtain ⟨hc1, hf1⟩ := j5 hb1; have hz1 : w.heap.size < w1.heap.size := (by have := hb1.size; simp at this; omega); simp only [vV])
  refine bodyPost_ret (by simp [results, Tryz.results161, go_sem, hc1] <;> rfl) rfl ⟨rfl, ?_⟩
  exact (((v7 ((Below.refl _ _).alloc (Nat.le_refl _) _) hb1).setCell (by simp) _).setCell (by simp) _).setCell (by simp) _
def OfAt (ps : List Pr) (t : Ast) (k : Nat) (x0 x1 x2 : V) : Prop :=
  x0 = (if 0 < k then ((j3 t).map (ofA ps)).getD 0 nV else nV) ∧ x1 = (if 1 < k then ((j3 t).map (ofA ps)).getD 1 nV else nV) ∧ x2 = (if 2 < k then ((j3 t).map (ofA ps)).getD 2 nV else nV)
theorem getD_ge (l : List V) (n : Nat) (h : l.length ≤ n) : l.getD n nV = nV := by rw [List.getD_eq_getElem?_getD, List.getElem?_eq_none h]; rfl
theorem OfAt.done {ps : List Pr} {t : Ast} {x0 x1 x2 : V} (h : OfAt ps t (j3 t).length x0 x1 x2) : qs6 (y7 t) x0 x1 x2 = qs6 (y7 t) (((j3 t).map (ofA ps)).getD 0 nV) (((j3 t).map (ofA ps)).getD 1 nV) (((j3 t).map (ofA ps)).getD 2 nV) := by
  obtain ⟨rfl, rfl, rfl⟩ := h
  have hz : ∀ i, (if i < (j3 t).length then ((j3 t).map (ofA ps)).getD i nV else nV) = ((j3 t).map (ofA ps)).getD i nV := by
    intro i
    split
    · rfl
    · rw [getD_ge]; rw [List.length_map]; omega
  rw [hz, hz, hz]
theorem OfAt.step0 {ps : List Pr} {t x : Ast} {x0 x1 x2 : V} (h : OfAt ps t 0 x0 x1 x2) (hx : (j3 t)[0]? = some x) : OfAt ps t 1 (ofA ps x) x1 x2 := by
  obtain ⟨_, h1, h2⟩ := h
  exact ⟨by simp [List.getD_eq_getElem?_getD, hx], by simpa using h1, by simpa using h2⟩
theorem OfAt.step1 {ps : List Pr} {t x : Ast} {x0 x1 x2 : V} (h : OfAt ps t 1 x0 x1 x2) (hx : (j3 t)[1]? = some x) : OfAt ps t 2 x0 (ofA ps x) x2 := by
  obtain ⟨h0, _, h2⟩ := h
  exact ⟨by simpa using h0, by simp [List.getD_eq_getElem?_getD, hx], by simpa using h2⟩
theorem OfAt.step2 {ps : List Pr} {t x : Ast} {x0 x1 x2 : V} (h : OfAt ps t 2 x0 x1 x2) (hx : (j3 t)[2]? = some x) : OfAt ps t 3 x0 x1 (ofA ps x) := by
  obtain ⟨h0, h1, _⟩ := h
  exact ⟨by simpa using h0, by simpa using h1, by simp [List.getD_eq_getElem?_getD, hx]⟩
theorem OfAt.rng {ps : List Pr} {t : Ast} {k : Nat} {x0 x1 x2 : V} (h : OfAt ps t k x0 x1 x2) (hr : ∀ x ∈ j3 t, Rng (ofA ps x).num) : Rng x0.num ∧ Rng x1.num ∧ Rng x2.num := by
  have hz : ∀ i, Rng (((j3 t).map (ofA ps)).getD i nV).num := by
    intro i
    rw [List.getD_eq_getElem?_getD, List.getElem?_map]
    cases hx : (j3 t)[i]? with
    | none => exact qy2
    | some x => exact hr x (List.mem_of_getElem? hx)
  obtain ⟨rfl, rfl, rfl⟩ := h
  refine ⟨?_, ?_, ?_⟩ <;> split <;> first | exact hz _ | exact qy2
theorem OfAt.len {ps : List Pr} {t : Ast} {k : Nat} {x0 x1 x2 : V} (h : OfAt ps t k x0 x1 x2) (hr : ∀ x ∈ j3 t, (ofA ps x).str.length ≤ 1000) : x0.str.length ≤ 1000 := by
  obtain ⟨rfl, _, _⟩ := h
  split
  · rw [List.getD_eq_getElem?_getD, List.getElem?_map]
    cases hx : (j3 t)[0]? with
    | none => simp [nV]
    | some x => exact hr x (List.mem_of_getElem? hx)
  · simp [nV]
set_option maxHeartbeats 2000000 in
set_option maxRecDepth 100000 in
theorem of_step (lo : Nat) (ps : List Pr) (ev : Value) (t : Ast) (hsub : ∀ x ∈ j3 t, OfOk lo ps ev x) (hrng : ∀ x ∈ j3 t, Rng (ofA ps x).num) (hlen : ∀ x ∈ j3 t, (ofA ps x).str.length ≤ 1000) (hj : vg9 lo t) (h0 : ¬ (y7 t).op = 0) (h1 : ¬ (y7 t).op = 1) (h2 : ¬ (y7 t).op = 2) (h3 : ¬ (y7 t).op = 3) (h4 : ¬ (y7 t).op = 4) : OfOk lo ps ev t := by
  intro w v h hev
  have e0 : ((y7 t).op == 0) = false := beq_eq_false_iff_ne.2 h0
  have e1 : ((y7 t).op == 1) = false := beq_eq_false_iff_ne.2 h1
  have e2 : ((y7 t).op == 2) = false := beq_eq_false_iff_ne.2 h2
  have e3 : ((y7 t).op == 3) = false := beq_eq_false_iff_ne.2 h3
  have e4 : ((y7 t).op == 4) = false := beq_eq_false_iff_ne.2 h4
  have hr : ofA ps t = qs6 (y7 t) (((j3 t).map (ofA ps)).getD 0 nV) (((j3 t).map (ofA ps)).getD 1 nV) (((j3 t).map (ofA ps)).getD 2 nV) := by
    rw [vq4, ofN, if_neg h0, if_neg h1, if_neg h2, if_neg h3, if_neg h4]
  rw [hr]
  obtain ⟨r, hr'⟩ : ∃ r, qs6 (y7 t) (((j3 t).map (ofA ps)).getD 0 nV) (((j3 t).map (ofA ps)).getD 1 nV) (((j3 t).map (ofA ps)).getD 2 nV) = r := ⟨_, rfl⟩
  rw [hr']
  have HR : Hid (qs6 (y7 t) (((j3 t).map (ofA ps)).getD 0 nV) (((j3 t).map (ofA ps)).getD 1 nV) (((j3 t).map (ofA ps)).getD 2 nV) = r) := v6 hr'
  have HNODE := v6 h
  obtain ⟨b, sv, rfl, hnode, hsides⟩ := h.parts
  obtain ⟨a, rfl, hside⟩ := hsides.any
  have hn3 := vk4 t
  have c0 := hnode.c0
  have c2 := hnode.c2
  have hbw := hnode.within
  obtain ⟨n, hn⟩ : ∃ n, (j3 t).length = n := ⟨_, rfl⟩
  rw [hn] at c2 hn3
  have HN := v6 hn
  have HS := v6 hside
  have HSUB := v6 hsub
  have HRNG := v6 hrng
  have HLEN := v6 hlen
  have HJ := v6 hj
  have HE := v6 hev
  obtain ⟨ea, en, ec, rfl⟩ := hev.slice
  clear hr hr' hsides h hn hside hsub hrng hlen hj hev hnode h0 h1 h2 h3 h4
  go_enter Tryz.func161, Tryz.ntmps161
  go_wp2_with fail
  go_loopw [48] (fun i wr => ∃ (k : Nat) (x0 x1 x2 : V), k ≤ n ∧ i = .int .i64 k ∧ Hid (OfAt ps t k x0 x1 x2) ∧ wr.cell? ⟨w.heap.size + 1, 0, none⟩ = some (.int .i64 x0.kind) ∧ wr.cell? ⟨w.heap.size + 1, 1, none⟩ = some (.int .i64 x0.num) ∧ wr.cell? ⟨w.heap.size + 1, 2, none⟩ = some (.string (BS x0.str)) ∧ wr.cell? ⟨w.heap.size + 1, 3, none⟩ = some (.int .i64 x1.kind) ∧ wr.cell? ⟨w.heap.size + 1, 4, none⟩ = some (.int .i64 x1.num) ∧ wr.cell? ⟨w.heap.size + 1, 5, none⟩ = some (.string (BS x1.str)) ∧ wr.cell? ⟨w.heap.size + 1, 6, none⟩ = some (.int .i64 x2.kind) ∧ wr.cell? ⟨w.heap.size + 1, 7, none⟩ = some (.int .i64 x2.num) ∧ wr.cell? ⟨w.heap.size + 1, 8, none⟩ = some (.string (BS x2.str)) ∧ wr.cell? ⟨w.heap.size, 0, none⟩ = some (.int .i64 0) ∧ wr.cell? ⟨w.heap.size, 1, none⟩ = some (.int .i64 0) ∧ wr.cell? ⟨w.heap.size, 2, none⟩ = some (.string ⟨#[]⟩) ∧ (∀ j, wr.frozen? ⟨w.heap.size + 1, j, none⟩ = false) ∧ (∀ j, wr.frozen? ⟨w.heap.size, j, none⟩ = false) ∧ w.heap.size + 1 < wr.heap.size ∧ Hid (Below w.heap.size w wr)) (fun i _ => n - (intOf i).toNat)
  case atStart => exact ⟨0, nV, nV, nV, Nat.zero_le _, rfl, v6 ⟨rfl, rfl, rfl⟩, by simp [nV], by simp [nV], by simp [nV, BS], by simp [nV], by simp [nV], by simp [nV, BS], by simp [nV], by simp [nV], by simp [nV, BS], by rw [World.cell?_alloc_past _ _ _ (by simp), World.cell?_alloc_at _ _ _ _ rfl]; rfl, by rw [World.cell?_alloc_past _ _ _ (by simp), World.cell?_alloc_at _ _ _ _ rfl]; rfl, by rw [World.cell?_alloc_past _ _ _ (by simp), World.cell?_alloc_at _ _ _ _ rfl]; rfl, fun j => by simp, fun j => by rw [World.frozen?_alloc_past _ _ _ (by simp), World.frozen?_alloc_at _ _ _ _ rfl], by simp, v6 (qg3 _ _ _)⟩
  case round =>
    obtain ⟨k, x0, x1, x2, hk, rfl, hat, a0, a1, a2, a3, a4, a5, a6, a7, a8, r0, r1, r2, fz, fr, hzr, hbel⟩ := hrel
    by_cases hlt : k < n
    · obtain ⟨x, hx⟩ : ∃ x, (j3 t)[k]? = some x := ⟨_, List.getElem?_eq_getElem (by rw [q9 HN]; exact hlt)⟩
      obtain ⟨g, bx, rfl, hg1, hg2, hcx, hnx⟩ := q9 HS k x hx
      have dx := ((q9 hbel).cell (p := ⟨g, k, none⟩) hg2).trans hcx
      have HNX := v6 (hnx.kept (Kept.of_below (q9 hbel)))
      have CX := v6 (q9 HSUB x (List.mem_of_getElem? hx))
      have HEV := v6 ((q9 HE).below (q9 hbel))
      have HX := v6 hx
      clear hx hnx hcx
      rcases (show k = 0 ∨ k = 1 ∨ k = 2 by omega) with rfl | rfl | rfl
      · go_wp2_with (go_at_call 161; refine (q9 CX _ _ (q9 HNX) (q9 HEV)).mono ?_; rintro e w1 ⟨rfl, hb1⟩; obtain ⟨hc1, hf1⟩ := j5 hb1; have hz1 : w.heap.size + 1 < w1.heap.size := (by have := hb1.size; omega); have q0 : w1.cell? ⟨w.heap.size + 1, 0, none⟩ = some (.int .i64 x0.kind) := (hc1 _ 0 (by omega)).trans a0; have q1 : w1.cell? ⟨w.heap.size + 1, 1, none⟩ = some (.int .i64 x0.num) := (hc1 _ 1 (by omega)).trans a1; have q2 : w1.cell? ⟨w.heap.size + 1, 2, none⟩ = some (.string (BS x0.str)) := (hc1 _ 2 (by omega)).trans a2; have q3 : w1.cell? ⟨w.heap.size + 1, 3, none⟩ = some (.int .i64 x1.kind) := (hc1 _ 3 (by omega)).trans a3; have q4 : w1.cell? ⟨w.heap.size + 1, 4, none⟩ = some (.int .i64 x1.num) := (hc1 _ 4 (by omega)).trans a4; have q5 : w1.cell? ⟨w.heap.size + 1, 5, none⟩ = some (.string (BS x1.str)) := (hc1 _ 5 (by omega)).trans a5; have q6 : w1.cell? ⟨w.heap.size + 1, 6, none⟩ = some (.int .i64 x2.kind) := (hc1 _ 6 (by omega)).trans a6; have q7 : w1.cell? ⟨w.heap.size + 1, 7, none⟩ = some (.int .i64 x2.num) := (hc1 _ 7 (by omega)).trans a7; have q8 : w1.cell? ⟨w.heap.size + 1, 8, none⟩ = some (.string (BS x2.str)) := (hc1 _ 8 (by omega)).trans a8; have s0 : w1.cell? ⟨w.heap.size, 0, none⟩ = some (.int .i64 0) := (hc1 _ 0 (by omega)).trans r0; have s1 : w1.cell? ⟨w.heap.size, 1, none⟩ = some (.int .i64 0) := (hc1 _ 1 (by omega)).trans r1; have s2 : w1.cell? ⟨w.heap.size, 2, none⟩ = some (.string ⟨#[]⟩) := (hc1 _ 2 (by omega)).trans r2; have f1 : ∀ j, w1.frozen? ⟨w.heap.size + 1, j, none⟩ = false := (fun j => (hf1 _ j (by omega)).trans (fz j)); have f0 : ∀ j, w1.frozen? ⟨w.heap.size, j, none⟩ = false := (fun j => (hf1 _ j (by omega)).trans (fr j)); have hb1 := v6 hb1; clear hc1 hf1; simp only [vV])
        go_roundw
        case rel => exact ⟨1, _, x1, x2, by omega, by go_num, v6 (OfAt.step0 (q9 hat) (q9 HX)), by simp [go_sem, q0], by simp [go_sem, q1], by simp [go_sem, q2], by simp [go_sem, q3], by simp [go_sem, q4], by simp [go_sem, q5], by simp [go_sem, q6], by simp [go_sem, q7], by simp [go_sem, q8], by simp [go_sem, s0], by simp [go_sem, s1], by simp [go_sem, s2], fun j => by simp [go_sem, f1], fun j => by simp [go_sem, f0], by simpa using hz1, v6 ((((v7 (q9 hbel) (q9 hb1)).setCell (by simp) _).setCell (by simp) _).setCell (by simp) _)⟩
        case measure => simp [intOf]; omega
      · go_wp2_with (go_at_call 161; refine (q9 CX _ _ (q9 HNX) (q9 HEV)).mono ?_; rintro e w1 ⟨rfl, hb1⟩; obtain ⟨hc1, hf1⟩ := j5 hb1; have hz1 : w.heap.size + 1 < w1.heap.size := (by have := hb1.size; omega); have q0 : w1.cell? ⟨w.heap.size + 1, 0, none⟩ = some (.int .i64 x0.kind) := (hc1 _ 0 (by omega)).trans a0; have q1 : w1.cell? ⟨w.heap.size + 1, 1, none⟩ = some (.int .i64 x0.num) := (hc1 _ 1 (by omega)).trans a1; have q2 : w1.cell? ⟨w.heap.size + 1, 2, none⟩ = some (.string (BS x0.str)) := (hc1 _ 2 (by omega)).trans a2; have q3 : w1.cell? ⟨w.heap.size + 1, 3, none⟩ = some (.int .i64 x1.kind) := (hc1 _ 3 (by omega)).trans a3; have q4 : w1.cell? ⟨w.heap.size + 1, 4, none⟩ = some (.int .i64 x1.num) := (hc1 _ 4 (by omega)).trans a4; have q5 : w1.cell? ⟨w.heap.size + 1, 5, none⟩ = some (.string (BS x1.str)) := (hc1 _ 5 (by omega)).trans a5; have q6 : w1.cell? ⟨w.heap.size + 1, 6, none⟩ = some (.int .i64 x2.kind) := (hc1 _ 6 (by omega)).trans a6; have q7 : w1.cell? ⟨w.heap.size + 1, 7, none⟩ = some (.int .i64 x2.num) := (hc1 _ 7 (by omega)).trans a7; have q8 : w1.cell? ⟨w.heap.size + 1, 8, none⟩ = some (.string (BS x2.str)) := (hc1 _ 8 (by omega)).trans a8; have s0 : w1.cell? ⟨w.heap.size, 0, none⟩ = some (.int .i64 0) := (hc1 _ 0 (by omega)).trans r0; have s1 : w1.cell? ⟨w.heap.size, 1, none⟩ = some (.int .i64 0) := (hc1 _ 1 (by omega)).trans r1; have s2 : w1.cell? ⟨w.heap.size, 2, none⟩ = some (.string ⟨#[]⟩) := (hc1 _ 2 (by omega)).trans r2; have f1 : ∀ j, w1.frozen? ⟨w.heap.size + 1, j, none⟩ = false := (fun j => (hf1 _ j (by omega)).trans (fz j)); have f0 : ∀ j, w1.frozen? ⟨w.heap.size, j, none⟩ = false := (fun j => (hf1 _ j (by omega)).trans (fr j)); have hb1 := v6 hb1; clear hc1 hf1; simp only [vV])
        go_roundw
        case rel => exact ⟨2, x0, _, x2, by omega, by go_num, v6 (OfAt.step1 (q9 hat) (q9 HX)), by simp [go_sem, q0], by simp [go_sem, q1], by simp [go_sem, q2], by simp [go_sem, q3], by simp [go_sem, q4], by simp [go_sem, q5], by simp [go_sem, q6], by simp [go_sem, q7], by simp [go_sem, q8], by simp [go_sem, s0], by simp [go_sem, s1], by simp [go_sem, s2], fun j => by simp [go_sem, f1], fun j => by simp [go_sem, f0], by simpa using hz1, v6 ((((v7 (q9 hbel) (q9 hb1)).setCell (by simp) _).setCell (by simp) _).setCell (by simp) _)⟩
        case measure => simp [intOf]; omega
      · go_wp2_with (go_at_call 161; refine (q9 CX _ _ (q9 HNX) (q9 HEV)).mono ?_; rintro e w1 ⟨rfl, hb1⟩; obtain ⟨hc1, hf1⟩ := j5 hb1; have hz1 : w.heap.size + 1 < w1.heap.size := (by have := hb1.size; omega); have q0 : w1.cell? ⟨w.heap.size + 1, 0, none⟩ = some (.int .i64 x0.kind) := (hc1 _ 0 (by omega)).trans a0; have q1 : w1.cell? ⟨w.heap.size + 1, 1, none⟩ = some (.int .i64 x0.num) := (hc1 _ 1 (by omega)).trans a1; have q2 : w1.cell? ⟨w.heap.size + 1, 2, none⟩ = some (.string (BS x0.str)) := (hc1 _ 2 (by omega)).trans a2; have q3 : w1.cell? ⟨w.heap.size + 1, 3, none⟩ = some (.int .i64 x1.kind) := (hc1 _ 3 (by omega)).trans a3; have q4 : w1.cell? ⟨w.heap.size + 1, 4, none⟩ = some (.int .i64 x1.num) := (hc1 _ 4 (by omega)).trans a4; have q5 : w1.cell? ⟨w.heap.size + 1, 5, none⟩ = some (.string (BS x1.str)) := (hc1 _ 5 (by omega)).trans a5; have q6 : w1.cell? ⟨w.heap.size + 1, 6, none⟩ = some (.int .i64 x2.kind) := (hc1 _ 6 (by omega)).trans a6; have q7 : w1.cell? ⟨w.heap.size + 1, 7, none⟩ = some (.int .i64 x2.num) := (hc1 _ 7 (by omega)).trans a7; have q8 : w1.cell? ⟨w.heap.size + 1, 8, none⟩ = some (.string (BS x2.str)) := (hc1 _ 8 (by omega)).trans a8; have s0 : w1.cell? ⟨w.heap.size, 0, none⟩ = some (.int .i64 0) := (hc1 _ 0 (by omega)).trans r0; have s1 : w1.cell? ⟨w.heap.size, 1, none⟩ = some (.int .i64 0) := (hc1 _ 1 (by omega)).trans r1; have s2 : w1.cell? ⟨w.heap.size, 2, none⟩ = some (.string ⟨#[]⟩) := (hc1 _ 2 (by omega)).trans r2; have f1 : ∀ j, w1.frozen? ⟨w.heap.size + 1, j, none⟩ = false := (fun j => (hf1 _ j (by omega)).trans (fz j)); have f0 : ∀ j, w1.frozen? ⟨w.heap.size, j, none⟩ = false := (fun j => (hf1 _ j (by omega)).trans (fr j)); have hb1 := v6 hb1; clear hc1 hf1; simp only [vV])
        go_roundw
        case rel => exact ⟨3, x0, x1, _, by omega, by go_num, v6 (OfAt.step2 (q9 hat) (q9 HX)), by simp [go_sem, q0], by simp [go_sem, q1], by simp [go_sem, q2], by simp [go_sem, q3], by simp [go_sem, q4], by simp [go_sem, q5], by simp [go_sem, q6], by simp [go_sem, q7], by simp [go_sem, q8], by simp [go_sem, s0], by simp [go_sem, s1], by simp [go_sem, s2], fun j => by simp [go_sem, f1], fun j => by simp [go_sem, f0], by simpa using hz1, v6 ((((v7 (q9 hbel) (q9 hb1)).setCell (by simp) _).setCell (by simp) _).setCell (by simp) _)⟩
        case measure => simp [intOf]; omega
    · have hkn : k = (j3 t).length := by have := q9 HN; omega
      have HDONE : Hid (qs6 (y7 t) x0 x1 x2 = r) := v6 (by rw [OfAt.done (by rw [← hkn]; exact q9 hat)]; exact q9 HR)
      have HRN := v6 ((q9 hat).rng (q9 HRNG))
      have HLN := v6 ((q9 hat).len (q9 HLEN))
      have HJN := v6 (q9 HJ wr b x0 x1 x2 (q9 HRN).1 (q9 HRN).2.1 (q9 HRN).2.2 (q9 HLN) ((q9 HNODE).kept (Kept.of_below (q9 hbel))))
      clear hkn hat
      go_wp2_with (go_at_call 199; refine (q9 HJN).mono ?_; rw [q9 HDONE]; rintro e w1 ⟨rfl, hb1⟩; obtain ⟨hc1, hf1⟩ := j5 hb1; have hz1 : w.heap.size + 1 < w1.heap.size := (by have := hb1.size; omega); have s0 : w1.cell? ⟨w.heap.size, 0, none⟩ = some (.int .i64 0) := (hc1 _ 0 (by omega)).trans r0; have s1 : w1.cell? ⟨w.heap.size, 1, none⟩ = some (.int .i64 0) := (hc1 _ 1 (by omega)).trans r1; have s2 : w1.cell? ⟨w.heap.size, 2, none⟩ = some (.string ⟨#[]⟩) := (hc1 _ 2 (by omega)).trans r2; have f1 : ∀ j, w1.frozen? ⟨w.heap.size, j, none⟩ = false := (fun j => (hf1 _ j (by omega)).trans (fr j)); simp only [vV])
      refine bodyPost_ret (by simp [results, Tryz.results161, go_sem, s0, s1, s2] <;> rfl) rfl ⟨rfl, ?_⟩
      exact (((v7 (q9 hbel) hb1).setCell (by simp) _).setCell (by simp) _).setCell (by simp) _
end
section
structure AmAt (w W : World) (F : Nat) (x f : V) : Prop where
  x0 : W.cell? ⟨w.heap.size, 0, none⟩ = some (.int .i64 x.kind)
  x1 : W.cell? ⟨w.heap.size, 1, none⟩ = some (.int .i64 x.num)
  x2 : W.cell? ⟨w.heap.size, 2, none⟩ = some (.string (BS x.str))
  r0 : W.cell? ⟨w.heap.size + 1, 0, none⟩ = some (.int .i64 0)
  r1 : W.cell? ⟨w.heap.size + 1, 1, none⟩ = some (.int .i64 0)
  r2 : W.cell? ⟨w.heap.size + 1, 2, none⟩ = some (.string ⟨#[]⟩)
  f0 : W.cell? ⟨F, 0, none⟩ = some (.int .i64 f.kind)
  f1 : W.cell? ⟨F, 1, none⟩ = some (.int .i64 f.num)
  f2 : W.cell? ⟨F, 2, none⟩ = some (.string (BS f.str))
  fr : ∀ j, W.frozen? ⟨w.heap.size + 1, j, none⟩ = false
  ff : ∀ j, W.frozen? ⟨F, j, none⟩ = false
  ge : w.heap.size + 1 < F
  lt : F < W.heap.size
  below : Below w.heap.size w W
theorem AmAt.next {w W W' : World} {F : Nat} {x f : V} (h : AmAt w W F x f) (hb : Below W.heap.size W W') : AmAt w W' F x f := by
  obtain ⟨hc, hf⟩ := j5 hb
  have hl := h.lt
  have hg := h.ge
  exact ⟨(hc _ 0 (by omega)).trans h.x0, (hc _ 1 (by omega)).trans h.x1, (hc _ 2 (by omega)).trans h.x2, (hc _ 0 (by omega)).trans h.r0, (hc _ 1 (by omega)).trans h.r1, (hc _ 2 (by omega)).trans h.r2, (hc _ 0 (by omega)).trans h.f0, (hc _ 1 (by omega)).trans h.f1, (hc _ 2 (by omega)).trans h.f2, fun j => (hf _ j (by omega)).trans (h.fr j), fun j => (hf _ j (by omega)).trans (h.ff j), hg, Nat.lt_of_lt_of_le hl hb.size, v7 h.below hb⟩
theorem AmAt.drew {w W : World} {F : Nat} {x f : V} (h : AmAt w W F x f) : AmAt w W.drew F x f := h.next ((Below.refl _ _).drew)
theorem TextsAt.any {lo : Nat} {w : World} {v : Value} {ts : List (List UInt8)} (h : TextsAt lo w v ts) : ∃ a c, v = .slice a ts.length c ∧ ∀ (j : Nat) (t : List UInt8), ts[j]? = some t → ∃ g, a = some ⟨g, 0, none⟩ ∧ g < w.heap.size ∧ w.cell? ⟨g, j, none⟩ = some (.string (BS t)) := by
  rcases h with ⟨rfl, rfl⟩ | ⟨g, c, rfl, _, h2, h3⟩
  · exact ⟨none, 0, rfl, fun j t hj => by simp at hj⟩
  · exact ⟨_, c, rfl, fun j t hj => ⟨g, rfl, h2, h3 j t hj⟩⟩
theorem AmAt.store {w W : World} {F : Nat} {x f : V} (h : AmAt w W F x f) (f' : V) : AmAt w (((W.setCell ⟨F, 0, none⟩ (.int .i64 f'.kind)).setCell ⟨F, 1, none⟩ (.int .i64 f'.num)).setCell ⟨F, 2, none⟩ (.string (BS f'.str))) F x f' := by
  have hg := h.ge
  have d0 : ¬ F = w.heap.size := by omega
  have d1 : ¬ F = w.heap.size + 1 := by omega
  have d2 : ¬ w.heap.size = F := by omega
  have d3 : ¬ w.heap.size + 1 = F := by omega
  refine ⟨?_, ?_, ?_, ?_, ?_, ?_, ?_, ?_, ?_, fun j => ?_, fun j => ?_, hg, by simpa using h.lt, ((h.below.setCell (by show w.heap.size ≤ F; omega) _).setCell (by show w.heap.size ≤ F; omega) _).setCell (by show w.heap.size ≤ F; omega) _⟩
  · simp [go_sem, h.x0]
  · simp [go_sem, h.x1]
  · simp [go_sem, h.x2]
  · simp [go_sem, h.r0]
  · simp [go_sem, h.r1]
  · simp [go_sem, h.r2]
  · simp [go_sem, h.f0]
  · simp [go_sem, h.f1]
  · simp [go_sem, h.f2]
  · simp [go_sem, h.fr]
  · simp [go_sem, h.ff]
theorem am_start (w w0 : World) (x : V) (hb : Below ((w.alloc (.cells #[.int .i64 x.kind, .int .i64 x.num, .string (BS x.str)] 118)).alloc (.cells #[.int .i64 0, .int .i64 0, .string ⟨#[]⟩] 118)).heap.size ((w.alloc (.cells #[.int .i64 x.kind, .int .i64 x.num, .string (BS x.str)] 118)).alloc (.cells #[.int .i64 0, .int .i64 0, .string ⟨#[]⟩] 118)) w0) :
    AmAt w (w0.alloc (.cells #[.int .i64 (bV false).kind, .int .i64 (bV false).num, .string (BS (bV false).str)] 118)) w0.heap.size x (bV false) := by
  obtain ⟨hc, hf⟩ := j5 hb
  have hz := hb.size
  simp at hz
  refine ⟨?_, ?_, ?_, ?_, ?_, ?_, ?_, ?_, ?_, fun j => ?_, fun j => ?_, by omega, by simp, z9 (v7 (qg3 w _ _) hb) _⟩
  · rw [World.cell?_alloc_past _ _ _ (by omega), hc _ 0 (by simp; omega), World.cell?_alloc_past _ _ _ (by simp), World.cell?_alloc_at _ _ _ _ rfl]; rfl
  · rw [World.cell?_alloc_past _ _ _ (by omega), hc _ 1 (by simp; omega), World.cell?_alloc_past _ _ _ (by simp), World.cell?_alloc_at _ _ _ _ rfl]; rfl
  · rw [World.cell?_alloc_past _ _ _ (by omega), hc _ 2 (by simp; omega), World.cell?_alloc_past _ _ _ (by simp), World.cell?_alloc_at _ _ _ _ rfl]; rfl
  · rw [World.cell?_alloc_past _ _ _ (by omega), hc _ 0 (by simp), World.cell?_alloc_at _ _ _ _ (by simp)]; rfl
  · rw [World.cell?_alloc_past _ _ _ (by omega), hc _ 1 (by simp), World.cell?_alloc_at _ _ _ _ (by simp)]; rfl
  · rw [World.cell?_alloc_past _ _ _ (by omega), hc _ 2 (by simp), World.cell?_alloc_at _ _ _ _ (by simp)]; rfl
  · rw [World.cell?_alloc_at _ _ _ _ rfl]; rfl
  · rw [World.cell?_alloc_at _ _ _ _ rfl]; rfl
  · rw [World.cell?_alloc_at _ _ _ _ rfl]; rfl
  · rw [World.frozen?_alloc_past _ _ _ (by omega), hf _ j (by simp), World.frozen?_alloc_at _ _ _ _ (by simp)]
  · rw [World.frozen?_alloc_at _ _ _ _ rfl]
def vp4 (x f : V) (t : List UInt8) : V := orV f (eqV x (tV t))
theorem am_more {x f : V} {ts : List (List UInt8)} {k : Nat} {t : List UInt8} (h : ts[k]? = some t) : (ts.drop k).foldl (vp4 x) f = (ts.drop (k + 1)).foldl (vp4 x) (orV f (eqV x (tV t))) := by
  obtain ⟨hk, he⟩ := List.getElem?_eq_some_iff.1 h
  rw [List.drop_eq_getElem_cons hk, he]; rfl
theorem am_end {x f : V} {ts : List (List UInt8)} {k : Nat} (h : ts.length ≤ k) : (ts.drop k).foldl (vp4 x) f = f := by
  rw [List.drop_of_length_le h]; rfl
set_option maxHeartbeats 2000000 in
set_option maxRecDepth 100000 in
theorem among_any (lo : Nat) (t : Ast) (hts : (y7 t).texts.length ≤ 1000) (w : World) (b : Nat) (x : V) (h : IsNode lo w (.pointer (some ⟨b, 0, none⟩)) t) :
    Calls Tryz.prog 229 #[.pointer (some ⟨b, 0, none⟩), vV x] w fun e w' => e = .returned (vV (vx2 x (y7 t).texts)) ∧ Below w.heap.size w w' := by
  obtain ⟨b', sv, hb, hnode, _⟩ := h.parts
  obtain rfl : b = b' := by simpa using hb
  obtain ⟨tv, c6, htx⟩ := hnode.c6
  have hbw := hnode.within
  obtain ⟨ta, tc, rfl, htxt⟩ := htx.any
  obtain ⟨R, hR⟩ : ∃ r, vx2 x (y7 t).texts = r := ⟨_, rfl⟩
  rw [hR]
  have HR : Hid ((y7 t).texts.foldl (vp4 x) (bV false) = R) := v6 hR
  obtain ⟨ts, hts'⟩ : ∃ l, (y7 t).texts = l := ⟨_, rfl⟩
  rw [hts'] at hts HR c6 htxt
  obtain ⟨n, hn⟩ : ∃ n, ts.length = n := ⟨_, rfl⟩
  rw [hn] at hts c6
  have HN := v6 hn
  have HT := v6 htxt
  clear hR hts' hnode htx hb h hn htxt
  conv => arg 3; simp only [vV]
  have m1 : b < w.heap.size + 1 := by omega
  have m2 : b < w.heap.size + 1 + 1 := by omega
  go_enter Tryz.func229, Tryz.ntmps229
  go_wp2_with (go_at_call 70; refine (qf5 false _).mono ?_; rintro e w0 ⟨rfl, hb0⟩; have c6' : w0.cell? ⟨b, 6, none⟩ = some (.slice ta n tc) := ((j5 hb0).1 _ 6 (by simp; omega)).trans (by rw [World.cell?_alloc_past _ _ _ (by simp; omega), World.cell?_alloc_past _ _ _ (by omega)]; exact c6); have hz0 : w.heap.size + 1 < w0.heap.size := (by have := hb0.size; simp at this; omega); have hbz : b < w0.heap.size := (by omega); have AM : Hid (AmAt w (w0.alloc (.cells #[.int .i64 (bV false).kind, .int .i64 (bV false).num, .string (BS (bV false).str)] 118)) w0.heap.size x (bV false)) := v6 (am_start w w0 x hb0); clear hb0; simp only [vV])
  go_loopw [14] (fun i wr => ∃ (k : Nat) (f : V), k ≤ n ∧ i = .int .i64 k ∧ Hid (R = (ts.drop k).foldl (vp4 x) f) ∧ Hid (AmAt w wr w0.heap.size x f)) (fun i _ => n - (intOf i).toNat)
  case atStart => exact ⟨0, bV false, Nat.zero_le _, rfl, v6 (by rw [List.drop_zero, q9 HR]), AM⟩
  case round =>
    obtain ⟨k, f, hk, rfl, hh, hAM⟩ := hrel
    by_cases hlt : k < n
    · obtain ⟨s, hs⟩ : ∃ s, ts[k]? = some s := ⟨_, List.getElem?_eq_getElem (by rw [q9 HN]; exact hlt)⟩
      obtain ⟨g, rfl, hg2, hcs⟩ := q9 HT k s hs
      have dg := ((q9 hAM).below.cell (p := ⟨g, k, none⟩) hg2).trans hcs
      have HH : Hid (R = (ts.drop (k + 1)).foldl (vp4 x) (orV f (eqV x (tV s)))) := v6 (by rw [q9 hh, am_more hs])
      have AM0 := v6 (q9 hAM).drew
      clear hh hs hcs AM hAM
      go_wp2_with fail
      obtain ⟨x0_0, x1_0, x2_0, r0_0, r1_0, r2_0, f0_0, f1_0, f2_0, fr_0, ff_0, ge_0, lt_0, bel_0⟩ := q9 AM0
      go_region_with (first | (go_at_call 104; refine (vm6 (BS s) _).mono ?_; rw [qp9]; rintro e w1 ⟨rfl, hb1⟩; have AM1 := v6 ((q9 AM0).next hb1); obtain ⟨x0_1, x1_1, x2_1, r0_1, r1_1, r2_1, f0_1, f1_1, f2_1, fr_1, ff_1, ge_1, lt_1, bel_1⟩ := q9 AM1; clear hb1) | (go_at_call 151; refine (ve3 x (tV s) _).mono ?_; rintro e w2 ⟨rfl, hb2⟩; have AM2 := v6 ((q9 AM1).next hb2); obtain ⟨x0_2, x1_2, x2_2, r0_2, r1_2, r2_2, f0_2, f1_2, f2_2, fr_2, ff_2, ge_2, lt_2, bel_2⟩ := q9 AM2; clear hb2) | (go_at_call 150; refine (vOr_any f (eqV x (tV s)) _).mono ?_; rintro e w3 ⟨rfl, hb3⟩; have AM3 := v6 ((q9 AM2).next hb3); obtain ⟨x0_3, x1_3, x2_3, r0_3, r1_3, r2_3, f0_3, f1_3, f2_3, fr_3, ff_3, ge_3, lt_3, bel_3⟩ := q9 AM3; clear hb3; simp only [vV]))
      all_goals
        go_wp2_with fail
        go_roundw
        case rel => exact ⟨k + 1, _, by omega, by go_num, HH, v6 ((q9 AM3).store _)⟩
        case measure => simp [intOf]; omega
    · have HH : Hid (R = f) := v6 (by rw [q9 hh, am_end (by rw [q9 HN]; omega)])
      have AM0 := hAM
      clear hh AM hAM
      obtain ⟨x0_0, x1_0, x2_0, r0_0, r1_0, r2_0, f0_0, f1_0, f2_0, fr_0, ff_0, ge_0, lt_0, bel_0⟩ := q9 AM0
      go_wp2_with fail
      refine bodyPost_ret (by simp [results, Tryz.results229, go_sem, r0_0, r1_0, r2_0] <;> rfl) rfl ⟨?_, ?_⟩
      · rw [q9 HH]; rfl
      · exact ((bel_0.setCell (by simp) _).setCell (by simp) _).setCell (by simp) _
end
end Go.Proofs.YtfkcaldjphakpabGreatDoor
