/- Messages and their order; a heap in memory: above, Before, before, swap. A heap in memory: rise. A heap in memory: Len, Push. A heap in memory: first, sink. A heap in memory: Pop. Subscriptions in memory; where one stands. -/
import Derived.Test.YtfkcaldjphakpabGreatDoorP20
import Derived.Deep.RegionHeld3
import Derived.Deep.RegionWith
namespace Go.Proofs.YtfkcaldjphakpabGreatDoor
open Go.RowKit
section
structure Mg where
  pri : Int
  num : Int
def bef (x y : Mg) : Bool := if x.pri != y.pri then decide (y.pri < x.pri) else decide (x.num < y.num)
def mgV (x : Mg) : Value := .agg #[.int .i64 x.pri, .int .i64 x.num]
set_option maxHeartbeats 400000 in
theorem before_mg (x y : Mg) (w : World) : Calls Tryz.prog 159 #[mgV x, mgV y] w fun e w' => e = .returned (.bool (bef x y)) ∧ Below w.heap.size w w' := by
  unfold mgV
  by_cases h : x.pri = y.pri
  · have hb : bef x y = decide (x.num < y.num) := by simp [bef, h]
    have hd : (x.pri != y.pri) = false := by simp [h]
    rw [hb]
    go_enter Tryz.func159, Tryz.ntmps159
    go_wp2_with fail
    go_ret
    exact ⟨rfl, qh1 w _ _⟩
  · have hb : bef x y = decide (y.pri < x.pri) := by simp [bef, h]
    have hd : (x.pri != y.pri) = true := by simp [h]
    have hg : decide (x.pri > y.pri) = decide (y.pri < x.pri) := rfl
    rw [hb]
    go_enter Tryz.func159, Tryz.ntmps159
    go_wp2_with fail
    go_ret
    exact ⟨rfl, qh1 w _ _⟩
set_option maxHeartbeats 400000 in
theorem above_any (k : Nat) (hk : k ≤ 1000) (w : World) : Calls Tryz.prog 108 #[.int .i64 ((k + 1 : Nat) : Int)] w fun e w' => e = .returned (.int .i64 ((k / 2 : Nat) : Int)) ∧ w' = w := by
  have h1 : (((k + 1 : Nat) : Int) - 1) = (k : Int) := by omega
  go_enter Tryz.func108, Tryz.ntmps108
  go_wp2_with fail
  go_ret
  exact ⟨rfl, rfl⟩
def MgBlk (w : World) (g cap : Nat) : Prop := cap ≤ maxLen ∧ ∃ cur : Array Value, w.heap[g]? = some (.cells cur 102 (0, 0)) ∧ cur.size = cap * 2
theorem MgBlk.same {w w' : World} {g cap : Nat} (h : MgBlk w g cap) (hb : w'.heap[g]? = w.heap[g]?) : MgBlk w' g cap := by
  obtain ⟨hm, cur, h1, h2⟩ := h
  exact ⟨hm, cur, hb.trans h1, h2⟩
theorem MgBlk.set {w : World} {g cap : Nat} (h : MgBlk w g cap) (o : Nat) (v : Value) : MgBlk (w.setCell ⟨g, o, none⟩ v) g cap := by
  obtain ⟨hm, cur, h1, h2⟩ := h
  refine ⟨hm, cur.setIfInBounds o v, ?_, by simpa using h2⟩
  simp [World.setCell, Array.getElem?_modify, h1]
structure HpAt (w : World) (hb ho g cap : Nat) (ms : List Mg) : Prop where
  c : w.cell? ⟨hb, ho, none⟩ = some (.slice (some ⟨g, 0, none⟩) ms.length cap)
  fz : w.frozen? ⟨hb, ho, none⟩ = false
  ne : g ≠ hb
  lt : hb < w.heap.size
  glt : g < w.heap.size
  pri : ∀ (i : Nat) (m : Mg), ms[i]? = some m → w.cell? ⟨g, i * 2, none⟩ = some (.int .i64 m.pri) ∧ w.cell? ⟨g, i * 2 + 1, none⟩ = some (.int .i64 m.num)
  gfz : ∀ j, w.frozen? ⟨g, j, none⟩ = false
  blk : MgBlk w g cap
  room : ms.length ≤ cap
theorem HpAt.below {w w' : World} {hb ho g cap : Nat} {ms : List Mg} (h : HpAt w hb ho g cap ms) (hB : Below w.heap.size w w') : HpAt w' hb ho g cap ms := by
  obtain ⟨hc, hf⟩ := j6 hB
  exact ⟨(hc hb ho h.lt).trans h.c, (hf hb ho h.lt).trans h.fz, h.ne, Nat.lt_of_lt_of_le h.lt hB.size, Nat.lt_of_lt_of_le h.glt hB.size, fun i m hm => ⟨(hc g _ h.glt).trans (h.pri i m hm).1, (hc g _ h.glt).trans (h.pri i m hm).2⟩, fun j => (hf g j h.glt).trans (h.gfz j), h.blk.same (hB.block g h.glt), h.room⟩
theorem HpAt.swap {w : World} {hb ho g cap : Nat} {ms : List Mg} (h : HpAt w hb ho g cap ms) {i j : Nat} {x y : Mg} (hx : ms[i]? = some x) (hy : ms[j]? = some y) (hij : i ≠ j) :
    HpAt ((((w.setCell ⟨g, i * 2, none⟩ (.int .i64 y.pri)).setCell ⟨g, i * 2 + 1, none⟩ (.int .i64 y.num)).setCell ⟨g, j * 2, none⟩ (.int .i64 x.pri)).setCell ⟨g, j * 2 + 1, none⟩ (.int .i64 x.num)) hb ho g cap ((ms.set i y).set j x) := by
  obtain ⟨c, fz, ne, lt, glt, cells, gfz, blk, room⟩ := h
  obtain ⟨x0, x1⟩ := cells i x hx
  obtain ⟨y0, y1⟩ := cells j y hy
  have hi : i < ms.length := (List.getElem?_eq_some_iff.1 hx).1
  have hj : j < ms.length := (List.getElem?_eq_some_iff.1 hy).1
  have ne' : ¬ hb = g := fun e => ne e.symm
  refine ⟨by simp [go_sem, c], by simp [go_sem, fz], ne, by simpa using lt, by simpa using glt, fun k m hm => ?_, fun j => by simp [go_sem, gfz], (((blk.set _ _).set _ _).set _ _).set _ _, by simpa using room⟩
  by_cases hkj : k = j
  · subst hkj
    rw [List.getElem?_set_self (by simpa using hj)] at hm
    simp at hm
    subst hm
    constructor <;> simp [go_sem, y0, y1]
  · rw [List.getElem?_set_ne (fun e => hkj e.symm)] at hm
    by_cases hki : k = i
    · subst hki
      rw [List.getElem?_set_self hi] at hm
      simp at hm
      subst hm
      constructor <;> simp [go_sem, x0, x1]
    · rw [List.getElem?_set_ne (fun e => hki e.symm)] at hm
      obtain ⟨m0, m1⟩ := cells k m hm
      constructor <;> simp [go_sem, m0, m1]
set_option maxHeartbeats 800000 in
theorem jr1 (hb ho g cap : Nat) (ms : List Mg) (i j : Nat) (x y : Mg) (hx : ms[i]? = some x) (hy : ms[j]? = some y) (hij : i ≠ j) (w : World) (h : HpAt w hb ho g cap ms) :
    Calls Tryz.prog 109 #[.pointer (some ⟨hb, ho, none⟩), .int .i64 i, .int .i64 j] w fun e w' => e = .returned (.tuple #[]) ∧ HpAt w' hb ho g cap ((ms.set i y).set j x) ∧ Kept g w w' := by
  have HS := v6 ((h.below (Below.refl _ _).drew).swap hx hy hij)
  obtain ⟨c, fz, ne, lt, glt, cells, gfz, blk, room⟩ := h
  obtain ⟨x0, x1⟩ := cells i x hx
  obtain ⟨y0, y1⟩ := cells j y hy
  have hi : i < ms.length := (List.getElem?_eq_some_iff.1 hx).1
  have hj : j < ms.length := (List.getElem?_eq_some_iff.1 hy).1
  obtain ⟨n, hn⟩ : ∃ n, ms.length = n := ⟨_, rfl⟩
  rw [hn] at c hi hj
  have i0 : (0 : Int) ≤ (i : Int) := by omega
  have i1 : (i : Int) < (n : Int) := by omega
  have j0 : (0 : Int) ≤ (j : Int) := by omega
  have j1 : (j : Int) < (n : Int) := by omega
  have d0 : ¬ i * 2 = j * 2 := by omega
  have d1 : ¬ i * 2 + 1 = j * 2 := by omega
  have d2 : ¬ i * 2 = j * 2 + 1 := by omega
  have d3 : ¬ j * 2 = i * 2 := by omega
  have d4 : ¬ j * 2 = i * 2 + 1 := by omega
  have d5 : ¬ i = j := hij
  have d6 : ¬ j = i := fun e => hij e.symm
  have HK : Hid (Kept g w ((((w.setCell ⟨g, i * 2, none⟩ (.int .i64 y.pri)).setCell ⟨g, i * 2 + 1, none⟩ (.int .i64 y.num)).setCell ⟨g, j * 2, none⟩ (.int .i64 x.pri)).setCell ⟨g, j * 2 + 1, none⟩ (.int .i64 x.num)).drew) := v6 (((((Kept.refl g w).setCell _ _).setCell _ _).setCell _ _).setCell _ _).drew
  clear cells hx hy hn hij blk room
  go_enter Tryz.func109, Tryz.ntmps109
  go_region
  all_goals go_wp2_with fail
  all_goals exact bodyPost_end (results_none rfl _ _ _) rfl ⟨rfl, q9 HS, q9 HK⟩
def BS5 (hb ho g n cap i j : Nat) (x y : Mg) (w' : World) : Prop := w'.cell? ⟨hb, ho, none⟩ = some (.slice (some ⟨g, 0, none⟩) n cap) ∧ w'.cell? ⟨g, i * 2, none⟩ = some (.int .i64 x.pri) ∧ w'.cell? ⟨g, i * 2 + 1, none⟩ = some (.int .i64 x.num) ∧ w'.cell? ⟨g, j * 2, none⟩ = some (.int .i64 y.pri) ∧ w'.cell? ⟨g, j * 2 + 1, none⟩ = some (.int .i64 y.num)
theorem HpAt.bs5 {w : World} {hb ho g cap : Nat} {ms : List Mg} (h : HpAt w hb ho g cap ms) {i j : Nat} {x y : Mg} (hx : ms[i]? = some x) (hy : ms[j]? = some y) : BS5 hb ho g ms.length cap i j x y w :=
  ⟨h.c, (h.pri i x hx).1, (h.pri i x hx).2, (h.pri j y hy).1, (h.pri j y hy).2⟩
set_option maxHeartbeats 800000 in
theorem vr8 (hb ho g cap : Nat) (ms : List Mg) (i j : Nat) (x y : Mg) (hx : ms[i]? = some x) (hy : ms[j]? = some y) (w : World) (h : HpAt w hb ho g cap ms) :
    Calls Tryz.prog 107 #[.pointer (some ⟨hb, ho, none⟩), .int .i64 i, .int .i64 j] w fun e w' => e = .returned (.bool (bef x y)) ∧ Below w.heap.size w w' := by
  have hi : i < ms.length := (List.getElem?_eq_some_iff.1 hx).1
  have hj : j < ms.length := (List.getElem?_eq_some_iff.1 hy).1
  have s0 := (h.below (Below.refl _ _).drew).bs5 hx hy
  have SB : Hid (∀ w', Below w.heap.size w w' → BS5 hb ho g ms.length cap i j x y w') := v6 fun w' hB => (h.below hB).bs5 hx hy
  obtain ⟨n, hn⟩ : ∃ n, ms.length = n := ⟨_, rfl⟩
  rw [hn] at s0 SB hi hj
  have i0 : (0 : Int) ≤ (i : Int) := by omega
  have i1 : (i : Int) < (n : Int) := by omega
  have j0 : (0 : Int) ≤ (j : Int) := by omega
  have j1 : (j : Int) < (n : Int) := by omega
  unfold BS5 at s0
  have BM := v6 (fun w => before_mg x y w)
  unfold mgV at BM
  clear h hx hy hn
  go_enter Tryz.func107, Tryz.ntmps107
  go_wp2_with fail
  go_region_held3 (fun w' => w'.cell? ⟨hb, ho, none⟩ = some (.slice (some ⟨g, 0, none⟩) n cap) ∧ w'.cell? ⟨g, i * 2, none⟩ = some (.int .i64 x.pri) ∧ w'.cell? ⟨g, i * 2 + 1, none⟩ = some (.int .i64 x.num) ∧ w'.cell? ⟨g, j * 2, none⟩ = some (.int .i64 y.pri) ∧ w'.cell? ⟨g, j * 2 + 1, none⟩ = some (.int .i64 y.num)) (with_reducible assumption) ((go_at_call 159; refine (q9 BM _).mono ?_; rintro e w1 ⟨rfl, hb1⟩; have B1 := v6 (v7 (Below.refl _ w).drew hb1); have s1 := q9 SB w1 (q9 B1); unfold BS5 at s1; clear hb1))
  all_goals go_wp2_with fail
  all_goals go_ret
  all_goals exact ⟨rfl, q9 B1⟩
end
section
def vg7 : Nat → List Mg → Nat → List Mg
  | 0, ms, _ => ms
  | _ + 1, ms, 0 => ms
  | n + 1, ms, k + 1 => match ms[k + 1]?, ms[k / 2]? with
    | some x, some y => if bef x y then vg7 n ((ms.set (k + 1) y).set (k / 2) x) (k / 2) else ms
    | _, _ => ms
def jd9 (ms : List Mg) (k : Nat) : List Mg := vg7 (k + 1) ms k
theorem js4 (n : Nat) (ms : List Mg) : vg7 n ms 0 = ms := by cases n <;> rfl
theorem js6 {n : Nat} {ms : List Mg} {k : Nat} {x y : Mg} (hx : ms[k + 1]? = some x) (hy : ms[k / 2]? = some y) (hb : bef x y = false) : vg7 n ms (k + 1) = ms := by
  cases n with
  | zero => rfl
  | succ n => rw [vg7, hx, hy]; simp [hb]
theorem riseF_go {n : Nat} {ms : List Mg} {k : Nat} {x y : Mg} (hx : ms[k + 1]? = some x) (hy : ms[k / 2]? = some y) (hb : bef x y = true) : vg7 (n + 1) ms (k + 1) = vg7 n ((ms.set (k + 1) y).set (k / 2) x) (k / 2) := by
  rw [vg7, hx, hy]; simp [hb]
set_option maxHeartbeats 1000000 in
set_option maxRecDepth 100000 in
theorem rise_any (hb ho g cap : Nat) (ms : List Mg) (k : Nat) (hk : k < ms.length) (hn : ms.length ≤ 100) (w : World) (h : HpAt w hb ho g cap ms) :
    Calls Tryz.prog 71 #[.pointer (some ⟨hb, ho, none⟩), .int .i64 k] w fun e w' => e = .returned (.tuple #[]) ∧ HpAt w' hb ho g cap (jd9 ms k) ∧ Kept g w w' := by
  obtain ⟨R, hR⟩ : ∃ R, jd9 ms k = R := ⟨_, rfl⟩
  rw [hR]
  have HR : Hid (R = vg7 (k + 1) ms k) := v6 hR.symm
  have H0 := v6 h
  have HK0 : Hid (k < ms.length) := v6 hk
  have HN0 : Hid (ms.length ≤ 100) := v6 hn
  clear hR h hk hn
  go_enter Tryz.func71, Tryz.ntmps71
  go_wp2_with fail
  go_loopw [1] (fun i wr => ∃ (j n : Nat) (ms' : List Mg), i = .int .i64 j ∧ Hid (R = vg7 n ms' j) ∧ Hid (j < ms'.length) ∧ Hid (j < n) ∧ Hid (ms'.length ≤ 100) ∧ Hid (HpAt wr hb ho g cap ms') ∧ Hid (Kept g w wr)) (fun i _ => (intOf i).toNat)
  case atStart => exact ⟨k, k + 1, ms, rfl, HR, HK0, v6 (Nat.lt_succ_self _), HN0, H0, v6 (Kept.refl _ _)⟩
  case round =>
    obtain ⟨j, n, ms', rfl, HR', HJ, HJN, HN, HH, HK⟩ := hrel
    cases j with
    | zero =>
      go_wp2_with fail
      exact bodyPost_end (results_none rfl _ _ _) rfl ⟨rfl, by rw [q9 HR', js4]; exact q9 HH, q9 HK⟩
    | succ j =>
      obtain ⟨x, hx⟩ : ∃ x, ms'[j + 1]? = some x := ⟨_, List.getElem?_eq_getElem (q9 HJ)⟩
      obtain ⟨y, hy⟩ : ∃ y, ms'[j / 2]? = some y := ⟨_, List.getElem?_eq_getElem (by have := q9 HJ; omega)⟩
      have hj : j ≤ 1000 := by have := q9 HJ; have := q9 HN; omega
      have AB := v6 (fun w => above_any j hj w)
      have BE := v6 (fun w1 (hB : Below wr.heap.size wr w1) => vr8 hb ho g cap ms' (j + 1) (j / 2) x y hx hy w1 ((q9 HH).below hB))
      have hd0 : decide (((j + 1 : Nat) : Int) > 0) = true := decide_eq_true (by omega)
      cases hbef : bef x y with
      | false =>
        rw [hbef] at BE
        have hS := v6 (js6 (n := n) hx hy hbef)
        clear hx hy
        go_wp2_with (first | (go_at_call 107; refine (q9 BE _ (Below.refl _ _)).mono ?_; rintro e w2 ⟨rfl, hb2⟩; have B2 := v6 hb2; clear hb2) | (go_at_call 108; refine (q9 AB _).mono ?_; rintro e w1 ⟨rfl, rfl⟩))
        exact bodyPost_end (results_none rfl _ _ _) rfl ⟨rfl, by rw [q9 HR', q9 hS]; exact (q9 HH).below (q9 B2), (q9 HK).trans (Kept.of_below (q9 B2))⟩
      | true =>
        rw [hbef] at BE
        obtain ⟨n', rfl⟩ : ∃ n', n = n' + 1 := ⟨n - 1, by have := q9 HJN; omega⟩
        have hS := v6 (riseF_go (n := n') hx hy hbef)
        have SW := v6 (fun w1 (hB : Below wr.heap.size wr w1) => jr1 hb ho g cap ms' (j + 1) (j / 2) x y hx hy (by omega) w1 ((q9 HH).below hB))
        have hlen : Hid (((ms'.set (j + 1) y).set (j / 2) x).length = ms'.length) := v6 (by simp)
        clear hx hy
        go_wp2_with (first | (go_at_call 109; refine (q9 SW _ (q9 B2)).mono ?_; rintro e w3 ⟨rfl, hh3, hk3⟩; have H3 := v6 hh3; have K3 := v6 (((q9 HK).trans (Kept.of_below (q9 B2))).trans hk3); clear hh3 hk3) | (go_at_call 107; refine (q9 BE _ (Below.refl _ _)).mono ?_; rintro e w2 ⟨rfl, hb2⟩; have B2 := v6 hb2; clear hb2) | (go_at_call 108; refine (q9 AB _).mono ?_; rintro e w1 ⟨rfl, rfl⟩))
        exact ⟨⟨j / 2, n', _, rfl, v6 (by rw [q9 HR', q9 hS]), v6 (by have := q9 HJ; rw [q9 hlen]; omega), v6 (by have := q9 HJN; omega), v6 (by rw [q9 hlen]; exact q9 HN), H3, K3⟩, by simp [intOf]; omega⟩
end
section
attribute [local go_sem ↓] qd6
def qp2 (ms : List Mg) : List Value := ms.flatMap fun m => [.int .i64 m.pri, .int .i64 m.num]
theorem qz7 (ms : List Mg) : (qp2 ms).length = ms.length * 2 := by
  induction ms with
  | nil => rfl
  | cons t ts ih => rw [qp2, List.flatMap_cons, List.length_append, ← qp2, ih]; simp; omega
theorem va2 {ms : List Mg} {i : Nat} {m : Mg} (h : ms[i]? = some m) : (qp2 ms)[i * 2]? = some (.int .i64 m.pri) ∧ (qp2 ms)[i * 2 + 1]? = some (.int .i64 m.num) := by
  induction ms generalizing i with
  | nil => simp at h
  | cons t ts ih =>
    rw [qp2, List.flatMap_cons, ← qp2]
    cases i with
    | zero =>
      simp at h
      subst h
      exact ⟨rfl, rfl⟩
    | succ i =>
      have := ih (by simpa using h)
      rw [List.getElem?_append_right (by show 2 ≤ _; omega), List.getElem?_append_right (by show 2 ≤ _; omega), show (i + 1) * 2 - [Value.int .i64 t.pri, Value.int .i64 t.num].length = i * 2 by show _ - 2 = _; omega, show (i + 1) * 2 + 1 - [Value.int .i64 t.pri, Value.int .i64 t.num].length = i * 2 + 1 by show _ - 2 = _; omega]
      exact this
theorem info_mg : (Tryz.prog.info? 102).map (fun i => (i.zero, i.size, i.bytes)) = some (some (.agg #[.int .i64 0, .int .i64 0]), 2, 16) := by kernel_rfl
structure HqAt (w : World) (hb ho : Nat) (v : Value) (base : Nat) (ms : List Mg) : Prop where
  c : w.cell? ⟨hb, ho, none⟩ = some v
  fz : w.frozen? ⟨hb, ho, none⟩ = false
  lt : hb < w.heap.size
  own : w.ownsRow base 102 2 v ms.length (qp2 ms)
  ne : v.ownBlock ≠ some hb
theorem HqAt.form {w : World} {hb ho : Nat} {v : Value} {base : Nat} {ms : List Mg} (h : HqAt w hb ho v base ms) : ∃ a c, v = .slice a ms.length c := by
  rcases h.own.2 with ⟨rfl, hn⟩ | ⟨g, cap, cur, rfl, _⟩
  · exact ⟨none, 0, by rw [hn]⟩
  · exact ⟨_, _, rfl⟩
theorem HqAt.hp {w : World} {hb ho base g cap n : Nat} {ms : List Mg} (h : HqAt w hb ho (.slice (some ⟨g, 0, none⟩) n cap) base ms) : HpAt w hb ho g cap ms ∧ base ≤ g ∧ n = ms.length := by
  have h0 := h.own
  rcases h.own.2 with ⟨hv, _⟩ | ⟨g', cap', cur, hv, hbg, hgg, hnc, hcm, hcs, _⟩
  · simp at hv
  · simp at hv
    obtain ⟨rfl, rfl, rfl⟩ := hv
    have hadd : ∀ j, (⟨g, 0, none⟩ : Addr).add j = ⟨g, j, none⟩ := fun j => by unfold Addr.add; split <;> simp_all
    refine ⟨⟨h.c, h.fz, fun e => h.ne (by rw [e]; rfl), h.lt, (Array.getElem?_eq_some_iff.1 hgg).1, fun i m hm => ?_, fun j => by simp [World.frozen?, hgg], ⟨hcm, cur, hgg, hcs⟩, hnc⟩, hbg, rfl⟩
    have h1 := World.ownsRow.cells h0 (g := g) rfl (i * 2) _ (va2 hm).1
    have h2 := World.ownsRow.cells h0 (g := g) rfl (i * 2 + 1) _ (va2 hm).2
    rw [hadd] at h1 h2
    exact ⟨h1, h2⟩
theorem HpAt.hq {w : World} {hb ho g cap base : Nat} {ms : List Mg} (h : HpAt w hb ho g cap ms) (hg : base ≤ g) : HqAt w hb ho (.slice (some ⟨g, 0, none⟩) ms.length cap) base ms := by
  obtain ⟨hm, cur, hh, hsz⟩ := h.blk
  have hroom := h.room
  refine ⟨h.c, h.fz, h.lt, ⟨qz7 ms, .inr ⟨g, cap, cur, rfl, hg, hh, hroom, hm, hsz, ?_⟩⟩, fun e => h.ne (by simpa [Value.ownBlock] using e)⟩
  apply List.ext_getElem?
  intro j
  have hcell : ∀ j, w.cell? ⟨g, j, none⟩ = cur[j]? := fun j => cell_of_row w g j cur _ _ hh
  rw [List.getElem?_take]
  by_cases hj : j < ms.length * 2
  · rw [if_pos hj]
    obtain ⟨m, hm⟩ : ∃ m, ms[j / 2]? = some m := ⟨_, List.getElem?_eq_getElem (by omega)⟩
    obtain ⟨h1, h2⟩ := h.pri _ m hm
    obtain ⟨k1, k2⟩ := va2 hm
    rw [hcell] at h1 h2
    rcases Nat.mod_two_eq_zero_or_one j with h0 | h0
    · have e : j / 2 * 2 = j := by omega
      rw [e] at h1 k1
      rw [k1, ← h1]
      simp
    · have e : j / 2 * 2 + 1 = j := by omega
      rw [e] at h2 k2
      rw [k2, ← h2]
      simp
  · rw [if_neg hj, List.getElem?_eq_none (by rw [qz7]; omega)]
structure PqKept (hb ho : Nat) (v v' : Value) (w w' : World) : Prop where
  os : w'.os = w.os
  tape : w'.tape = w.tape
  output : w'.output = w.output
  size : w.heap.size ≤ w'.heap.size
  block : ∀ k, k < w.heap.size → k ≠ hb → v.ownBlock ≠ some k → w'.heap[k]? = w.heap[k]?
  hdr : w'.heap[hb]? = (w.setCell ⟨hb, ho, none⟩ v').heap[hb]?
  row : ∀ k, v'.ownBlock = some k → v.ownBlock = some k ∨ w.heap.size ≤ k
theorem PqKept.next {hb ho g : Nat} {v v' : Value} {w W w' : World} (h : PqKept hb ho v v' w W) (hk : Kept g W w') (hg : v.ownBlock = some g ∨ w.heap.size ≤ g) (hne : g ≠ hb) (hlt : hb < w.heap.size) : PqKept hb ho v v' w w' := by
  have hz := h.size
  refine ⟨hk.os.trans h.os, hk.tape.trans h.tape, hk.output.trans h.output, Nat.le_trans h.size hk.size, fun k h1 h2 h3 => (hk.block k (by omega) (fun e => ?_)).trans (h.block k h1 h2 h3), (hk.block hb (by omega) (fun e => hne e.symm)).trans h.hdr, h.row⟩
  rcases hg with hg | hg
  · exact h3 (by rw [hg, e])
  · omega
set_option maxHeartbeats 400000 in
theorem hlen_any (hb ho base : Nat) (v : Value) (ms : List Mg) (w : World) (h : HqAt w hb ho v base ms) : Calls Tryz.prog 43 #[.pointer (some ⟨hb, ho, none⟩)] w fun e w' => e = .returned (.int .i64 ms.length) ∧ w' = w := by
  have c := h.c
  obtain ⟨a, cp, rfl⟩ := h.form
  clear h
  go_enter Tryz.func43, Tryz.ntmps43
  go_wp2_with fail
  go_ret
  exact ⟨rfl, rfl⟩
theorem HqAt.app {w : World} {hb ho base : Nat} {v : Value} {ms : List Mg} (h : HqAt w hb ho v base ms) (hbase : base ≤ w.heap.size) (hn : ms.length ≤ 1000) (m : Mg) (o : Obj) :
    ∃ g cap w5, (qn1 #[79, 79] 79 #[v, .slice (some ⟨w.heap.size + 1, 0, none⟩) 1 1]).run Tryz.prog ((w.alloc o).alloc (.cells #[.int .i64 m.pri, .int .i64 m.num] 102)).drew = .ok (.slice (some ⟨g, 0, none⟩) (ms.length + 1) cap) w5 ∧
      w5.cell? ⟨hb, ho, none⟩ = some v ∧ w5.frozen? ⟨hb, ho, none⟩ = false ∧ hb < w5.heap.size ∧
      Hid (HpAt (w5.setCell ⟨hb, ho, none⟩ (.slice (some ⟨g, 0, none⟩) (ms.length + 1) cap)) hb ho g cap (ms ++ [m])) ∧ Hid (base ≤ g) ∧
      Hid (PqKept hb ho v (.slice (some ⟨g, 0, none⟩) (ms.length + 1) cap) w (w5.setCell ⟨hb, ho, none⟩ (.slice (some ⟨g, 0, none⟩) (ms.length + 1) cap))) := by
  obtain ⟨i0, hi, hz0, hz1, hz2⟩ := info_parts info_mg
  have hlt := h.lt
  have hB : Below w.heap.size w (w.alloc o) := (Below.refl _ _).alloc (Nat.le_refl _) o
  obtain ⟨g, cap, w5, hr, hown, hgrow, hat, hlt5⟩ := run_append_lies (P := Tryz.prog) ((w.alloc o).alloc (.cells #[.int .i64 m.pri, .int .i64 m.num] 102)).drew 79 79 base 102 i0 _ 2 16 Tryz.underlying79 hi hz0 hz1 hz2 rfl (by omega) v ms.length (qp2 ms) (World.ownsRow.alloc (World.ownsRow.alloc h.own o) _)
    ⟨w.heap.size + 1, 0, none⟩ 1 1 [.int .i64 m.pri, .int .i64 m.num] rfl (World.news_of_block (cs := #[.int .i64 m.pri, .int .i64 m.num]) (t := 102) (fr := (0, 0)) (by have := heap_alloc_new (w.alloc o) (.cells #[.int .i64 m.pri, .int .i64 m.num] 102); rw [show (w.alloc o).heap.size = w.heap.size + 1 by simp] at this; exact this)) (by simp [Value.oneCell']) (by omega) (by unfold maxLen; omega) (by omega) (by simp; omega) _ rfl
  have hz := hgrow.size
  simp at hz hat
  have hold : ∀ k, k < w.heap.size → v.ownBlock ≠ some k → w5.heap[k]? = w.heap[k]? := fun k hk hne =>
    (hgrow.block k (by simp; omega) (fun e => hne e.symm)).trans ((Below.heap_alloc (w.alloc o) _ k (by simp; omega)).trans (Below.heap_alloc w o k hk))
  have hhb := hold hb hlt h.ne
  have c5 : w5.cell? ⟨hb, ho, none⟩ = some v := (World.cell?_of_block (w := w) (w' := w5) (a := ⟨hb, ho, none⟩) hhb).trans h.c
  have f5 : w5.frozen? ⟨hb, ho, none⟩ = false := (World.frozen?_of_block (w := w) (w' := w5) (a := ⟨hb, ho, none⟩) hhb).trans h.fz
  have hgne : g ≠ hb := by
    rcases hat with hat | hat
    · intro e; rw [e] at hat; exact h.ne hat
    · omega
  have hown' : (w5.setCell ⟨hb, ho, none⟩ (.slice (some ⟨g, 0, none⟩) (ms.length + 1) cap)).ownsRow base 102 2 (.slice (some ⟨g, 0, none⟩) (ms.length + 1) cap) (ms ++ [m]).length (qp2 (ms ++ [m])) := by
    rw [List.length_append, List.length_singleton, qp2, List.flatMap_append, List.flatMap_singleton]
    exact ownsRow_setCell_other hown (fun e => hgne (by simpa [Value.ownBlock] using e)) _
  have hq : HqAt (w5.setCell ⟨hb, ho, none⟩ (.slice (some ⟨g, 0, none⟩) (ms.length + 1) cap)) hb ho (.slice (some ⟨g, 0, none⟩) (ms.length + 1) cap) base (ms ++ [m]) :=
    ⟨by simp [go_sem, c5], by simp [go_sem, f5], by simp; omega, hown', fun e => hgne (by simpa [Value.ownBlock] using e)⟩
  obtain ⟨hp, hbg, _⟩ := hq.hp
  refine ⟨g, cap, w5, hr, c5, f5, by omega, v6 hp, v6 hbg, v6 ⟨hgrow.os, hgrow.tape, hgrow.output, by simp; omega, fun k hk h1 h2 => ?_, ?_, fun k hk => ?_⟩⟩
  · exact (Below.heap_setCell w5 ⟨hb, ho, none⟩ _ k (by show k ≠ hb; exact h1)).trans (hold k hk h2)
  · simp only [World.setCell, Array.getElem?_modify]
    rw [hhb]
  · have e : g = k := by simpa [Value.ownBlock] using hk
    subst e
    rcases hat with hat | hat
    · exact .inl hat
    · exact .inr (by omega)
def vp4 (ms : List Mg) (m : Mg) : List Mg := jd9 (ms ++ [m]) ms.length
theorem vg3 (n : Nat) : ∀ (ms : List Mg) (k : Nat), (vg7 n ms k).length = ms.length := by
  induction n with
  | zero => intro ms k; rfl
  | succ n ih =>
    intro ms k
    cases k with
    | zero => rfl
    | succ k =>
      rw [vg7]
      split
      · split
        · rw [ih]; simp
        · rfl
      · rfl
theorem vx5 (ms : List Mg) (m : Mg) : (vp4 ms m).length = ms.length + 1 := by
  rw [vp4, jd9, vg3]; simp
set_option maxHeartbeats 1000000 in
theorem push_any (hb ho base : Nat) (v : Value) (ms : List Mg) (m : Mg) (hn : ms.length ≤ 90) (w : World) (h : HqAt w hb ho v base ms) (hbase : base ≤ w.heap.size) :
    Calls Tryz.prog 44 #[.pointer (some ⟨hb, ho, none⟩), mgV m] w fun e w' => ∃ v', e = .returned (.tuple #[]) ∧ HqAt w' hb ho v' base (vp4 ms m) ∧ PqKept hb ho v v' w w' := by
  obtain ⟨g, cap, w5, hap, c5, f5, lt5, HP, HG, HK⟩ := h.app hbase (by omega) m (.cells #[.int .i64 m.pri, .int .i64 m.num] 102)
  have c := h.c
  have fz := h.fz
  have lt := h.lt
  have hlt1 : hb < w.heap.size + 1 := by omega
  have RI : Hid _ := v6 (rise_any hb ho g cap (ms ++ [m]) ms.length (by simp) (by simp; omega) _ (q9 HP))
  have HLT := v6 h.lt
  have HGS : Hid (v.ownBlock = some g ∨ w.heap.size ≤ g) := v6 ((q9 HK).row g rfl)
  have HNE : Hid (g ≠ hb) := v6 (q9 HP).ne
  obtain ⟨a, cp, rfl⟩ := h.form
  obtain ⟨n, hnl⟩ : ∃ n, ms.length = n := ⟨_, rfl⟩
  rw [hnl] at hap RI c HP HK HGS c5 ⊢
  have HN := v6 hnl
  rw [hnl] at hn
  have hw : IntKind.i64.wrap (((n + 1 : Nat) : Int) - 1) = (n : Int) := by rw [IntKind.wrap_i64]; omega
  have hw' : (((n + 1 : Nat) : Int) - 1) = (n : Int) := by omega
  unfold mgV
  clear h hnl
  go_enter Tryz.func44, Tryz.ntmps44
  go_wp2_with fail
  go_region
  all_goals go_wp2_with (go_at_call 71; refine (q9 RI).mono ?_; rintro e w6 ⟨rfl, h6, k6⟩; have H6 := v6 h6; have K6 := v6 k6; clear h6 k6)
  all_goals
    refine bodyPost_end (results_none rfl _ _ _) rfl ⟨.slice (some ⟨g, 0, none⟩) (n + 1) cap, rfl, ?_, (q9 HK).next (q9 K6) (q9 HGS) (q9 HNE) (q9 HLT)⟩
    have hq := (q9 H6).hq (q9 HG)
    have hl : (jd9 (ms ++ [m]) n).length = n + 1 := by rw [jd9, vg3]; simp [q9 HN]
    rw [hl] at hq
    have e : vp4 ms m = jd9 (ms ++ [m]) n := by rw [vp4, q9 HN]
    rw [e]
    exact hq
end
section
def je6 (ms : List Mg) (b f : Nat) : Nat := match ms[b]?, ms[f]? with
  | some x, some y => if bef x y then b else f
  | _, _ => f
def qn2 (ms : List Mg) : Nat → Nat → Nat → Nat
  | 0, _, f => f
  | n + 1, b, f => if b < ms.length then qn2 ms n (b + 1) (je6 ms b f) else f
def qv2 (ms : List Mg) (k : Nat) : Nat := qn2 ms 2 (2 * k + 1) k
theorem pickM_or (ms : List Mg) (b f : Nat) : je6 ms b f = b ∨ je6 ms b f = f := by
  unfold je6
  split
  · split <;> simp
  · exact .inr rfl
theorem firstG_or (ms : List Mg) (n : Nat) : ∀ (b f : Nat), qn2 ms n b f = f ∨ (b ≤ qn2 ms n b f ∧ qn2 ms n b f < b + n ∧ qn2 ms n b f < ms.length) := by
  induction n with
  | zero => intro b f; exact .inl rfl
  | succ n ih =>
    intro b f
    rw [qn2]
    by_cases hb : b < ms.length
    · rw [if_pos hb]
      rcases ih (b + 1) (je6 ms b f) with h | h
      · rw [h]
        rcases pickM_or ms b f with hp | hp
        · rw [hp]; exact .inr ⟨Nat.le_refl _, by omega, hb⟩
        · rw [hp]; exact .inl rfl
      · exact .inr ⟨by omega, by omega, h.2.2⟩
    · rw [if_neg hb]
      exact .inl rfl
theorem firstL_or (ms : List Mg) (k : Nat) : qv2 ms k = k ∨ (k < qv2 ms k ∧ qv2 ms k < ms.length) := by
  rcases firstG_or ms 2 (2 * k + 1) k with h | h
  · exact .inl h
  · exact .inr ⟨by unfold qv2; omega, h.2.2⟩
set_option maxHeartbeats 1000000 in
set_option maxRecDepth 100000 in
theorem vs7 (hb ho g cap : Nat) (ms : List Mg) (k : Nat) (hk : k ≤ 200) (hn : ms.length ≤ 100) (w : World) (h : HpAt w hb ho g cap ms) :
    Calls Tryz.prog 110 #[.pointer (some ⟨hb, ho, none⟩), .int .i64 k] w fun e w' => e = .returned (.int .i64 (qv2 ms k : Nat)) ∧ Below w.heap.size w w' := by
  obtain ⟨R, hR⟩ : ∃ R, qv2 ms k = R := ⟨_, rfl⟩
  rw [hR]
  have HR : Hid (R = qn2 ms 2 (2 * k + 1) k) := v6 hR.symm
  have H0 := v6 h
  clear hR h
  go_enter Tryz.func110, Tryz.ntmps110
  go_wp2_with fail
  go_loopw [5, 6] (fun f i wr => ∃ (b n f' : Nat), i = .int .i64 b ∧ f = .int .i64 f' ∧ b + n = 2 * k + 3 ∧ f' < b ∧ Hid (R = qn2 ms n b f') ∧ Hid (Below w.heap.size w wr)) (fun _ i _ => 2 * k + 3 - (intOf i).toNat)
  case atStart => exact ⟨2 * k + 1, 2, k, by simp, rfl, by omega, by omega, HR, v6 (Below.refl _ _)⟩
  case round =>
    obtain ⟨b, n, f, rfl, rfl, hbn, hfb, HR', HB⟩ := hrel
    have HH := v6 ((q9 H0).below (q9 HB))
    have c := (q9 HH).c
    obtain ⟨m, hm⟩ : ∃ m, ms.length = m := ⟨_, rfl⟩
    rw [hm] at c hn
    have HM := v6 hm
    clear hm
    cases n with
    | zero =>
      have hd : decide ((b : Int) ≤ 2 * (k : Int) + 2) = false := decide_eq_false (by omega)
      go_wp2_with fail
      go_ret
      exact ⟨by rw [q9 HR']; rfl, q9 HB⟩
    | succ n =>
      have hd : decide ((b : Int) ≤ 2 * (k : Int) + 2) = true := decide_eq_true (by omega)
      by_cases hbm : b < m
      · obtain ⟨x, hx⟩ : ∃ x, ms[b]? = some x := ⟨_, List.getElem?_eq_getElem (by have := q9 HM; omega)⟩
        obtain ⟨y, hy⟩ : ∃ y, ms[f]? = some y := ⟨_, List.getElem?_eq_getElem (by have := q9 HM; omega)⟩
        have hd2 : decide ((b : Int) < (m : Int)) = true := decide_eq_true (by omega)
        have BE := v6 (vr8 hb ho g cap ms b f x y hx hy wr (q9 HH))
        cases hbef : bef x y with
        | true =>
          rw [hbef] at BE
          have hS : Hid (qn2 ms (n + 1) b f = qn2 ms n (b + 1) b) := v6 (by rw [qn2, if_pos (by have := q9 HM; omega)]; congr 1; unfold je6; rw [hx, hy]; simp [hbef])
          clear hx hy
          go_wp2_with (go_at_call 107; refine (q9 BE).mono ?_; rintro e w2 ⟨rfl, hb2⟩; have B2 := v6 (v7 (q9 HB) hb2); clear hb2)
          exact ⟨⟨b + 1, n, b, by simp, rfl, by omega, by omega, v6 (by rw [q9 HR', q9 hS]), B2⟩, by simp [intOf]; omega⟩
        | false =>
          rw [hbef] at BE
          have hS : Hid (qn2 ms (n + 1) b f = qn2 ms n (b + 1) f) := v6 (by rw [qn2, if_pos (by have := q9 HM; omega)]; congr 1; unfold je6; rw [hx, hy]; simp [hbef])
          clear hx hy
          go_wp2_with (go_at_call 107; refine (q9 BE).mono ?_; rintro e w2 ⟨rfl, hb2⟩; have B2 := v6 (v7 (q9 HB) hb2); clear hb2)
          exact ⟨⟨b + 1, n, f, by simp, rfl, by omega, by omega, v6 (by rw [q9 HR', q9 hS]), B2⟩, by simp [intOf]; omega⟩
      · have hd2 : decide ((b : Int) < (m : Int)) = false := decide_eq_false (by omega)
        have hS : Hid (qn2 ms (n + 1) b f = f) := v6 (by rw [qn2, if_neg (by have := q9 HM; omega)])
        go_wp2_with fail
        go_ret
        exact ⟨by rw [q9 HR', q9 hS]; rfl, q9 HB⟩
def vk3 : Nat → List Mg → Nat → List Mg
  | 0, ms, _ => ms
  | n + 1, ms, k => if qv2 ms k = k then ms else match ms[k]?, ms[qv2 ms k]? with
    | some x, some y => vk3 n ((ms.set k y).set (qv2 ms k) x) (qv2 ms k)
    | _, _ => ms
def jd1 (ms : List Mg) (k : Nat) : List Mg := vk3 (ms.length + 1) ms k
set_option maxHeartbeats 1000000 in
set_option maxRecDepth 100000 in
theorem sink_any (hb ho g cap : Nat) (ms : List Mg) (hn : ms.length ≤ 100) (w : World) (h : HpAt w hb ho g cap ms) :
    Calls Tryz.prog 72 #[.pointer (some ⟨hb, ho, none⟩), .int .i64 0] w fun e w' => e = .returned (.tuple #[]) ∧ HpAt w' hb ho g cap (jd1 ms 0) ∧ Kept g w w' := by
  obtain ⟨R, hR⟩ : ∃ R, jd1 ms 0 = R := ⟨_, rfl⟩
  rw [hR]
  have HR : Hid (R = vk3 (ms.length + 1) ms 0) := v6 hR.symm
  have H0 := v6 h
  have F0 := v6 (vs7 hb ho g cap ms 0 (by omega) hn w h)
  have HN0 : Hid (ms.length ≤ 100) := v6 hn
  clear hR h hn
  go_enter Tryz.func72, Tryz.ntmps72
  go_wp2_with (go_at_call 110; refine (q9 F0).mono ?_; rintro e w1 ⟨rfl, hb1⟩; have B1 := v6 hb1; clear hb1)
  go_loopw [1, 4] (fun i nx wr => ∃ (k n : Nat) (ms' : List Mg), i = .int .i64 k ∧ nx = .int .i64 (qv2 ms' k : Nat) ∧ k ≤ 100 ∧ Hid (R = vk3 n ms' k) ∧ Hid (k = 0 ∨ k < ms'.length) ∧ Hid (ms'.length < k + n) ∧ Hid (ms'.length ≤ 100) ∧ Hid (HpAt wr hb ho g cap ms') ∧ Hid (Kept g w wr)) (fun i _ _ => 200 - (intOf i).toNat)
  case atStart => exact ⟨0, ms.length + 1, ms, rfl, rfl, by omega, HR, v6 (.inl rfl), v6 (by omega), HN0, v6 ((q9 H0).below (q9 B1)), v6 (Kept.of_below (q9 B1))⟩
  case round =>
    obtain ⟨k, n, ms', rfl, rfl, hk, HR', HK0, HKN, HN, HH, HK⟩ := hrel
    have hfo := firstL_or ms' k
    obtain ⟨f, hf⟩ : ∃ f, qv2 ms' k = f := ⟨_, rfl⟩
    rw [hf] at hfo ⊢
    by_cases hfk : f = k
    · subst hfk
      have hS : Hid (vk3 n ms' f = ms') := v6 (by cases n with
        | zero => rfl
        | succ n => rw [vk3, if_pos hf])
      clear hf hfo
      go_wp2_with fail
      exact bodyPost_end (results_none rfl _ _ _) rfl ⟨rfl, by rw [q9 HR', q9 hS]; exact q9 HH, q9 HK⟩
    · have hlt : k < f ∧ f < ms'.length := by omega
      obtain ⟨n', rfl⟩ : ∃ n', n = n' + 1 := ⟨n - 1, by have := q9 HKN; omega⟩
      obtain ⟨x, hx⟩ : ∃ x, ms'[k]? = some x := ⟨_, List.getElem?_eq_getElem (by omega)⟩
      obtain ⟨y, hy⟩ : ∃ y, ms'[f]? = some y := ⟨_, List.getElem?_eq_getElem hlt.2⟩
      have hS : Hid (vk3 (n' + 1) ms' k = vk3 n' ((ms'.set k y).set f x) f) := v6 (by rw [vk3, hf, if_neg hfk, hx, hy])
      have hlen : Hid (((ms'.set k y).set f x).length = ms'.length) := v6 (by simp)
      have SW := v6 (jr1 hb ho g cap ms' k f x y hx hy (by omega) wr (q9 HH))
      have hfl : f ≤ 100 := by have := q9 HN; omega
      have hne : ((f : Int) != (k : Int)) = true := by simp; omega
      have HLT := v6 hlt
      obtain ⟨ms2, hms2⟩ : ∃ ms2, (ms'.set k y).set f x = ms2 := ⟨_, rfl⟩
      rw [hms2] at SW hS hlen
      have FI : Hid (∀ w1, HpAt w1 hb ho g cap ms2 → _) := v6 fun w1 h1 => vs7 hb ho g cap ms2 f (by omega) (by have := q9 hlen; have := q9 HN; omega) w1 h1
      clear hf hfo hlt hx hy hms2
      go_wp2_with (first | (go_at_call 109; refine (q9 SW).mono ?_; rintro e w3 ⟨rfl, hh3, hk3⟩; have H3 := v6 hh3; have K3 := v6 ((q9 HK).trans hk3); clear hh3 hk3) | (go_at_call 110; refine (q9 FI _ (q9 H3)).mono ?_; rintro e w4 ⟨rfl, hb4⟩; have H4 := v6 ((q9 H3).below hb4); have K4 := v6 ((q9 K3).trans (Kept.of_below hb4)); clear hb4))
      exact ⟨⟨f, n', ms2, rfl, rfl, hfl, v6 (by rw [q9 HR', q9 hS]), v6 (.inr (by have := q9 HLT; rw [q9 hlen]; omega)), v6 (by have := q9 HKN; have := q9 HLT; rw [q9 hlen]; omega), v6 (by rw [q9 hlen]; exact q9 HN), H4, K4⟩, by have := q9 HLT; simp [intOf]; omega⟩
end
section
def vg9 (ms : List Mg) (y : Mg) (k : Nat) : List Mg := (ms.set 0 y).take k
def popM (ms : List Mg) : List Mg := match ms.getLast? with
  | some y => jd1 (vg9 ms y (ms.length - 1)) 0
  | none => []
theorem HpAt.cut {w : World} {hb ho g cap k : Nat} {ms : List Mg} (h : HpAt w hb ho g cap ms) (hk : ms.length = k + 1) {x : Mg} (hx : ms[0]? = some x) (y : Mg) :
    HpAt (((w.setCell ⟨g, 0, none⟩ (.int .i64 y.pri)).setCell ⟨g, 1, none⟩ (.int .i64 y.num)).setCell ⟨hb, ho, none⟩ (.slice (some ⟨g, 0, none⟩) k cap)) hb ho g cap (vg9 ms y k) := by
  obtain ⟨c, fz, ne, lt, glt, cells, gfz, blk, room⟩ := h
  obtain ⟨x0, x1⟩ := cells 0 x hx
  have hlen : (vg9 ms y k).length = k := by unfold vg9; rw [List.length_take, List.length_set]; omega
  simp only [Nat.zero_mul, Nat.zero_add] at x0 x1
  refine ⟨by rw [hlen]; simp [go_sem, c], by simp [go_sem, fz], ne, by simpa using lt, by simpa using glt, fun i m hm => ?_, fun j => by simp [go_sem, gfz], ?_, by rw [hlen]; omega⟩
  · have hi : i < k := by have := (List.getElem?_eq_some_iff.1 hm).1; omega
    unfold vg9 at hm
    rw [List.getElem?_take, if_pos hi] at hm
    by_cases h0 : i = 0
    · subst h0
      rw [List.getElem?_set_self (by omega)] at hm
      simp at hm
      subst hm
      constructor <;> simp [go_sem, x0, x1]
    · rw [List.getElem?_set_ne (fun e => h0 e.symm)] at hm
      obtain ⟨m0, m1⟩ := cells i m hm
      constructor <;> simp [go_sem, m0, m1]
  · exact ((blk.set _ _).set _ _).same (Below.heap_setCell _ ⟨hb, ho, none⟩ _ g (by show g ≠ hb; exact ne))
theorem vz8 {w : World} {b o : Nat} {v : Value} (h : w.cell? ⟨b, o, none⟩ = some v) : (w.setCell ⟨b, o, none⟩ v).heap[b]? = w.heap[b]? := by
  simp only [World.cell?] at h
  simp only [World.setCell, Array.getElem?_modify, if_true]
  cases hb : w.heap[b]? with
  | none => rfl
  | some obj =>
    rw [hb] at h
    cases obj with
    | cells cs ty fr =>
      simp at h
      simp only [Option.map_some]
      congr 2
      apply Array.ext_getElem?
      intro i
      simp only [Option.isSome_none, Bool.false_eq_true, if_false]
      rw [Array.getElem?_setIfInBounds]
      split
      · rename_i e
        subst e
        split
        · exact h.symm
        · rename_i hlt
          rw [Array.getElem?_eq_none (by omega)] at h
          cases h
      · rfl
    | _ => simp at h
theorem HqAt.below {w w' : World} {hb ho base : Nat} {v : Value} {ms : List Mg} (h : HqAt w hb ho v base ms) (hB : Below w.heap.size w w') : HqAt w' hb ho v base ms := by
  obtain ⟨hc, hf⟩ := j6 hB
  exact ⟨(hc hb ho h.lt).trans h.c, (hf hb ho h.lt).trans h.fz, Nat.lt_of_lt_of_le h.lt hB.size, qf4 h.own hB (Nat.le_refl _), h.ne⟩
def vm2 (hb ho base : Nat) (v : Value) (ms : List Mg) (w : World) (e : Ending) (w' : World) : Prop := ∃ v' m, e = .returned (.tuple #[mgV m, .bool (decide (0 < ms.length))]) ∧ m = (ms.head?).getD ⟨0, 0⟩ ∧ HqAt w' hb ho v' base (popM ms) ∧ PqKept hb ho v v' w w'
set_option maxHeartbeats 1000000 in
theorem pop_none (hb ho base : Nat) (v : Value) (w : World) (h : HqAt w hb ho v base []) : Calls Tryz.prog 46 #[.pointer (some ⟨hb, ho, none⟩)] w (vm2 hb ho base v [] w) := by
  have H0 := v6 h
  have c := h.c
  have lt := h.lt
  obtain ⟨a, cp, rfl⟩ := h.form
  have hlt1 : hb < w.heap.size + 1 := by omega
  clear h
  simp only [List.length_nil] at c ⊢
  go_enter Tryz.func46, Tryz.ntmps46
  go_wp2_with fail
  refine bodyPost_ret (by simp [results, Tryz.results46, go_sem] <;> rfl) rfl ⟨.slice a 0 cp, ⟨0, 0⟩, rfl, rfl, (q9 H0).below ((Below.refl _ _).alloc (Nat.le_refl _) _), ?_⟩
  refine ⟨rfl, rfl, rfl, by simp, fun k h1 _ _ => Below.heap_alloc w _ k h1, ?_, fun k h => .inl h⟩
  rw [vz8 c]
  exact Below.heap_alloc w _ hb lt
theorem vg4 (n : Nat) : ∀ (ms : List Mg) (k : Nat), (vk3 n ms k).length = ms.length := by
  induction n with
  | zero => intro ms k; rfl
  | succ n ih =>
    intro ms k
    rw [vk3]
    split
    · rfl
    · split
      · rw [ih]; simp
      · rfl
def popW (w : World) (hb ho g cap k : Nat) (x y : Mg) : World :=
  (((((w.setCell ⟨g, 0, none⟩ (.int .i64 y.pri)).setCell ⟨g, 1, none⟩ (.int .i64 y.num)).setCell ⟨hb, ho, none⟩ (.slice (some ⟨g, 0, none⟩) k cap)).alloc (.cells #[.int .i64 0, .int .i64 0] 102)).alloc (.cells #[.int .i64 x.pri, .int .i64 x.num] 102)).drew.drew
theorem popW_kept {w w' : World} {hb ho g cap k n : Nat} {x y : Mg} (hne : g ≠ hb) (hlt : hb < w.heap.size) (hk : Kept g (popW w hb ho g cap k x y) w') (u0 u1 : Value) :
    PqKept hb ho (.slice (some ⟨g, 0, none⟩) n cap) (.slice (some ⟨g, 0, none⟩) k cap) w ((w'.setCell ⟨w.heap.size, 0, none⟩ u0).setCell ⟨w.heap.size, 1, none⟩ u1) := by
  have hz : (popW w hb ho g cap k x y).heap.size = w.heap.size + 2 := by simp [popW]
  have hz' := hk.size
  have hset : ∀ i, i < w.heap.size → ((w'.setCell ⟨w.heap.size, 0, none⟩ u0).setCell ⟨w.heap.size, 1, none⟩ u1).heap[i]? = w'.heap[i]? := fun i hi =>
    (Below.heap_setCell _ ⟨w.heap.size, 1, none⟩ u1 i (by show i ≠ w.heap.size; omega)).trans (Below.heap_setCell _ ⟨w.heap.size, 0, none⟩ u0 i (by show i ≠ w.heap.size; omega))
  have hpw : ∀ i, i < w.heap.size → i ≠ g → (popW w hb ho g cap k x y).heap[i]? = (w.setCell ⟨hb, ho, none⟩ (.slice (some ⟨g, 0, none⟩) k cap)).heap[i]? := by
    intro i hi hig
    show ((((w.setCell ⟨g, 0, none⟩ (.int .i64 y.pri)).setCell ⟨g, 1, none⟩ (.int .i64 y.num)).setCell ⟨hb, ho, none⟩ (.slice (some ⟨g, 0, none⟩) k cap)).alloc (.cells #[.int .i64 0, .int .i64 0] 102)).alloc (.cells #[.int .i64 x.pri, .int .i64 x.num] 102) |>.heap[i]? = _
    rw [Below.heap_alloc _ _ i (by simp; omega), Below.heap_alloc _ _ i (by simp; omega)]
    have hgi : ¬ g = i := fun e => hig e.symm
    simp only [World.setCell, Array.getElem?_modify, hgi, if_false]
  refine ⟨hk.os, hk.tape, hk.output, by simp; omega, fun i h1 h2 h3 => ?_, ?_, fun i h => .inl h⟩
  · have hig : i ≠ g := fun e => h3 (by rw [e]; rfl)
    rw [hset i h1, hk.block i (by omega) hig, hpw i h1 hig]
    exact Below.heap_setCell w ⟨hb, ho, none⟩ _ i (by show i ≠ hb; exact h2)
  · rw [hset hb hlt, hk.block hb (by omega) (fun e => hne e.symm), hpw hb hlt (fun e => hne e.symm)]
set_option maxHeartbeats 2000000 in
set_option maxRecDepth 100000 in
theorem pop_some (hb ho base g cap k : Nat) (ms : List Mg) (hk : ms.length = k + 1) (hn : ms.length ≤ 90) (x y : Mg) (hx : ms[0]? = some x) (hy : ms[k]? = some y) (w : World) (h : HqAt w hb ho (.slice (some ⟨g, 0, none⟩) (k + 1) cap) base ms)
    (Q : Ending → World → Prop) (hQ : ∀ e w', vm2 hb ho base (.slice (some ⟨g, 0, none⟩) (k + 1) cap) ms w e w' → Q e w') :
    Calls Tryz.prog 46 #[.pointer (some ⟨hb, ho, none⟩)] w Q := by
  obtain ⟨hp, hbg, heq⟩ := h.hp
  clear heq
  have hcut := hp.cut hk hx y
  have hpop : popM ms = jd1 (vg9 ms y k) 0 := by
    have hl : ms.getLast? = some y := by rw [List.getLast?_eq_getElem?, hk]; exact hy
    unfold popM
    rw [hl, hk]
    rfl
  have hdec : decide (0 < ms.length) = true := decide_eq_true (by omega)
  have hhead : x = (ms.head?).getD ⟨0, 0⟩ := by rw [List.head?_eq_getElem?, hx]; rfl
  have HE : Hid (∀ w6 u0 u1, HpAt w6 hb ho g cap (jd1 (vg9 ms y k) 0) → Kept g (popW w hb ho g cap k x y) w6 → Q (.returned (.tuple #[mgV x, .bool true])) ((w6.setCell ⟨w.heap.size, 0, none⟩ u0).setCell ⟨w.heap.size, 1, none⟩ u1)) := v6 (by
    intro w6 u0 u1 h6 k6
    apply hQ
    have hsl : (jd1 (vg9 ms y k) 0).length = k := by rw [jd1, vg4]; unfold vg9; rw [List.length_take, List.length_set]; omega
    have hq := h6.hq hbg
    rw [hsl] at hq
    have hlt := hp.lt
    have hglt := hp.glt
    have hb6 : Below w.heap.size w6 ((w6.setCell ⟨w.heap.size, 0, none⟩ u0).setCell ⟨w.heap.size, 1, none⟩ u1) := ((Below.refl _ _).setCell (by exact Nat.le_refl _) _).setCell (by exact Nat.le_refl _) _
    refine ⟨_, x, by rw [hdec], hhead, ?_, popW_kept hp.ne hlt k6 u0 u1⟩
    rw [hpop]
    refine ⟨(hb6.cell (p := ⟨hb, ho, none⟩) hlt).trans hq.c, (hb6.frozen (p := ⟨hb, ho, none⟩) hlt).trans hq.fz, Nat.lt_of_lt_of_le hq.lt hb6.size, ?_, hq.ne⟩
    refine v9 hq.own fun g' hg' => ?_
    have e : g = g' := by simpa [Value.ownBlock] using hg'
    subst e
    exact hb6.block g hglt)
  have HS : Hid _ := v6 (sink_any hb ho g cap (vg9 ms y k) (by unfold vg9; rw [List.length_take, List.length_set]; omega) (popW w hb ho g cap k x y) (hcut.below (((Below.refl _ _).alloc (Nat.le_refl _) _).alloc (by simp) _).drew.drew))
  have CELLS : Hid (∀ w6, Kept g (popW w hb ho g cap k x y) w6 → w6.cell? ⟨w.heap.size + 1, 0, none⟩ = some (.int .i64 x.pri) ∧ w6.cell? ⟨w.heap.size + 1, 1, none⟩ = some (.int .i64 x.num) ∧ w6.cell? ⟨w.heap.size, 0, none⟩ = some (.int .i64 0) ∧ w6.cell? ⟨w.heap.size, 1, none⟩ = some (.int .i64 0) ∧ (∀ j, w6.frozen? ⟨w.heap.size, j, none⟩ = false) ∧ w.heap.size + 1 < w6.heap.size) := v6 (by
    intro w6 k6
    have hz : (popW w hb ho g cap k x y).heap.size = w.heap.size + 2 := by simp [popW]
    have hglt := hp.glt
    obtain ⟨hc, hf⟩ := x5 k6
    refine ⟨(hc _ 0 (by omega) (by omega)).trans ?_, (hc _ 1 (by omega) (by omega)).trans ?_, (hc _ 0 (by omega) (by omega)).trans ?_, (hc _ 1 (by omega) (by omega)).trans ?_, fun j => (hf _ j (by omega) (by omega)).trans ?_, by have := k6.size; omega⟩ <;> simp [popW, go_sem])
  obtain ⟨c, fz, ne, lt, glt, cells, gfz, blk, room⟩ := hp
  obtain ⟨x0, x1⟩ := cells 0 x hx
  obtain ⟨y0, y1⟩ := cells k y hy
  simp only [Nat.zero_mul, Nat.zero_add] at x0 x1
  rw [hk] at c
  have hw : IntKind.i64.wrap (((k + 1 : Nat) : Int) - 1) = (k : Int) := by rw [IntKind.wrap_i64]; omega
  have hw' : (((k + 1 : Nat) : Int) - 1) = (k : Int) := by omega
  have k0 : (0 : Int) ≤ (k : Int) := by omega
  have k1 : (k : Int) < ((k + 1 : Nat) : Int) := by omega
  have k2 : (k : Int) ≤ (cap : Int) := by omega
  have kb : k ≤ 90 := by omega
  have kz : (((k + 1 : Nat) : Int) == 0) = false := beq_eq_false_iff_ne.2 (by omega)
  have l1 : hb < w.heap.size + 1 := by omega
  have l2 : g < w.heap.size + 1 := by omega
  have l3 : hb < w.heap.size + 1 + 1 := by omega
  have l4 : g < w.heap.size + 1 + 1 := by omega
  have d1 : ¬ g = w.heap.size := by omega
  have d2 : ¬ hb = w.heap.size := by omega
  have d3 : ¬ g = w.heap.size + 1 := by omega
  have d4 : ¬ hb = w.heap.size + 1 := by omega
  clear cells blk h hcut hpop hdec hhead hx hy hQ hbg room hk
  unfold popW at HS
  go_enter Tryz.func46, Tryz.ntmps46
  go_wp2_with fail
  go_region
  all_goals go_wp2_with fail
  all_goals go_region
  all_goals go_wp2_with (go_at_call 72; refine (q9 HS).mono ?_; rintro e w6 ⟨rfl, h6, k6⟩; obtain ⟨q0, q1, q2, q3, qf, ql⟩ := q9 CELLS w6 k6; have H6 := v6 h6; have K6 := v6 k6; clear h6 k6)
  all_goals exact bodyPost_ret (by simp [results, Tryz.results46, go_sem, q2, q3] <;> rfl) rfl (q9 HE _ _ _ (q9 H6) (q9 K6))
end
section
def jd5 (x y : Int) : Int := if x < y then -1 else if y < x then 1 else 0
set_option maxHeartbeats 400000 in
theorem vm1 (x : Int) (w : World) : Calls Tryz.prog 83 #[.int .i64 x] w fun e w' => e = .returned (.bool false) ∧ w' = w := by
  go_enter Tryz.func83, Tryz.ntmps83
  go_wp2_with fail
  go_ret
  exact ⟨by simp, rfl⟩
set_option maxHeartbeats 400000 in
theorem jj9 (x y : Int) (w : World) : Calls Tryz.prog 53 #[.int .i64 x, .int .i64 y] w fun e w' => e = .returned (.int .i64 (jd5 x y)) ∧ w' = w := by
  rcases Int.lt_trichotomy x y with h | h | h
  · have hc : jd5 x y = -1 := by unfold jd5; rw [if_pos h]
    have h1 : decide (x < y) = true := decide_eq_true h
    rw [hc]
    go_enter Tryz.func53, Tryz.ntmps53
    go_wp2_with (go_at_call 83; refine (vm1 _ _).mono ?_; rintro e w1 ⟨rfl, rfl⟩)
    go_ret
    exact ⟨rfl, rfl⟩
  · subst h
    have hc : jd5 x x = 0 := by unfold jd5; simp
    have h1 : decide (x < x) = false := decide_eq_false (by omega)
    have h2 : decide (x > x) = false := decide_eq_false (by omega)
    rw [hc]
    go_enter Tryz.func53, Tryz.ntmps53
    go_wp2_with (go_at_call 83; refine (vm1 _ _).mono ?_; rintro e w1 ⟨rfl, rfl⟩)
    go_ret
    exact ⟨rfl, rfl⟩
  · have hc : jd5 x y = 1 := by unfold jd5; rw [if_neg (by omega), if_pos h]
    have h1 : decide (x < y) = false := decide_eq_false (by omega)
    have h2 : decide (x > y) = true := decide_eq_true h
    rw [hc]
    go_enter Tryz.func53, Tryz.ntmps53
    go_wp2_with (go_at_call 83; refine (vm1 _ _).mono ?_; rintro e w1 ⟨rfl, rfl⟩)
    go_ret
    exact ⟨rfl, rfl⟩
set_option maxHeartbeats 400000 in
theorem vq2 (x y : Int) (p q : Value) (w : World) : Calls Tryz.prog 52 #[.agg #[.int .i64 x, p, q], .int .i64 y] w fun e w' => e = .returned (.int .i64 (jd5 x y)) ∧ Below w.heap.size w w' := by
  go_enter Tryz.func52, Tryz.ntmps52
  go_wp2_with (go_at_call 53; refine (jj9 _ _ _).mono ?_; rintro e w1 ⟨rfl, rfl⟩)
  go_ret
  exact ⟨rfl, (Below.refl _ _).alloc (Nat.le_refl _) _⟩
structure Sb where
  id : Int
  core : Option Addr
  row : Option Addr
  len : Nat
  cap : Nat
def qa2 (s : Sb) : List Value := [.int .i64 s.id, .pointer s.core, .slice s.row s.len s.cap]
def SubsAt (w : World) (lo : Nat) (v : Value) (l : List Sb) : Prop :=
  ∃ a c, v = .slice a l.length c ∧ ∀ (i : Nat) (s : Sb), l[i]? = some s → ∃ g, a = some ⟨g, 0, none⟩ ∧ g < lo ∧ w.cell? ⟨g, i * 3, none⟩ = some (.int .i64 s.id) ∧ w.cell? ⟨g, i * 3 + 1, none⟩ = some (.pointer s.core) ∧ w.cell? ⟨g, i * 3 + 2, none⟩ = some (.slice s.row s.len s.cap)
theorem SubsAt.below {w w' : World} {lo : Nat} {v : Value} {l : List Sb} (h : SubsAt w lo v l) (hb : Below lo w w') : SubsAt w' lo v l := by
  obtain ⟨a, c, hv, hx⟩ := h
  refine ⟨a, c, hv, fun i s hi => ?_⟩
  obtain ⟨g, ha, hg, h0, h1, h2⟩ := hx i s hi
  exact ⟨g, ha, hg, (hb.cell (p := ⟨g, i * 3, none⟩) hg).trans h0, (hb.cell (p := ⟨g, i * 3 + 1, none⟩) hg).trans h1, (hb.cell (p := ⟨g, i * 3 + 2, none⟩) hg).trans h2⟩
def qb9 (l : List Sb) (id : Int) : Nat := l.countP fun s => decide (s.id < id)
def qp0 (l : List Sb) : Prop := l.Pairwise fun a b => a.id < b.id
theorem qu1 {l : List Sb} (h : qp0 l) (id : Int) : ∀ (i : Nat) (s : Sb), l[i]? = some s → (s.id < id ↔ i < qb9 l id) := by
  induction l with
  | nil => intro i s hi; simp at hi
  | cons a r ih =>
    have hr := List.pairwise_cons.1 h
    intro i s hi
    unfold qb9
    rw [List.countP_cons]
    cases i with
    | zero =>
      simp at hi
      subst hi
      by_cases hlt : a.id < id
      · simp [hlt]
      · have : r.countP (fun s => decide (s.id < id)) = 0 := List.countP_eq_zero.2 fun b hb => by
          have := hr.1 b hb
          simp; omega
        simp [hlt, this]
    | succ i =>
      have hi' : r[i]? = some s := by simpa using hi
      have := ih hr.2 i s hi'
      by_cases hlt : a.id < id
      · simp only [hlt, decide_true, if_true]
        unfold qb9 at this
        omega
      · have hs : ¬ s.id < id := by
          have := hr.1 s (List.mem_of_getElem? hi')
          omega
        have h0 : r.countP (fun s => decide (s.id < id)) = 0 := List.countP_eq_zero.2 fun b hb => by
          have := hr.1 b hb
          simp; omega
        simp [hlt, h0, hs]
theorem any_at {l : List Sb} (h : qp0 l) (id : Int) : (l.any fun s => s.id == id) = match l[qb9 l id]? with
    | some s => s.id == id
    | none => false := by
  have hc := qu1 h id
  have hpw := List.pairwise_iff_getElem.1 h
  cases hp : l[qb9 l id]? with
  | none =>
    rw [List.any_eq_false]
    intro s hs
    obtain ⟨i, hi⟩ := List.getElem?_of_mem hs
    have hlen := (List.getElem?_eq_some_iff.1 hi).1
    have hnone : l.length ≤ qb9 l id := List.getElem?_eq_none_iff.1 hp
    have := (hc i s hi).2 (by omega)
    simp
    omega
  | some t =>
    obtain ⟨ht1, ht2⟩ := List.getElem?_eq_some_iff.1 hp
    show _ = (t.id == id)
    have htn : ¬ t.id < id := fun hh => by have := (hc _ t hp).1 hh; omega
    by_cases he : t.id = id
    · rw [List.any_eq_true.2 ⟨t, List.mem_of_getElem? hp, by simp [he]⟩]
      simp [he]
    · rw [List.any_eq_false.2, Eq.comm]
      · simp [he]
      · intro s hs
        obtain ⟨i, hi⟩ := List.getElem?_of_mem hs
        obtain ⟨hi1, hi2⟩ := List.getElem?_eq_some_iff.1 hi
        rcases Nat.lt_trichotomy i (qb9 l id) with hlt | heq | hgt
        · have := (hc i s hi).2 hlt
          simp; omega
        · subst heq
          rw [hp] at hi
          cases hi
          simp [he]
        · have := hpw (qb9 l id) i ht1 hi1 hgt
          rw [ht2, hi2] at this
          simp; omega
set_option maxHeartbeats 2000000 in
set_option maxRecDepth 100000 in
theorem jk7 (l : List Sb) (id : Int) (v : Value) (w : World) (h : SubsAt w w.heap.size v l) (hup : qp0 l) (hn : l.length ≤ 8) :
    Calls Tryz.prog 51 #[v, .int .i64 id, .func (.func 52) #[] #[]] w fun e w' => e = .returned (.tuple #[.int .i64 (qb9 l id), .bool (l.any fun s => s.id == id)]) ∧ Below w.heap.size w w' := by
  have HS := v6 h
  obtain ⟨a, c, rfl, hx⟩ := h
  have HX := v6 hx
  have HC := v6 (qu1 hup id)
  have hple : qb9 l id ≤ l.length := List.countP_le_length
  clear hx
  obtain ⟨n, hnl⟩ : ∃ n, l.length = n := ⟨_, rfl⟩
  have HN := v6 hnl
  obtain ⟨P, hP⟩ : ∃ P, qb9 l id = P := ⟨_, rfl⟩
  obtain ⟨F, hF⟩ : ∃ F, (l.any fun s => s.id == id) = F := ⟨_, rfl⟩
  have HA : Hid _ := v6 (any_at hup id)
  rw [hF] at HA ⊢
  clear hF
  rw [hP] at HC hple HA ⊢
  rw [hnl] at hn hple ⊢
  clear hnl hP
  go_enter Tryz.func51, Tryz.ntmps51
  go_wp2_with fail
  go_loopw [9, 10] (fun i j wr => ∃ (lo hi : Nat), i = .int .i64 lo ∧ j = .int .i64 hi ∧ lo ≤ P ∧ P ≤ hi ∧ hi ≤ n ∧ Hid (Below w.heap.size w wr)) (fun i j _ => (intOf j).toNat - (intOf i).toNat)
  case atStart => exact ⟨0, n, rfl, rfl, Nat.zero_le _, hple, Nat.le_refl _, v6 (Below.refl _ _)⟩
  case round =>
    obtain ⟨lo, hi, rfl, rfl, h1, h2, h3, HB⟩ := hrel
    by_cases hlt : lo < hi
    · obtain ⟨m, hm⟩ : ∃ m, (lo + hi) / 2 = m := ⟨_, rfl⟩
      have hm1 : lo ≤ m := by omega
      have hm2 : m < hi := by omega
      have hmi : ((lo : Int) + (hi : Int)) / 2 = (m : Int) := by omega
      obtain ⟨s, hs⟩ : ∃ s, l[m]? = some s := ⟨_, List.getElem?_eq_getElem (by have := q9 HN; omega)⟩
      obtain ⟨g, rfl, glt, s0, s1, s2⟩ := q9 HX m s hs
      obtain ⟨hcB, hfB⟩ := j6 (q9 HB)
      rw [← hcB g (m * 3) glt] at s0
      rw [← hcB g (m * 3 + 1) glt] at s1
      rw [← hcB g (m * 3 + 2) glt] at s2
      have hCm := q9 HC m s hs
      have m0 : (0 : Int) ≤ (m : Int) := by omega
      have m1 : (m : Int) < (n : Int) := by omega
      have CM := v6 (fun w => vq2 s.id id (.pointer s.core) (.slice s.row s.len s.cap) w)
      clear hcB hfB hs hm
      by_cases hsi : s.id < id
      · have hd : decide (jd5 s.id id < 0) = true := decide_eq_true (by unfold jd5; rw [if_pos hsi]; decide)
        have hmP := hCm.1 hsi
        generalize jd5 s.id id = z at *
        go_wp2_with (go_at_call 52; refine (q9 CM _).mono ?_; rintro e w2 ⟨rfl, hb2⟩; have B2 := v6 (v7 (q9 HB) hb2); clear hb2)
        exact ⟨⟨m + 1, hi, rfl, rfl, by omega, h2, h3, B2⟩, by simp [intOf]; omega⟩
      · have hd : decide (jd5 s.id id < 0) = false := decide_eq_false (by unfold jd5; rw [if_neg hsi]; split <;> decide)
        have hmP : P ≤ m := by
          rcases Nat.lt_or_ge m P with hh | hh
          · exact absurd (hCm.2 hh) hsi
          · exact hh
        generalize jd5 s.id id = z at *
        go_wp2_with (go_at_call 52; refine (q9 CM _).mono ?_; rintro e w2 ⟨rfl, hb2⟩; have B2 := v6 (v7 (q9 HB) hb2); clear hb2)
        exact ⟨⟨lo, m, rfl, rfl, h1, hmP, by omega, B2⟩, by simp [intOf]; omega⟩
    · obtain rfl : lo = P := by omega
      obtain rfl : hi = lo := by omega
      by_cases hPn : hi < n
      · obtain ⟨s, hs⟩ : ∃ s, l[hi]? = some s := ⟨_, List.getElem?_eq_getElem (by have := q9 HN; omega)⟩
        obtain ⟨g, rfl, glt, s0, s1, s2⟩ := q9 HX hi s hs
        obtain ⟨hcB, hfB⟩ := j6 (q9 HB)
        rw [← hcB g (hi * 3) glt] at s0
        rw [← hcB g (hi * 3 + 1) glt] at s1
        rw [← hcB g (hi * 3 + 2) glt] at s2
        have p0 : (0 : Int) ≤ (hi : Int) := by omega
        have p1 : (hi : Int) < (n : Int) := by omega
        have CM := v6 (fun w => vq2 s.id id (.pointer s.core) (.slice s.row s.len s.cap) w)
        have HF : Hid (F = (s.id == id)) := v6 (by rw [q9 HA, hs])
        have hz : (jd5 s.id id == 0) = (s.id == id) := by
          unfold jd5
          rcases Int.lt_trichotomy s.id id with h | h | h
          · rw [if_pos h]; simp; omega
          · simp [h]
          · rw [if_neg (by omega), if_pos h]; simp; omega
        generalize jd5 s.id id = z at *
        clear hcB hfB hs
        go_wp2_with (go_at_call 52; refine (q9 CM _).mono ?_; rintro e w2 ⟨rfl, hb2⟩; have B2 := v6 (v7 (q9 HB) hb2); clear hb2)
        go_ret2
        exact ⟨by rw [q9 HF]; first | rfl | (rw [← hz]; rfl) | simp [hz], q9 B2⟩
      · have HF : Hid (F = false) := v6 (by rw [q9 HA, List.getElem?_eq_none (by have := q9 HN; omega)])
        go_wp2_with fail
        go_ret2
        exact ⟨by rw [q9 HF]; rfl, q9 HB⟩
end
end Go.Proofs.YtfkcaldjphakpabGreatDoor
