/- What a term of a program is of an event: Term.of. Program.Run: what it keeps in memory. A heap in memory: Pop. Subscriptions in memory; where one stands. Program.Run of any program that may be run. Rows of elements of several cells: copy, clear, append onto a row's own part. -/
import Derived.Test.YtfkcaldjphakpabGreatDoorT22
import Derived.Test.YtfkcaldjphakpabGreatDoorT20
import Derived.Test.YtfkcaldjphakpabGreatDoorT21
import Derived.Deep.RegionWith
import Derived.Deep.RegionHeld3
import Derived.Test.YtfkcaldjphakpabGreatDoorT27
import Derived.Test.YtfkcaldjphakpabGreatDoorT28
import Derived.Test.YtfkcaldjphakpabGreatDoorT10
import Derived.Lib.Overlaps
import Derived.Lib.AppendZerosOnto
namespace Go.Proofs.YtfkcaldjphakpabGreatDoor
open Go.RowKit
section
def ofT (ps : List Pr) (vs : List V) (t : Tm) : V :=
  if t.op = 0 then qy0 ps t.str
  else if t.op = 1 then iV t.num
  else if t.op = 2 then tV t.str
  else if t.op = 3 ∨ t.op = 4 then bV (t.op == 3)
  else if t.op = 22 then vn4 (vs.getD t.left nV) t.str t.esc
  else qz2 t.op (vs.getD t.left nV) (vs.getD t.right nV)
def ValsAt (w : World) (vb n : Nat) (vs : List V) : Prop := ∀ i, i < n →
  w.cell? ⟨vb, i * 3, none⟩ = some (.int .i64 (vs.getD i nV).kind) ∧ w.cell? ⟨vb, i * 3 + 1, none⟩ = some (.int .i64 (vs.getD i nV).num) ∧ w.cell? ⟨vb, i * 3 + 2, none⟩ = some (.string (BS (vs.getD i nV).str))
theorem ValsAt.below {B : Nat} {w w' : World} {vb n : Nat} {vs : List V} (h : ValsAt w vb n vs) (hb : Below B w w') (hlt : vb < B) : ValsAt w' vb n vs := by
  intro k hk
  obtain ⟨h1, h2, h3⟩ := h k hk
  exact ⟨(hb.cell hlt).trans h1, (hb.cell hlt).trans h2, (hb.cell hlt).trans h3⟩
def qv7 (w : World) (ps : List Pr) (ev vv : Value) (vs : List V) (t : Tm) : Prop :=
  Calls Tryz.prog 69 #[tmV t, ev, vv] w fun e w' => e = .returned (vV (ofT ps vs t)) ∧ Below w.heap.size w w'
def JS (A vb : Nat) (t : Tm) (X Y : V) (w' : World) : Prop := w'.cell? ⟨A, 0, none⟩ = some (.int .i64 t.op) ∧ w'.cell? ⟨A, 1, none⟩ = some (.int .i64 t.left) ∧ w'.cell? ⟨A, 2, none⟩ = some (.int .i64 t.right) ∧ w'.cell? ⟨vb, t.left * 3, none⟩ = some (.int .i64 X.kind) ∧ w'.cell? ⟨vb, t.left * 3 + 1, none⟩ = some (.int .i64 X.num) ∧ w'.cell? ⟨vb, t.left * 3 + 2, none⟩ = some (.string (BS X.str)) ∧ w'.cell? ⟨vb, t.right * 3, none⟩ = some (.int .i64 Y.kind) ∧ w'.cell? ⟨vb, t.right * 3 + 1, none⟩ = some (.int .i64 Y.num) ∧ w'.cell? ⟨vb, t.right * 3 + 2, none⟩ = some (.string (BS Y.str))
theorem js_same {A vb : Nat} {t : Tm} {X Y : V} {W w1 : World} (h : JS A vb t X Y W) (hA : w1.heap[A]? = W.heap[A]?) (hv : w1.heap[vb]? = W.heap[vb]?) : JS A vb t X Y w1 := by
  have ca : ∀ j, w1.cell? ⟨A, j, none⟩ = W.cell? ⟨A, j, none⟩ := fun j => World.cell?_of_block (w := W) (w' := w1) (a := ⟨A, j, none⟩) hA
  have cv : ∀ j, w1.cell? ⟨vb, j, none⟩ = W.cell? ⟨vb, j, none⟩ := fun j => World.cell?_of_block (w := W) (w' := w1) (a := ⟨vb, j, none⟩) hv
  obtain ⟨h0, h1, h2, h3, h4, h5, h6, h7, h8⟩ := h
  exact ⟨(ca _).trans h0, (ca _).trans h1, (ca _).trans h2, (cv _).trans h3, (cv _).trans h4, (cv _).trans h5, (cv _).trans h6, (cv _).trans h7, (cv _).trans h8⟩
theorem js_below {A vb : Nat} {t : Tm} {X Y : V} {W w1 : World} (h : JS A vb t X Y W) (hb : Below W.heap.size W w1) (hA : A < W.heap.size) (hv : vb < W.heap.size) : JS A vb t X Y w1 := js_same h (hb.block A hA) (hb.block vb hv)
theorem js_store {A vb R : Nat} {t : Tm} {X Y : V} {w1 : World} {v0 v1 v2 : Value} (h : JS A vb t X Y w1) (hA : A ≠ R) (hv : vb ≠ R) : JS A vb t X Y (((w1.setCell ⟨R, 0, none⟩ v0).setCell ⟨R, 1, none⟩ v1).setCell ⟨R, 2, none⟩ v2) :=
  js_same h (((Below.heap_setCell _ _ _ A hA).trans (Below.heap_setCell _ _ _ A hA)).trans (Below.heap_setCell _ _ _ A hA)) (((Below.heap_setCell _ _ _ vb hv).trans (Below.heap_setCell _ _ _ vb hv)).trans (Below.heap_setCell _ _ _ vb hv))
set_option maxHeartbeats 400000 in
theorem tof_0 (w : World) (ps : List Pr) (ev : Value) (a : Option Addr) (n c : Nat) (vs : List V) (t : Tm) (hev : EvArg w ev ps) (ho : t.op = 0) : qv7 w ps ev (.slice a n c) vs t := by
  have hr : ofT ps vs t = qy0 ps t.str := by simp [ofT, ho]
  unfold qv7
  rw [hr]
  have CON := v6 (fun w1 (h : EvArg w1 ev ps) => jm3 h (BS t.str))
  have HE := v6 hev
  obtain ⟨ea, en, ec, rfl⟩ := hev.slice
  unfold tmV
  rw [ho]
  clear hr ho hev
  have d0 : ¬ w.heap.size + 1 = w.heap.size := by omega
  go_enter Tryz.func69, Tryz.ntmps69
  go_wp2_with (go_at_call 102; refine (q9 CON _ ((q9 HE).below (qg3 w _ _))).mono ?_; rintro e w1 ⟨rfl, hb1⟩; obtain ⟨hc1, hf1⟩ := j5 hb1; have hz1 : w.heap.size + 1 < w1.heap.size := (by have := hb1.size; simp at this; omega); simp only [vV])
  refine bodyPost_ret (by simp [results, Tryz.results69, go_sem, hc1] <;> rfl) rfl ⟨rfl, ?_⟩
  exact (((v7 (qg3 w _ _) hb1).setCell (by simp) _).setCell (by simp) _).setCell (by simp) _
set_option maxHeartbeats 400000 in
theorem tof_1 (w : World) (ps : List Pr) (ev : Value) (a : Option Addr) (n c : Nat) (vs : List V) (t : Tm) (hev : EvArg w ev ps) (ho : t.op = 1) : qv7 w ps ev (.slice a n c) vs t := by
  have hr : ofT ps vs t = iV t.num := by simp [ofT, ho]
  unfold qv7
  rw [hr]
  have CON := v6 (fun w1 => qp4 t.num w1)
  have HE := v6 hev
  obtain ⟨ea, en, ec, rfl⟩ := hev.slice
  unfold tmV
  rw [ho]
  clear hr ho hev
  have d0 : ¬ w.heap.size + 1 = w.heap.size := by omega
  go_enter Tryz.func69, Tryz.ntmps69
  go_wp2_with (go_at_call 103; refine (q9 CON _).mono ?_; rintro e w1 ⟨rfl, hb1⟩; obtain ⟨hc1, hf1⟩ := j5 hb1; have hz1 : w.heap.size + 1 < w1.heap.size := (by have := hb1.size; simp at this; omega); simp only [vV])
  refine bodyPost_ret (by simp [results, Tryz.results69, go_sem, hc1] <;> rfl) rfl ⟨rfl, ?_⟩
  exact (((v7 (qg3 w _ _) hb1).setCell (by simp) _).setCell (by simp) _).setCell (by simp) _
set_option maxHeartbeats 400000 in
theorem tof_2 (w : World) (ps : List Pr) (ev : Value) (a : Option Addr) (n c : Nat) (vs : List V) (t : Tm) (hev : EvArg w ev ps) (ho : t.op = 2) : qv7 w ps ev (.slice a n c) vs t := by
  have hr : ofT ps vs t = tV t.str := by simp [ofT, ho]
  unfold qv7
  rw [hr]
  have CON := v6 (fun w1 => vm6 (BS t.str) w1)
  have HE := v6 hev
  obtain ⟨ea, en, ec, rfl⟩ := hev.slice
  unfold tmV
  rw [ho]
  clear hr ho hev
  have d0 : ¬ w.heap.size + 1 = w.heap.size := by omega
  go_enter Tryz.func69, Tryz.ntmps69
  go_wp2_with (go_at_call 104; refine (q9 CON _).mono ?_; rintro e w1 ⟨rfl, hb1⟩; obtain ⟨hc1, hf1⟩ := j5 hb1; have hz1 : w.heap.size + 1 < w1.heap.size := (by have := hb1.size; simp at this; omega); simp only [vV])
  refine bodyPost_ret (by simp [results, Tryz.results69, go_sem, hc1] <;> rfl) rfl ⟨rfl, ?_⟩
  exact (((v7 (qg3 w _ _) hb1).setCell (by simp) _).setCell (by simp) _).setCell (by simp) _
set_option maxHeartbeats 400000 in
theorem tof_3 (w : World) (ps : List Pr) (ev : Value) (a : Option Addr) (n c : Nat) (vs : List V) (t : Tm) (hev : EvArg w ev ps) (ho : t.op = 3) : qv7 w ps ev (.slice a n c) vs t := by
  have hr : ofT ps vs t = bV true := by simp [ofT, ho]
  unfold qv7
  rw [hr]
  have CON := v6 (fun w1 => qf5 true w1)
  have HE := v6 hev
  obtain ⟨ea, en, ec, rfl⟩ := hev.slice
  unfold tmV
  rw [ho]
  clear hr ho hev
  have d0 : ¬ w.heap.size + 1 = w.heap.size := by omega
  go_enter Tryz.func69, Tryz.ntmps69
  go_wp2_with (go_at_call 70; refine (q9 CON _).mono ?_; rintro e w1 ⟨rfl, hb1⟩; obtain ⟨hc1, hf1⟩ := j5 hb1; have hz1 : w.heap.size + 1 < w1.heap.size := (by have := hb1.size; simp at this; omega); simp only [vV])
  refine bodyPost_ret (by simp [results, Tryz.results69, go_sem, hc1] <;> rfl) rfl ⟨rfl, ?_⟩
  exact (((v7 (qg3 w _ _) hb1).setCell (by simp) _).setCell (by simp) _).setCell (by simp) _
set_option maxHeartbeats 400000 in
theorem tof_4 (w : World) (ps : List Pr) (ev : Value) (a : Option Addr) (n c : Nat) (vs : List V) (t : Tm) (hev : EvArg w ev ps) (ho : t.op = 4) : qv7 w ps ev (.slice a n c) vs t := by
  have hr : ofT ps vs t = bV false := by simp [ofT, ho]
  unfold qv7
  rw [hr]
  have CON := v6 (fun w1 => qf5 false w1)
  have HE := v6 hev
  obtain ⟨ea, en, ec, rfl⟩ := hev.slice
  unfold tmV
  rw [ho]
  clear hr ho hev
  have d0 : ¬ w.heap.size + 1 = w.heap.size := by omega
  go_enter Tryz.func69, Tryz.ntmps69
  go_wp2_with (go_at_call 70; refine (q9 CON _).mono ?_; rintro e w1 ⟨rfl, hb1⟩; obtain ⟨hc1, hf1⟩ := j5 hb1; have hz1 : w.heap.size + 1 < w1.heap.size := (by have := hb1.size; simp at this; omega); simp only [vV])
  refine bodyPost_ret (by simp [results, Tryz.results69, go_sem, hc1] <;> rfl) rfl ⟨rfl, ?_⟩
  exact (((v7 (qg3 w _ _) hb1).setCell (by simp) _).setCell (by simp) _).setCell (by simp) _
set_option maxHeartbeats 800000 in
theorem tof_22 (w : World) (ps : List Pr) (ev : Value) (vb n c : Nat) (vs : List V) (t : Tm) (hev : ∃ a n c, ev = .slice a n c) (hv : ValsAt w vb n vs) (hlt : vb < w.heap.size) (hL : t.left < n) (hs : t.str.length ≤ 200) (hx : (vs.getD t.left nV).str.length ≤ 1000) (ho : t.op = 22) : qv7 w ps ev (.slice (some ⟨vb, 0, none⟩) n c) vs t := by
  have hr : ofT ps vs t = vn4 (vs.getD t.left nV) t.str t.esc := by simp [ofT, ho]
  unfold qv7
  rw [hr]
  obtain ⟨x0, x1, x2⟩ := hv t.left hL
  have hl0 : (0 : Int) ≤ (t.left : Int) := by omega
  have hl1 : (t.left : Int) < (n : Int) := by omega
  have CON := v6 (fun w1 => jb8 (vs.getD t.left nV) (BS t.str) (BS t.esc) (by rw [qc0]; exact hs) hx w1)
  simp only [qp9] at CON
  obtain ⟨R, hR'⟩ : ∃ r, vn4 (vs.getD t.left nV) t.str t.esc = r := ⟨_, rfl⟩
  rw [hR'] at CON ⊢
  obtain ⟨X, hX⟩ : ∃ x, vs.getD t.left nV = x := ⟨_, rfl⟩
  rw [hX] at CON x0 x1 x2
  obtain ⟨ea, en, ec, rfl⟩ := hev
  unfold tmV
  have d0 : ¬ w.heap.size + 1 = w.heap.size := by omega
  have d1 : ¬ w.heap.size = w.heap.size + 1 := by omega
  have d2 : ¬ vb = w.heap.size := by omega
  have d3 : ¬ vb = w.heap.size + 1 := by omega
  have m1 : vb < w.heap.size + 1 := by omega
  have m2 : vb < w.heap.size + 1 + 1 := by omega
  rw [ho]
  clear hr hR' hX hx ho hs hv
  go_enter Tryz.func69, Tryz.ntmps69
  go_wp2_with fail
  go_region_with ((go_at_call 105; refine (q9 CON _).mono ?_; rintro e w1 ⟨rfl, hb1⟩; obtain ⟨hc1, hf1⟩ := j5 hb1; have hz1 : w.heap.size + 1 < w1.heap.size := (by have := hb1.size; simp at this; omega); simp only [vV]))
  all_goals go_wp2_with fail
  all_goals
    refine bodyPost_ret (by simp [results, Tryz.results69, go_sem, hc1] <;> rfl) rfl ⟨rfl, ?_⟩
    exact (((v7 (qg3 w _ _).drew hb1).setCell (by simp) _).setCell (by simp) _).setCell (by simp) _
set_option maxHeartbeats 800000 in
theorem tof_x (w : World) (ps : List Pr) (ev : Value) (vb n c : Nat) (vs : List V) (t : Tm) (hev : ∃ a n c, ev = .slice a n c) (hv : ValsAt w vb n vs) (hlt : vb < w.heap.size) (hL : t.left < n) (hR : t.right < n) (hrl : Rng (vs.getD t.left nV).num) (hrr : Rng (vs.getD t.right nV).num) (o0 : ¬ t.op = 0) (o1 : ¬ t.op = 1) (o2 : ¬ t.op = 2) (o3 : ¬ t.op = 3) (o4 : ¬ t.op = 4) (o22 : ¬ t.op = 22) : qv7 w ps ev (.slice (some ⟨vb, 0, none⟩) n c) vs t := by
  have hr : ofT ps vs t = qz2 t.op (vs.getD t.left nV) (vs.getD t.right nV) := by simp [ofT, o0, o1, o2, o3, o4, o22]
  unfold qv7
  rw [hr]
  obtain ⟨x0, x1, x2⟩ := hv t.left hL
  have hl0 : (0 : Int) ≤ (t.left : Int) := by omega
  have hl1 : (t.left : Int) < (n : Int) := by omega
  obtain ⟨y0, y1, y2⟩ := hv t.right hR
  have hr0 : (0 : Int) ≤ (t.right : Int) := by omega
  have hr1 : (t.right : Int) < (n : Int) := by omega
  have CON := v6 (fun w1 => vq3 (t.op : Int) (vs.getD t.left nV) (vs.getD t.right nV) hrl hrr w1)
  have e0 : ((t.op : Int) == 0) = false := beq_eq_false_iff_ne.2 (by omega)
  have e1 : ((t.op : Int) == 1) = false := beq_eq_false_iff_ne.2 (by omega)
  have e2 : ((t.op : Int) == 2) = false := beq_eq_false_iff_ne.2 (by omega)
  have e3 : ((t.op : Int) == 3) = false := beq_eq_false_iff_ne.2 (by omega)
  have e4 : ((t.op : Int) == 4) = false := beq_eq_false_iff_ne.2 (by omega)
  have e22 : ((t.op : Int) == 22) = false := beq_eq_false_iff_ne.2 (by omega)
  obtain ⟨R, hR'⟩ : ∃ r, qz2 t.op (vs.getD t.left nV) (vs.getD t.right nV) = r := ⟨_, rfl⟩
  rw [hR'] at CON ⊢
  obtain ⟨X, hX⟩ : ∃ x, vs.getD t.left nV = x := ⟨_, rfl⟩
  rw [hX] at CON x0 x1 x2
  obtain ⟨Y, hY⟩ : ∃ x, vs.getD t.right nV = x := ⟨_, rfl⟩
  rw [hY] at CON y0 y1 y2
  obtain ⟨ea, en, ec, rfl⟩ := hev
  unfold tmV
  have d0 : ¬ w.heap.size + 1 = w.heap.size := by omega
  have d1 : ¬ w.heap.size = w.heap.size + 1 := by omega
  have d2 : ¬ vb = w.heap.size := by omega
  have d3 : ¬ vb = w.heap.size + 1 := by omega
  have m1 : vb < w.heap.size + 1 := by omega
  have m2 : vb < w.heap.size + 1 + 1 := by omega
  have js0 : JS w.heap.size vb t X Y ((w.alloc (.cells #[.int .i64 t.op, .int .i64 t.left, .int .i64 t.right, .int .i64 t.num, .string (BS t.str), .string (BS t.esc)] 142)).alloc (.cells #[.int .i64 0, .int .i64 0, .string ⟨#[]⟩] 118)).drew := by
    refine ⟨?_, ?_, ?_, ?_, ?_, ?_, ?_, ?_, ?_⟩ <;> simp [go_sem, *]
  clear hr hR' hX hY hrl hrr o0 o1 o2 o3 o4 o22 hv
  go_enter Tryz.func69, Tryz.ntmps69
  go_wp2_with fail
  go_region_held3 (fun w' => w'.cell? ⟨w.heap.size, 0, none⟩ = some (.int .i64 t.op) ∧ w'.cell? ⟨w.heap.size, 1, none⟩ = some (.int .i64 t.left) ∧ w'.cell? ⟨w.heap.size, 2, none⟩ = some (.int .i64 t.right) ∧ w'.cell? ⟨vb, t.left * 3, none⟩ = some (.int .i64 X.kind) ∧ w'.cell? ⟨vb, t.left * 3 + 1, none⟩ = some (.int .i64 X.num) ∧ w'.cell? ⟨vb, t.left * 3 + 2, none⟩ = some (.string (BS X.str)) ∧ w'.cell? ⟨vb, t.right * 3, none⟩ = some (.int .i64 Y.kind) ∧ w'.cell? ⟨vb, t.right * 3 + 1, none⟩ = some (.int .i64 Y.num) ∧ w'.cell? ⟨vb, t.right * 3 + 2, none⟩ = some (.string (BS Y.str))) (first | exact js0 | exact js1 | exact js_store js1 (by omega) (by omega)) ((go_at_call 106; refine (q9 CON _).mono ?_; rintro e w1 ⟨rfl, hb1⟩; obtain ⟨hc1, hf1⟩ := j5 hb1; have hz1 : w.heap.size + 1 < w1.heap.size := (by have := hb1.size; simp at this; omega); have js1 := js_below js0 hb1 (by simp; omega) (by simp; omega); simp only [vV]))
  all_goals go_wp2_with fail
  all_goals
    refine bodyPost_ret (by simp [results, Tryz.results69, go_sem, hc1] <;> rfl) rfl ⟨rfl, ?_⟩
    exact (((v7 (qg3 w _ _).drew hb1).setCell (by simp) _).setCell (by simp) _).setCell (by simp) _
end
section
def qr0 (ps : List Pr) (ts : List Tm) : Nat → List V
  | 0 => []
  | k + 1 => qr0 ps ts k ++ [ofT ps (qr0 ps ts k) (ts.getD k (.bare 0))]
def ju5 (vs : List V) (rs : List Nat) : Nat → List Nat
  | 0 => []
  | k + 1 => ju5 vs rs k ++ (if vs.getD (rs.getD k 0) nV = bV true then [k] else [])
def metR (ps : List Pr) (ts : List Tm) (rs : List Nat) : List Nat := ju5 (qr0 ps ts ts.length) rs rs.length
theorem qm9 (ps : List Pr) (ts : List Tm) (k : Nat) : (qr0 ps ts k).length = k := by
  induction k with
  | zero => rfl
  | succ k ih => rw [qr0, List.length_append, ih]; rfl
theorem vi7 (vs : List V) (rs : List Nat) (k : Nat) : (ju5 vs rs k).length ≤ k := by
  induction k with
  | zero => exact Nat.le_refl _
  | succ k ih => rw [ju5, List.length_append]; split <;> simp <;> omega
theorem metK_lt (vs : List V) (rs : List Nat) (k : Nat) : ∀ x ∈ ju5 vs rs k, x < k := by
  induction k with
  | zero => intro x hx; simp [ju5] at hx
  | succ k ih =>
    intro x hx
    rw [ju5, List.mem_append] at hx
    rcases hx with hx | hx
    · have := ih x hx; omega
    · split at hx
      · simp at hx; omega
      · simp at hx
def Gv (v : V) : Prop := Rng v.num ∧ Sh v
theorem gv_n : Gv nV := ⟨qy2, vn3⟩
theorem ofT_good {ps : List Pr} (h : vw5 ps) (hs : EvSh ps) {vs : List V} {k : Nat} {t : Tm} (ht : FitsT k t) : Gv (ofT ps vs t) := by
  unfold ofT
  split
  · refine ⟨jn6 h _, ?_⟩
    unfold qy0
    split
    · rename_i p hp
      exact hs p (List.mem_of_find?_eq_some hp)
    · exact vn3
  split
  · exact ⟨ht.num, sh_i _⟩
  split
  · exact ⟨rng0, by have := ht.str; show t.str.length ≤ 1000; omega⟩
  split
  · exact ⟨qz5 _, vn2 _⟩
  split
  · unfold vn4
    exact ⟨qi1 (qz5 _) qy2, qa8 (vn2 _) vn3⟩
  · exact ⟨jn7 _ _ _, sh_join _ _ _⟩
theorem jy4 {ps : List Pr} (h : vw5 ps) (hs : EvSh ps) {ts : List Tm} (hf : ∀ i t, ts[i]? = some t → FitsT i t) (k : Nat) (hk : k ≤ ts.length) : ∀ i, Gv ((qr0 ps ts k).getD i nV) := by
  induction k with
  | zero => intro i; exact gv_n
  | succ k ih =>
    intro i
    have ih := ih (by omega) i
    have hkl : ts[k]? = some ts[k] := List.getElem?_eq_getElem (by omega)
    rw [qr0, List.getD_eq_getElem?_getD]
    rw [List.getD_eq_getElem?_getD] at ih
    rcases Nat.lt_or_ge i k with hi | hi
    · rw [List.getElem?_append_left (by rw [qm9]; exact hi)]
      exact ih
    · rw [List.getElem?_append_right (by rw [qm9]; exact hi), qm9]
      rcases Nat.eq_zero_or_pos (i - k) with h0 | h0
      · rw [h0]
        show Gv (ofT _ _ _)
        rw [List.getD_eq_getElem?_getD, hkl]
        exact ofT_good h hs (hf k _ hkl)
      · rw [List.getElem?_eq_none (by simp; omega)]
        exact gv_n
theorem tof_any {w : World} {ps : List Pr} {ev : Value} {vb n c k : Nat} {vs : List V} {t : Tm} (hev : EvArg w ev ps) (hv : ValsAt w vb n vs) (hlt : vb < w.heap.size) (hg : ∀ i, Gv (vs.getD i nV)) (ht : FitsT k t) (hk : k ≤ n) : qv7 w ps ev (.slice (some ⟨vb, 0, none⟩) n c) vs t := by
  have hsl := hev.slice
  by_cases h0 : t.op = 0
  · exact tof_0 w ps ev _ n c vs t hev h0
  by_cases h1 : t.op = 1
  · exact tof_1 w ps ev _ n c vs t hev h1
  by_cases h2 : t.op = 2
  · exact tof_2 w ps ev _ n c vs t hev h2
  by_cases h3 : t.op = 3
  · exact tof_3 w ps ev _ n c vs t hev h3
  by_cases h4 : t.op = 4
  · exact tof_4 w ps ev _ n c vs t hev h4
  have hsd := ht.sides (by omega)
  by_cases h22 : t.op = 22
  · exact tof_22 w ps ev vb n c vs t hsl hv hlt (by omega) ht.str (hg _).2 h22
  · exact tof_x w ps ev vb n c vs t hsl hv hlt (by omega) (by omega) (hg _).1 (hg _).1 h0 h1 h2 h3 h4 h22
theorem jt7 : (Tryz.prog.info? 118).map (fun i => (i.zero, i.size, i.bytes)) = some (some (.agg #[.int .i64 0, .int .i64 0, .string ⟨#[]⟩]), 3, 32) := by kernel_rfl
structure RunAt (w wr : World) (vb n : Nat) (vs : List V) : Prop where
  vals : ValsAt wr vb n vs
  fz : ∀ j, wr.frozen? ⟨vb, j, none⟩ = false
  ge : w.heap.size ≤ vb
  lt : vb < wr.heap.size
  bel : Below w.heap.size w wr
theorem RunAt.next {w wr w' : World} {vb n : Nat} {vs : List V} (h : RunAt w wr vb n vs) (hb : Below wr.heap.size wr w') : RunAt w w' vb n vs :=
  ⟨h.vals.below hb h.lt, fun j => (hb.frozen (p := ⟨vb, j, none⟩) h.lt).trans (h.fz j), h.ge, Nat.lt_of_lt_of_le h.lt hb.size, v7 h.bel hb⟩
theorem RunAt.made {w w1 : World} {n : Nat} (h : w1.ownsRow w.heap.size 118 3 (.slice (some ⟨w.heap.size, 0, none⟩) n n) n (madeCells (Value.agg #[.int .i64 0, .int .i64 0, .string ⟨#[]⟩]).cells (n * 3)).toList) (hg : w.grownBy w1 none) : RunAt w w1 w.heap.size n [] := by
  have hl := h.lt w.heap.size rfl
  refine ⟨fun i hi => ?_, fun j => ?_, Nat.le_refl _, hl.2, ⟨hg.os, hg.tape, hg.output, hg.size, fun k hk => hg.block k hk (by simp)⟩⟩
  · have hc := h.cells (g := w.heap.size) rfl
    have hadd : ∀ j, (⟨w.heap.size, 0, none⟩ : Addr).add j = ⟨w.heap.size, j, none⟩ := fun j => by unfold Addr.add; split <;> simp_all
    have hm : ∀ j, j < 3 → (madeCells (Value.agg #[.int .i64 0, .int .i64 0, .string ⟨#[]⟩]).cells (n * 3)).toList[i * 3 + j]? = ([.int .i64 0, .int .i64 0, .string ⟨#[]⟩] : List Value)[j]? := by
      intro j hj
      have h1 : i * 3 + j < n * 3 := by omega
      have h2 : (i * 3 + j) % 3 = j := by omega
      have hcs : (Value.agg #[.int .i64 0, .int .i64 0, .string ⟨#[]⟩]).cells = #[.int .i64 0, .int .i64 0, .string ⟨#[]⟩] := by rfl
      rw [hcs]
      simp [madeCells, h1, h2]
      match j, hj with
      | 0, _ => rfl
      | 1, _ => rfl
      | 2, _ => rfl
    refine ⟨?_, ?_, ?_⟩
    · have := hc (i * 3 + 0) _ (hm 0 (by decide)); rwa [hadd] at this
    · have := hc (i * 3 + 1) _ (hm 1 (by decide)); rwa [hadd] at this
    · have := hc (i * 3 + 2) _ (hm 2 (by decide)); rwa [hadd] at this
  · rcases h.2 with ⟨hv, _⟩ | ⟨g, cap, cur, hv, _, hgg, _⟩
    · simp at hv
    · simp at hv
      obtain ⟨rfl, _⟩ := hv
      simp [World.frozen?, hgg]
theorem RunAt.store {w wr : World} {vb n k : Nat} {vs : List V} (h : RunAt w wr vb n vs) (hl : vs.length = k) (hk : k < n) (x : V) :
    RunAt w (((wr.setCell ⟨vb, k * 3, none⟩ (.int .i64 x.kind)).setCell ⟨vb, k * 3 + 1, none⟩ (.int .i64 x.num)).setCell ⟨vb, k * 3 + 2, none⟩ (.string (BS x.str))) vb n (vs ++ [x]) := by
  have hge := h.ge
  refine ⟨fun i hi => ?_, fun j => by simp [go_sem, h.fz], hge, by have := h.lt; simpa using this, ((h.bel.setCell (by exact hge) _).setCell (by exact hge) _).setCell (by exact hge) _⟩
  obtain ⟨a0, a1, a2⟩ := h.vals k hk
  by_cases he : i = k
  · subst he
    have hx : (vs ++ [x]).getD i nV = x := by rw [List.getD_eq_getElem?_getD, List.getElem?_append_right (by omega), hl, Nat.sub_self]; rfl
    rw [hx]
    refine ⟨?_, ?_, ?_⟩ <;> simp [go_sem, a0, a1, a2]
  · have hx : (vs ++ [x]).getD i nV = vs.getD i nV := by
      rw [List.getD_eq_getElem?_getD, List.getD_eq_getElem?_getD]
      rcases Nat.lt_or_ge i k with h1 | h1
      · rw [List.getElem?_append_left (by omega)]
      · rw [List.getElem?_eq_none (by simp; omega), List.getElem?_eq_none (by omega)]
    rw [hx]
    obtain ⟨b0, b1, b2⟩ := h.vals i hi
    have e00 : ¬ i * 3 = k * 3 := by omega
    have e01 : ¬ i * 3 = k * 3 + 1 := by omega
    have e02 : ¬ i * 3 = k * 3 + 2 := by omega
    have e10 : ¬ i * 3 + 1 = k * 3 := by omega
    have e11 : ¬ i * 3 + 1 = k * 3 + 1 := by omega
    have e12 : ¬ i * 3 + 1 = k * 3 + 2 := by omega
    have e20 : ¬ i * 3 + 2 = k * 3 := by omega
    have e21 : ¬ i * 3 + 2 = k * 3 + 1 := by omega
    have e22 : ¬ i * 3 + 2 = k * 3 + 2 := by omega
    refine ⟨?_, ?_, ?_⟩
    · simp [go_sem, b0]
    · simp [go_sem, b1]
    · simp [go_sem, b2]
theorem TsAt.cells {w : World} {base : Nat} {v : Value} {ts : List Tm} (h : TsAt w base v ts) : ∃ a c, v = .slice a ts.length c ∧ ∀ (k : Nat) (t : Tm), ts[k]? = some t → ∃ g, a = some ⟨g, 0, none⟩ ∧ g < w.heap.size ∧
    w.cell? ⟨g, k * 6, none⟩ = some (.int .i64 t.op) ∧ w.cell? ⟨g, k * 6 + 1, none⟩ = some (.int .i64 t.left) ∧ w.cell? ⟨g, k * 6 + 2, none⟩ = some (.int .i64 t.right) ∧ w.cell? ⟨g, k * 6 + 3, none⟩ = some (.int .i64 t.num) ∧ w.cell? ⟨g, k * 6 + 4, none⟩ = some (.string (BS t.str)) ∧ w.cell? ⟨g, k * 6 + 5, none⟩ = some (.string (BS t.esc)) := by
  have h0 := h
  rcases h.2 with ⟨rfl, hn⟩ | ⟨g, cap, cur, rfl, hbg, hgg, _⟩
  · refine ⟨none, 0, by rw [hn], fun k t hk => ?_⟩
    have := (List.getElem?_eq_some_iff.1 hk).1
    omega
  · refine ⟨_, cap, rfl, fun k t hk => ⟨g, rfl, (Array.getElem?_eq_some_iff.1 hgg).1, ?_⟩⟩
    have hadd : ∀ j, (⟨g, 0, none⟩ : Addr).add j = ⟨g, j, none⟩ := fun j => by unfold Addr.add; split <;> simp_all
    have hc : ∀ j u, (qq8 t)[j]? = some u → w.cell? ⟨g, k * 6 + j, none⟩ = some u := fun j u hj => by
      have := World.ownsRow.cells h0 (g := g) rfl (k * 6 + j) u (jb3 hk hj)
      rwa [hadd] at this
    exact ⟨hc 0 _ rfl, hc 1 _ rfl, hc 2 _ rfl, hc 3 _ rfl, hc 4 _ rfl, hc 5 _ rfl⟩
theorem IsAt.cells {w : World} {base : Nat} {v : Value} {l : List Nat} (h : IsAt w base v l) : ∃ a c, v = .slice a l.length c ∧ ∀ (k : Nat) (x : Nat), l[k]? = some x → ∃ g, a = some ⟨g, 0, none⟩ ∧ g < w.heap.size ∧ w.cell? ⟨g, k, none⟩ = some (.int .i64 x) := by
  have h0 := h
  rcases h.2 with ⟨rfl, hn⟩ | ⟨g, cap, cur, rfl, hbg, hgg, _⟩
  · refine ⟨none, 0, by rw [hn], fun k t hk => ?_⟩
    have := (List.getElem?_eq_some_iff.1 hk).1
    omega
  · refine ⟨_, cap, rfl, fun k x hk => ⟨g, rfl, (Array.getElem?_eq_some_iff.1 hgg).1, ?_⟩⟩
    have hadd : ∀ j, (⟨g, 0, none⟩ : Addr).add j = ⟨g, j, none⟩ := fun j => by unfold Addr.add; split <;> simp_all
    have := World.ownsRow.cells h0 (g := g) rfl k (.int .i64 x) (by simp [qj5, hk])
    rwa [hadd] at this
end
section
def vf9 (ms : List Mg) (y : Mg) (k : Nat) : List Mg := (ms.set 0 y).take k
def popM (ms : List Mg) : List Mg := match ms.getLast? with
  | some y => ja7 (vf9 ms y (ms.length - 1)) 0
  | none => []
theorem HpAt.cut {w : World} {hb ho g cap k : Nat} {ms : List Mg} (h : HpAt w hb ho g cap ms) (hk : ms.length = k + 1) {x : Mg} (hx : ms[0]? = some x) (y : Mg) :
    HpAt (((w.setCell ⟨g, 0, none⟩ (.int .i64 y.pri)).setCell ⟨g, 1, none⟩ (.int .i64 y.num)).setCell ⟨hb, ho, none⟩ (.slice (some ⟨g, 0, none⟩) k cap)) hb ho g cap (vf9 ms y k) := by
  obtain ⟨c, fz, ne, lt, glt, cells, gfz, blk, room⟩ := h
  obtain ⟨x0, x1⟩ := cells 0 x hx
  have hlen : (vf9 ms y k).length = k := by unfold vf9; rw [List.length_take, List.length_set]; omega
  simp only [Nat.zero_mul, Nat.zero_add] at x0 x1
  refine ⟨by rw [hlen]; simp [go_sem, c], by simp [go_sem, fz], ne, by simpa using lt, by simpa using glt, fun i m hm => ?_, fun j => by simp [go_sem, gfz], ?_, by rw [hlen]; omega⟩
  · have hi : i < k := by have := (List.getElem?_eq_some_iff.1 hm).1; omega
    unfold vf9 at hm
    rw [List.getElem?_take, if_pos hi] at hm
    by_cases h0 : i = 0
    · subst h0
      rw [List.getElem?_set_self (by omega)] at hm
      simp at hm
      subst hm
      constructor <;> simp [go_sem, x0, x1]
    · rw [List.getElem?_set_ne (fun e => h0 e.symm)] at hm
      obtain ⟨m0, m1⟩ := cells i m hm
      constructor <;> simp [go_sem, m0, m1]
  · exact ((blk.set _ _).set _ _).same (Below.heap_setCell _ ⟨hb, ho, none⟩ _ g (by show g ≠ hb; exact ne))
theorem ja5 {w : World} {b o : Nat} {v : Value} (h : w.cell? ⟨b, o, none⟩ = some v) : (w.setCell ⟨b, o, none⟩ v).heap[b]? = w.heap[b]? := by
  simp only [World.cell?] at h
  simp only [World.setCell, Array.getElem?_modify, if_true]
  cases hb : w.heap[b]? with
  | none => rfl
  | some obj =>
    rw [hb] at h
    cases obj with
    | cells cs ty fr =>
      simp at h
      simp only [Option.map_some]
      congr 2
      apply Array.ext_getElem?
      intro i
      simp only [Option.isSome_none, Bool.false_eq_true, if_false]
      rw [Array.getElem?_setIfInBounds]
      split
      · rename_i e
        subst e
        split
        · exact h.symm
        · rename_i hlt
          rw [Array.getElem?_eq_none (by omega)] at h
          cases h
      · rfl
    | _ => simp at h
theorem HqAt.below {w w' : World} {hb ho base : Nat} {v : Value} {ms : List Mg} (h : HqAt w hb ho v base ms) (hB : Below w.heap.size w w') : HqAt w' hb ho v base ms := by
  obtain ⟨hc, hf⟩ := j5 hB
  exact ⟨(hc hb ho h.lt).trans h.c, (hf hb ho h.lt).trans h.fz, Nat.lt_of_lt_of_le h.lt hB.size, qe6 h.own hB (Nat.le_refl _), h.ne⟩
def vh1 (hb ho base : Nat) (v : Value) (ms : List Mg) (w : World) (e : Ending) (w' : World) : Prop := ∃ v' m, e = .returned (.tuple #[mgV m, .bool (decide (0 < ms.length))]) ∧ m = (ms.head?).getD ⟨0, 0⟩ ∧ HqAt w' hb ho v' base (popM ms) ∧ PqKept hb ho v v' w w'
set_option maxHeartbeats 1000000 in
theorem pop_none (hb ho base : Nat) (v : Value) (w : World) (h : HqAt w hb ho v base []) : Calls Tryz.prog 46 #[.pointer (some ⟨hb, ho, none⟩)] w (vh1 hb ho base v [] w) := by
  have H0 := v6 h
  have c := h.c
  have lt := h.lt
  obtain ⟨a, cp, rfl⟩ := h.form
  have hlt1 : hb < w.heap.size + 1 := by omega
  clear h
  simp only [List.length_nil] at c ⊢
  go_enter Tryz.func46, Tryz.ntmps46
  go_wp2_with fail
  refine bodyPost_ret (by simp [results, Tryz.results46, go_sem] <;> rfl) rfl ⟨.slice a 0 cp, ⟨0, 0⟩, rfl, rfl, (q9 H0).below ((Below.refl _ _).alloc (Nat.le_refl _) _), ?_⟩
  refine ⟨rfl, rfl, rfl, by simp, fun k h1 _ _ => Below.heap_alloc w _ k h1, ?_, fun k h => .inl h⟩
  rw [ja5 c]
  exact Below.heap_alloc w _ hb lt
theorem vf1 (n : Nat) : ∀ (ms : List Mg) (k : Nat), (vk6 n ms k).length = ms.length := by
  induction n with
  | zero => intro ms k; rfl
  | succ n ih =>
    intro ms k
    rw [vk6]
    split
    · rfl
    · split
      · rw [ih]; simp
      · rfl
def popW (w : World) (hb ho g cap k : Nat) (x y : Mg) : World :=
  (((((w.setCell ⟨g, 0, none⟩ (.int .i64 y.pri)).setCell ⟨g, 1, none⟩ (.int .i64 y.num)).setCell ⟨hb, ho, none⟩ (.slice (some ⟨g, 0, none⟩) k cap)).alloc (.cells #[.int .i64 0, .int .i64 0] 102)).alloc (.cells #[.int .i64 x.pri, .int .i64 x.num] 102)).drew.drew
theorem popW_kept {w w' : World} {hb ho g cap k n : Nat} {x y : Mg} (hne : g ≠ hb) (hlt : hb < w.heap.size) (hk : Kept g (popW w hb ho g cap k x y) w') (u0 u1 : Value) :
    PqKept hb ho (.slice (some ⟨g, 0, none⟩) n cap) (.slice (some ⟨g, 0, none⟩) k cap) w ((w'.setCell ⟨w.heap.size, 0, none⟩ u0).setCell ⟨w.heap.size, 1, none⟩ u1) := by
  have hz : (popW w hb ho g cap k x y).heap.size = w.heap.size + 2 := by simp [popW]
  have hz' := hk.size
  have hset : ∀ i, i < w.heap.size → ((w'.setCell ⟨w.heap.size, 0, none⟩ u0).setCell ⟨w.heap.size, 1, none⟩ u1).heap[i]? = w'.heap[i]? := fun i hi =>
    (Below.heap_setCell _ ⟨w.heap.size, 1, none⟩ u1 i (by show i ≠ w.heap.size; omega)).trans (Below.heap_setCell _ ⟨w.heap.size, 0, none⟩ u0 i (by show i ≠ w.heap.size; omega))
  have hpw : ∀ i, i < w.heap.size → i ≠ g → (popW w hb ho g cap k x y).heap[i]? = (w.setCell ⟨hb, ho, none⟩ (.slice (some ⟨g, 0, none⟩) k cap)).heap[i]? := by
    intro i hi hig
    show ((((w.setCell ⟨g, 0, none⟩ (.int .i64 y.pri)).setCell ⟨g, 1, none⟩ (.int .i64 y.num)).setCell ⟨hb, ho, none⟩ (.slice (some ⟨g, 0, none⟩) k cap)).alloc (.cells #[.int .i64 0, .int .i64 0] 102)).alloc (.cells #[.int .i64 x.pri, .int .i64 x.num] 102) |>.heap[i]? = _
    rw [Below.heap_alloc _ _ i (by simp; omega), Below.heap_alloc _ _ i (by simp; omega)]
    have hgi : ¬ g = i := fun e => hig e.symm
    simp only [World.setCell, Array.getElem?_modify, hgi, if_false]
  refine ⟨hk.os, hk.tape, hk.output, by simp; omega, fun i h1 h2 h3 => ?_, ?_, fun i h => .inl h⟩
  · have hig : i ≠ g := fun e => h3 (by rw [e]; rfl)
    rw [hset i h1, hk.block i (by omega) hig, hpw i h1 hig]
    exact Below.heap_setCell w ⟨hb, ho, none⟩ _ i (by show i ≠ hb; exact h2)
  · rw [hset hb hlt, hk.block hb (by omega) (fun e => hne e.symm), hpw hb hlt (fun e => hne e.symm)]
set_option maxHeartbeats 2000000 in
set_option maxRecDepth 100000 in
theorem pop_some (hb ho base g cap k : Nat) (ms : List Mg) (hk : ms.length = k + 1) (hn : ms.length ≤ 90) (x y : Mg) (hx : ms[0]? = some x) (hy : ms[k]? = some y) (w : World) (h : HqAt w hb ho (.slice (some ⟨g, 0, none⟩) (k + 1) cap) base ms)
    (Q : Ending → World → Prop) (hQ : ∀ e w', vh1 hb ho base (.slice (some ⟨g, 0, none⟩) (k + 1) cap) ms w e w' → Q e w') :
    Calls Tryz.prog 46 #[.pointer (some ⟨hb, ho, none⟩)] w Q := by
  obtain ⟨hp, hbg, heq⟩ := h.hp
  clear heq
  have hcut := hp.cut hk hx y
  have hpop : popM ms = ja7 (vf9 ms y k) 0 := by
    have hl : ms.getLast? = some y := by rw [List.getLast?_eq_getElem?, hk]; exact hy
    unfold popM
    rw [hl, hk]
    rfl
  have hdec : decide (0 < ms.length) = true := decide_eq_true (by omega)
  have hhead : x = (ms.head?).getD ⟨0, 0⟩ := by rw [List.head?_eq_getElem?, hx]; rfl
  have HE : Hid (∀ w6 u0 u1, HpAt w6 hb ho g cap (ja7 (vf9 ms y k) 0) → Kept g (popW w hb ho g cap k x y) w6 → Q (.returned (.tuple #[mgV x, .bool true])) ((w6.setCell ⟨w.heap.size, 0, none⟩ u0).setCell ⟨w.heap.size, 1, none⟩ u1)) := v6 (by
    intro w6 u0 u1 h6 k6
    apply hQ
    have hsl : (ja7 (vf9 ms y k) 0).length = k := by rw [ja7, vf1]; unfold vf9; rw [List.length_take, List.length_set]; omega
    have hq := h6.hq hbg
    rw [hsl] at hq
    have hlt := hp.lt
    have hglt := hp.glt
    have hb6 : Below w.heap.size w6 ((w6.setCell ⟨w.heap.size, 0, none⟩ u0).setCell ⟨w.heap.size, 1, none⟩ u1) := ((Below.refl _ _).setCell (by exact Nat.le_refl _) _).setCell (by exact Nat.le_refl _) _
    refine ⟨_, x, by rw [hdec], hhead, ?_, popW_kept hp.ne hlt k6 u0 u1⟩
    rw [hpop]
    refine ⟨(hb6.cell (p := ⟨hb, ho, none⟩) hlt).trans hq.c, (hb6.frozen (p := ⟨hb, ho, none⟩) hlt).trans hq.fz, Nat.lt_of_lt_of_le hq.lt hb6.size, ?_, hq.ne⟩
    refine v9 hq.own fun g' hg' => ?_
    have e : g = g' := by simpa [Value.ownBlock] using hg'
    subst e
    exact hb6.block g hglt)
  have HS : Hid _ := v6 (sink_any hb ho g cap (vf9 ms y k) (by unfold vf9; rw [List.length_take, List.length_set]; omega) (popW w hb ho g cap k x y) (hcut.below (((Below.refl _ _).alloc (Nat.le_refl _) _).alloc (by simp) _).drew.drew))
  have CELLS : Hid (∀ w6, Kept g (popW w hb ho g cap k x y) w6 → w6.cell? ⟨w.heap.size + 1, 0, none⟩ = some (.int .i64 x.pri) ∧ w6.cell? ⟨w.heap.size + 1, 1, none⟩ = some (.int .i64 x.num) ∧ w6.cell? ⟨w.heap.size, 0, none⟩ = some (.int .i64 0) ∧ w6.cell? ⟨w.heap.size, 1, none⟩ = some (.int .i64 0) ∧ (∀ j, w6.frozen? ⟨w.heap.size, j, none⟩ = false) ∧ w.heap.size + 1 < w6.heap.size) := v6 (by
    intro w6 k6
    have hz : (popW w hb ho g cap k x y).heap.size = w.heap.size + 2 := by simp [popW]
    have hglt := hp.glt
    obtain ⟨hc, hf⟩ := x4 k6
    refine ⟨(hc _ 0 (by omega) (by omega)).trans ?_, (hc _ 1 (by omega) (by omega)).trans ?_, (hc _ 0 (by omega) (by omega)).trans ?_, (hc _ 1 (by omega) (by omega)).trans ?_, fun j => (hf _ j (by omega) (by omega)).trans ?_, by have := k6.size; omega⟩ <;> simp [popW, go_sem])
  obtain ⟨c, fz, ne, lt, glt, cells, gfz, blk, room⟩ := hp
  obtain ⟨x0, x1⟩ := cells 0 x hx
  obtain ⟨y0, y1⟩ := cells k y hy
  simp only [Nat.zero_mul, Nat.zero_add] at x0 x1
  rw [hk] at c
  have hw : IntKind.i64.wrap (((k + 1 : Nat) : Int) - 1) = (k : Int) := by rw [IntKind.wrap_i64]; omega
  have hw' : (((k + 1 : Nat) : Int) - 1) = (k : Int) := by omega
  have k0 : (0 : Int) ≤ (k : Int) := by omega
  have k1 : (k : Int) < ((k + 1 : Nat) : Int) := by omega
  have k2 : (k : Int) ≤ (cap : Int) := by omega
  have kb : k ≤ 90 := by omega
  have kz : (((k + 1 : Nat) : Int) == 0) = false := beq_eq_false_iff_ne.2 (by omega)
  have l1 : hb < w.heap.size + 1 := by omega
  have l2 : g < w.heap.size + 1 := by omega
  have l3 : hb < w.heap.size + 1 + 1 := by omega
  have l4 : g < w.heap.size + 1 + 1 := by omega
  have d1 : ¬ g = w.heap.size := by omega
  have d2 : ¬ hb = w.heap.size := by omega
  have d3 : ¬ g = w.heap.size + 1 := by omega
  have d4 : ¬ hb = w.heap.size + 1 := by omega
  clear cells blk h hcut hpop hdec hhead hx hy hQ hbg room hk
  unfold popW at HS
  go_enter Tryz.func46, Tryz.ntmps46
  go_wp2_with fail
  go_region
  all_goals go_wp2_with fail
  all_goals go_region
  all_goals go_wp2_with (go_at_call 72; refine (q9 HS).mono ?_; rintro e w6 ⟨rfl, h6, k6⟩; obtain ⟨q0, q1, q2, q3, qf, ql⟩ := q9 CELLS w6 k6; have H6 := v6 h6; have K6 := v6 k6; clear h6 k6)
  all_goals exact bodyPost_ret (by simp [results, Tryz.results46, go_sem, q2, q3] <;> rfl) rfl (q9 HE _ _ _ (q9 H6) (q9 K6))
end
section
def vx9 (x y : Int) : Int := if x < y then -1 else if y < x then 1 else 0
set_option maxHeartbeats 400000 in
theorem vi2 (x : Int) (w : World) : Calls Tryz.prog 83 #[.int .i64 x] w fun e w' => e = .returned (.bool false) ∧ w' = w := by
  go_enter Tryz.func83, Tryz.ntmps83
  go_wp2_with fail
  go_ret
  exact ⟨by simp, rfl⟩
set_option maxHeartbeats 400000 in
theorem jd3 (x y : Int) (w : World) : Calls Tryz.prog 53 #[.int .i64 x, .int .i64 y] w fun e w' => e = .returned (.int .i64 (vx9 x y)) ∧ w' = w := by
  rcases Int.lt_trichotomy x y with h | h | h
  · have hc : vx9 x y = -1 := by unfold vx9; rw [if_pos h]
    have h1 : decide (x < y) = true := decide_eq_true h
    rw [hc]
    go_enter Tryz.func53, Tryz.ntmps53
    go_wp2_with (go_at_call 83; refine (vi2 _ _).mono ?_; rintro e w1 ⟨rfl, rfl⟩)
    go_ret
    exact ⟨rfl, rfl⟩
  · subst h
    have hc : vx9 x x = 0 := by unfold vx9; simp
    have h1 : decide (x < x) = false := decide_eq_false (by omega)
    have h2 : decide (x > x) = false := decide_eq_false (by omega)
    rw [hc]
    go_enter Tryz.func53, Tryz.ntmps53
    go_wp2_with (go_at_call 83; refine (vi2 _ _).mono ?_; rintro e w1 ⟨rfl, rfl⟩)
    go_ret
    exact ⟨rfl, rfl⟩
  · have hc : vx9 x y = 1 := by unfold vx9; rw [if_neg (by omega), if_pos h]
    have h1 : decide (x < y) = false := decide_eq_false (by omega)
    have h2 : decide (x > y) = true := decide_eq_true h
    rw [hc]
    go_enter Tryz.func53, Tryz.ntmps53
    go_wp2_with (go_at_call 83; refine (vi2 _ _).mono ?_; rintro e w1 ⟨rfl, rfl⟩)
    go_ret
    exact ⟨rfl, rfl⟩
set_option maxHeartbeats 400000 in
theorem vr4 (x y : Int) (p q : Value) (w : World) : Calls Tryz.prog 52 #[.agg #[.int .i64 x, p, q], .int .i64 y] w fun e w' => e = .returned (.int .i64 (vx9 x y)) ∧ Below w.heap.size w w' := by
  go_enter Tryz.func52, Tryz.ntmps52
  go_wp2_with (go_at_call 53; refine (jd3 _ _ _).mono ?_; rintro e w1 ⟨rfl, rfl⟩)
  go_ret
  exact ⟨rfl, (Below.refl _ _).alloc (Nat.le_refl _) _⟩
structure Sb where
  id : Int
  core : Option Addr
  row : Option Addr
  len : Nat
  cap : Nat
def qa0 (s : Sb) : List Value := [.int .i64 s.id, .pointer s.core, .slice s.row s.len s.cap]
def SubsAt (w : World) (lo : Nat) (v : Value) (l : List Sb) : Prop :=
  ∃ a c, v = .slice a l.length c ∧ ∀ (i : Nat) (s : Sb), l[i]? = some s → ∃ g, a = some ⟨g, 0, none⟩ ∧ g < lo ∧ w.cell? ⟨g, i * 3, none⟩ = some (.int .i64 s.id) ∧ w.cell? ⟨g, i * 3 + 1, none⟩ = some (.pointer s.core) ∧ w.cell? ⟨g, i * 3 + 2, none⟩ = some (.slice s.row s.len s.cap)
theorem SubsAt.below {w w' : World} {lo : Nat} {v : Value} {l : List Sb} (h : SubsAt w lo v l) (hb : Below lo w w') : SubsAt w' lo v l := by
  obtain ⟨a, c, hv, hx⟩ := h
  refine ⟨a, c, hv, fun i s hi => ?_⟩
  obtain ⟨g, ha, hg, h0, h1, h2⟩ := hx i s hi
  exact ⟨g, ha, hg, (hb.cell (p := ⟨g, i * 3, none⟩) hg).trans h0, (hb.cell (p := ⟨g, i * 3 + 1, none⟩) hg).trans h1, (hb.cell (p := ⟨g, i * 3 + 2, none⟩) hg).trans h2⟩
def qb7 (l : List Sb) (id : Int) : Nat := l.countP fun s => decide (s.id < id)
def qn1 (l : List Sb) : Prop := l.Pairwise fun a b => a.id < b.id
theorem qt3 {l : List Sb} (h : qn1 l) (id : Int) : ∀ (i : Nat) (s : Sb), l[i]? = some s → (s.id < id ↔ i < qb7 l id) := by
  induction l with
  | nil => intro i s hi; simp at hi
  | cons a r ih =>
    have hr := List.pairwise_cons.1 h
    intro i s hi
    unfold qb7
    rw [List.countP_cons]
    cases i with
    | zero =>
      simp at hi
      subst hi
      by_cases hlt : a.id < id
      · simp [hlt]
      · have : r.countP (fun s => decide (s.id < id)) = 0 := List.countP_eq_zero.2 fun b hb => by
          have := hr.1 b hb
          simp; omega
        simp [hlt, this]
    | succ i =>
      have hi' : r[i]? = some s := by simpa using hi
      have := ih hr.2 i s hi'
      by_cases hlt : a.id < id
      · simp only [hlt, decide_true, if_true]
        unfold qb7 at this
        omega
      · have hs : ¬ s.id < id := by
          have := hr.1 s (List.mem_of_getElem? hi')
          omega
        have h0 : r.countP (fun s => decide (s.id < id)) = 0 := List.countP_eq_zero.2 fun b hb => by
          have := hr.1 b hb
          simp; omega
        simp [hlt, h0, hs]
theorem any_at {l : List Sb} (h : qn1 l) (id : Int) : (l.any fun s => s.id == id) = match l[qb7 l id]? with
    | some s => s.id == id
    | none => false := by
  have hc := qt3 h id
  have hpw := List.pairwise_iff_getElem.1 h
  cases hp : l[qb7 l id]? with
  | none =>
    rw [List.any_eq_false]
    intro s hs
    obtain ⟨i, hi⟩ := List.getElem?_of_mem hs
    have hlen := (List.getElem?_eq_some_iff.1 hi).1
    have hnone : l.length ≤ qb7 l id := List.getElem?_eq_none_iff.1 hp
    have := (hc i s hi).2 (by omega)
    simp
    omega
  | some t =>
    obtain ⟨ht1, ht2⟩ := List.getElem?_eq_some_iff.1 hp
    show _ = (t.id == id)
    have htn : ¬ t.id < id := fun hh => by have := (hc _ t hp).1 hh; omega
    by_cases he : t.id = id
    · rw [List.any_eq_true.2 ⟨t, List.mem_of_getElem? hp, by simp [he]⟩]
      simp [he]
    · rw [List.any_eq_false.2, Eq.comm]
      · simp [he]
      · intro s hs
        obtain ⟨i, hi⟩ := List.getElem?_of_mem hs
        obtain ⟨hi1, hi2⟩ := List.getElem?_eq_some_iff.1 hi
        rcases Nat.lt_trichotomy i (qb7 l id) with hlt | heq | hgt
        · have := (hc i s hi).2 hlt
          simp; omega
        · subst heq
          rw [hp] at hi
          cases hi
          simp [he]
        · have := hpw (qb7 l id) i ht1 hi1 hgt
          rw [ht2, hi2] at this
          simp; omega
set_option maxHeartbeats 2000000 in
set_option maxRecDepth 100000 in
theorem jd0 (l : List Sb) (id : Int) (v : Value) (w : World) (h : SubsAt w w.heap.size v l) (hup : qn1 l) (hn : l.length ≤ 8) :
    Calls Tryz.prog 51 #[v, .int .i64 id, .func (.func 52) #[] #[]] w fun e w' => e = .returned (.tuple #[.int .i64 (qb7 l id), .bool (l.any fun s => s.id == id)]) ∧ Below w.heap.size w w' := by
  have HS := v6 h
  obtain ⟨a, c, rfl, hx⟩ := h
  have HX := v6 hx
  have HC := v6 (qt3 hup id)
  have hple : qb7 l id ≤ l.length := List.countP_le_length
  clear hx
  obtain ⟨n, hnl⟩ : ∃ n, l.length = n := ⟨_, rfl⟩
  have HN := v6 hnl
  obtain ⟨P, hP⟩ : ∃ P, qb7 l id = P := ⟨_, rfl⟩
  obtain ⟨F, hF⟩ : ∃ F, (l.any fun s => s.id == id) = F := ⟨_, rfl⟩
  have HA : Hid _ := v6 (any_at hup id)
  rw [hF] at HA ⊢
  clear hF
  rw [hP] at HC hple HA ⊢
  rw [hnl] at hn hple ⊢
  clear hnl hP
  go_enter Tryz.func51, Tryz.ntmps51
  go_wp2_with fail
  go_loopw [9, 10] (fun i j wr => ∃ (lo hi : Nat), i = .int .i64 lo ∧ j = .int .i64 hi ∧ lo ≤ P ∧ P ≤ hi ∧ hi ≤ n ∧ Hid (Below w.heap.size w wr)) (fun i j _ => (intOf j).toNat - (intOf i).toNat)
  case atStart => exact ⟨0, n, rfl, rfl, Nat.zero_le _, hple, Nat.le_refl _, v6 (Below.refl _ _)⟩
  case round =>
    obtain ⟨lo, hi, rfl, rfl, h1, h2, h3, HB⟩ := hrel
    by_cases hlt : lo < hi
    · obtain ⟨m, hm⟩ : ∃ m, (lo + hi) / 2 = m := ⟨_, rfl⟩
      have hm1 : lo ≤ m := by omega
      have hm2 : m < hi := by omega
      have hmi : ((lo : Int) + (hi : Int)) / 2 = (m : Int) := by omega
      obtain ⟨s, hs⟩ : ∃ s, l[m]? = some s := ⟨_, List.getElem?_eq_getElem (by have := q9 HN; omega)⟩
      obtain ⟨g, rfl, glt, s0, s1, s2⟩ := q9 HX m s hs
      obtain ⟨hcB, hfB⟩ := j5 (q9 HB)
      rw [← hcB g (m * 3) glt] at s0
      rw [← hcB g (m * 3 + 1) glt] at s1
      rw [← hcB g (m * 3 + 2) glt] at s2
      have hCm := q9 HC m s hs
      have m0 : (0 : Int) ≤ (m : Int) := by omega
      have m1 : (m : Int) < (n : Int) := by omega
      have CM := v6 (fun w => vr4 s.id id (.pointer s.core) (.slice s.row s.len s.cap) w)
      clear hcB hfB hs hm
      by_cases hsi : s.id < id
      · have hd : decide (vx9 s.id id < 0) = true := decide_eq_true (by unfold vx9; rw [if_pos hsi]; decide)
        have hmP := hCm.1 hsi
        generalize vx9 s.id id = z at *
        go_wp2_with (go_at_call 52; refine (q9 CM _).mono ?_; rintro e w2 ⟨rfl, hb2⟩; have B2 := v6 (v7 (q9 HB) hb2); clear hb2)
        exact ⟨⟨m + 1, hi, rfl, rfl, by omega, h2, h3, B2⟩, by simp [intOf]; omega⟩
      · have hd : decide (vx9 s.id id < 0) = false := decide_eq_false (by unfold vx9; rw [if_neg hsi]; split <;> decide)
        have hmP : P ≤ m := by
          rcases Nat.lt_or_ge m P with hh | hh
          · exact absurd (hCm.2 hh) hsi
          · exact hh
        generalize vx9 s.id id = z at *
        go_wp2_with (go_at_call 52; refine (q9 CM _).mono ?_; rintro e w2 ⟨rfl, hb2⟩; have B2 := v6 (v7 (q9 HB) hb2); clear hb2)
        exact ⟨⟨lo, m, rfl, rfl, h1, hmP, by omega, B2⟩, by simp [intOf]; omega⟩
    · obtain rfl : lo = P := by omega
      obtain rfl : hi = lo := by omega
      by_cases hPn : hi < n
      · obtain ⟨s, hs⟩ : ∃ s, l[hi]? = some s := ⟨_, List.getElem?_eq_getElem (by have := q9 HN; omega)⟩
        obtain ⟨g, rfl, glt, s0, s1, s2⟩ := q9 HX hi s hs
        obtain ⟨hcB, hfB⟩ := j5 (q9 HB)
        rw [← hcB g (hi * 3) glt] at s0
        rw [← hcB g (hi * 3 + 1) glt] at s1
        rw [← hcB g (hi * 3 + 2) glt] at s2
        have p0 : (0 : Int) ≤ (hi : Int) := by omega
        have p1 : (hi : Int) < (n : Int) := by omega
        have CM := v6 (fun w => vr4 s.id id (.pointer s.core) (.slice s.row s.len s.cap) w)
        have HF : Hid (F = (s.id == id)) := v6 (by rw [q9 HA, hs])
        have hz : (vx9 s.id id == 0) = (s.id == id) := by
          unfold vx9
          rcases Int.lt_trichotomy s.id id with h | h | h
          · rw [if_pos h]; simp; omega
          · simp [h]
          · rw [if_neg (by omega), if_pos h]; simp; omega
        generalize vx9 s.id id = z at *
        clear hcB hfB hs
        go_wp2_with (go_at_call 52; refine (q9 CM _).mono ?_; rintro e w2 ⟨rfl, hb2⟩; have B2 := v6 (v7 (q9 HB) hb2); clear hb2)
        go_ret2
        exact ⟨by rw [q9 HF]; first | rfl | (rw [← hz]; rfl) | simp [hz], q9 B2⟩
      · have HF : Hid (F = false) := v6 (by rw [q9 HA, List.getElem?_eq_none (by have := q9 HN; omega)])
        go_wp2_with fail
        go_ret2
        exact ⟨by rw [q9 HF]; rfl, q9 HB⟩
end
section
attribute [local go_sem ↓] qc8
def RunEnds (w : World) (l : List Nat) (e : Ending) (w' : World) : Prop := ∃ v, e = .returned v ∧ IsAt w' w.heap.size v l ∧ Below w.heap.size w w'
theorem IsAt.mono {w : World} {lo hi : Nat} {v : Value} {l : List Nat} (h : IsAt w hi v l) (hl : lo ≤ hi) : IsAt w lo v l := by
  refine ⟨h.1, ?_⟩
  rcases h.2 with hn | ⟨g, cap, cur, rfl, hbg, rest⟩
  · exact .inl hn
  · exact .inr ⟨g, cap, cur, rfl, by omega, rest⟩
theorem IsAt.app {W : World} {base : Nat} {v : Value} {l : List Nat} (h : IsAt W base v l) (hb : base ≤ W.heap.size) (x : Nat) (hn : l.length ≤ 1000) (ty : TypeId) :
    ∃ g cap w5, (qm1 #[29, 29] ty #[v, .slice (some ⟨W.heap.size, 0, none⟩) 1 1]).run Tryz.prog (W.alloc (.cells #[.int .i64 x] 3)) = .ok (.slice (some ⟨g, 0, none⟩) (l.length + 1) cap) w5 ∧
      Hid (IsAt w5 base (.slice (some ⟨g, 0, none⟩) (l.length + 1) cap) (l ++ [x])) ∧ Hid (Below base W w5) := by
  obtain ⟨i0, hi, hz0, hz1, hz2⟩ := info_parts qs5
  have ha := World.ownsRow.alloc h (.cells #[.int .i64 x] 3)
  obtain ⟨g, cap, w5, hr, hown, hgrow, hat, _⟩ := run_append_lies (P := Tryz.prog) (W.alloc (.cells #[.int .i64 x] 3)) 29 ty base 3 i0 _ 1 8 Tryz.underlying29 hi hz0 hz1 hz2 rfl (by omega) v l.length (qj5 l) ha
    ⟨W.heap.size, 0, none⟩ 1 1 [.int .i64 x] rfl (World.news_of_block (cs := #[.int .i64 x]) (t := 3) (fr := (0, 0)) (heap_alloc_new W _)) (by simp [Value.oneCell']) (by omega) (by unfold maxLen; omega) (by omega) (by simp; omega) _ rfl
  refine ⟨g, cap, w5, hr, v6 ?_, v6 ?_⟩
  · show World.ownsRow _ _ _ _ _ _ _
    rw [List.length_append, List.length_singleton, qj5, List.map_append]
    exact hown
  · exact Go.RowKit.Below.grown (((Below.refl base W).alloc hb _)) hgrow (by simp; omega) (fun k hk => (ha.lt k hk).1)
theorem IsAt.app' {W W' : World} {base : Nat} {v : Value} {l : List Nat} (h : IsAt W base v l) (hb : base ≤ W.heap.size) (x : Nat) (hn : l.length ≤ 1000) (ty : TypeId) (H : Nat) (hH : W.heap.size = H) (hW : W' = W.alloc (.cells #[.int .i64 x] 3)) :
    ∃ g cap w5, (qm1 #[29, 29] ty #[v, .slice (some ⟨H, 0, none⟩) 1 1]).run Tryz.prog W' = .ok (.slice (some ⟨g, 0, none⟩) (l.length + 1) cap) w5 ∧
      Hid (IsAt w5 base (.slice (some ⟨g, 0, none⟩) (l.length + 1) cap) (l ++ [x])) ∧ Hid (Below base W w5) := by
  subst hH hW
  exact h.app hb x hn ty
theorem RunAt.nextB {w wr w' : World} {vb n B : Nat} {vs : List V} (h : RunAt w wr vb n vs) (hb : Below B wr w') (hB : vb < B) : RunAt w w' vb n vs :=
  ⟨h.vals.below hb hB, fun j => (hb.frozen (p := ⟨vb, j, none⟩) hB).trans (h.fz j), h.ge, Nat.lt_of_lt_of_le h.lt hb.size, h.bel.trans (hb.mono (by have := h.ge; omega))⟩
theorem IsAt.below {B : Nat} {w w' : World} {base : Nat} {v : Value} {l : List Nat} (h : IsAt w base v l) (hb : Below B w w') (hB : w.heap.size ≤ B) : IsAt w' base v l := qe6 h hb hB
theorem qq0 (w : World) (o : Obj) : Below w.heap.size w (w.alloc o) := (Below.refl _ _).alloc (Nat.le_refl _) o
set_option maxHeartbeats 2000000 in
set_option maxRecDepth 100000 in
theorem jn4 (ps : List Pr) (ev : Value) (pb o : Nat) (ts : List Tm) (rs : List Nat) (w : World) (hp : ProgAt w pb o ts rs) (hg : Prg ts rs) (hev : EvArg w ev ps) (hr : vw5 ps) (hs : EvSh ps) :
    Calls Tryz.prog 42 #[.pointer (some ⟨pb, o, none⟩), ev] w (RunEnds w (metR ps ts rs)) := by
  obtain ⟨i0, hi, hz0, hz1, hz2⟩ := info_parts jt7
  obtain ⟨i1, hj, hy0, hy1, hy2⟩ := info_parts qs5
  obtain ⟨plt, ⟨tv, tb, c0, hts⟩, rv, rb, c1, hrs⟩ := hp
  have HTS := v6 hts
  have HRS := v6 hrs
  have HEV := v6 hev
  obtain ⟨ea, en, ec, rfl⟩ := hev.slice
  obtain ⟨ta, tc, rfl, hTC⟩ := hts.cells
  obtain ⟨ra, rc, rfl, hRC⟩ := hrs.cells
  have HTC : Hid _ := v6 hTC
  have HRC : Hid _ := v6 hRC
  have HG := v6 hg
  have HVG : Hid (∀ k, k ≤ ts.length → ∀ i, Gv ((qr0 ps ts k).getD i nV)) := v6 fun k hk => jy4 hr hs hg.fits k hk
  have h80 := hg.terms
  have h8 := hg.roots
  clear hTC hRC hts hrs hev hg hr hs
  obtain ⟨n, hn⟩ : ∃ n, n = ts.length := ⟨_, rfl⟩
  obtain ⟨m, hm⟩ : ∃ m, m = rs.length := ⟨_, rfl⟩
  have HN : Hid (n = ts.length) := v6 hn
  have HM : Hid (m = rs.length) := v6 hm
  rw [← hn] at c0 h80
  rw [← hm] at c1 h8
  obtain ⟨R, hR⟩ : ∃ R, metR ps ts rs = R := ⟨_, rfl⟩
  have HR : Hid (R = ju5 (qr0 ps ts n) rs m) := v6 (by rw [hn, hm, ← hR]; rfl)
  rw [hR]
  clear hn hm hR
  have nv : ¬ pb = w.heap.size := by omega
  go_enter Tryz.func42, Tryz.ntmps42
  go_wp2_with (at_make; refine wpList_make_full _ rfl _ _ 151 rfl w.heap.size 118 i0 _ 3 Tryz.underlying151 hi hz0 hz1 .i64 .i64 _ _ n rfl rfl rfl rfl (by rw [hz2]; omega) (by unfold maxLen; omega) (Nat.le_refl _) ?_; intro w1 hown1 hgrow1; have R0 := v6 (RunAt.made hown1 hgrow1); have d0 := hgrow1.cell c0 (by simp); have d1 := hgrow1.cell c1 (by simp); clear hown1 hgrow1)
  go_loopw [22] (fun i wr => ∃ k : Nat, k ≤ n ∧ i = .int .i64 k ∧ Hid (RunAt w wr w.heap.size n (qr0 ps ts k))) (fun i _ => n - (intOf i).toNat)
  case atStart => exact ⟨0, Nat.zero_le _, rfl, R0⟩
  case round =>
    obtain ⟨k, hk, rfl, HL⟩ := hrel
    by_cases hlt : k < n
    · obtain ⟨t, ht⟩ : ∃ t, ts[k]? = some t := ⟨_, List.getElem?_eq_getElem (by have := q9 HN; omega)⟩
      obtain ⟨g, rfl, glt, t0, t1, t2, t3, t4, t5⟩ := q9 HTC k t ht
      have hB := (q9 HL).bel
      obtain ⟨hcB, hfB⟩ := j5 hB
      rw [← hcB g (k * 6) glt] at t0
      rw [← hcB g (k * 6 + 1) glt] at t1
      rw [← hcB g (k * 6 + 2) glt] at t2
      rw [← hcB g (k * 6 + 3) glt] at t3
      rw [← hcB g (k * 6 + 4) glt] at t4
      rw [← hcB g (k * 6 + 5) glt] at t5
      have hS : Hid (qr0 ps ts (k + 1) = qr0 ps ts k ++ [ofT ps (qr0 ps ts k) t]) := v6 (by rw [qr0, List.getD_eq_getElem?_getD, ht]; rfl)
      have hVL : Hid ((qr0 ps ts k).length = k) := v6 (qm9 _ _ _)
      have hzr := (q9 HL).lt
      have hzg : g < wr.heap.size := by have := hB.size; omega
      have hk0 : (0 : Int) ≤ (k : Int) := by omega
      have hk1 : (k : Int) < (n : Int) := by omega
      have TO : Hid (∀ W, EvArg W (.slice ea en ec) ps → ValsAt W w.heap.size n (qr0 ps ts k) → w.heap.size < W.heap.size → qv7 W ps (.slice ea en ec) (.slice (some ⟨w.heap.size, 0, none⟩) n n) (qr0 ps ts k) t) := v6 fun W h1 h2 h3 => tof_any h1 h2 h3 (q9 HVG k (by have := q9 HN; omega)) ((q9 HG).fits k t ht) (by omega)
      generalize qr0 ps ts k = vs at *
      obtain ⟨x, hx⟩ : ∃ x, ofT ps vs t = x := ⟨_, rfl⟩
      unfold qv7 at TO
      rw [hx] at TO hS
      simp only [tmV] at TO
      clear hcB hfB hB ht hx
      go_wp2_with (go_at_call 69; refine (q9 TO _ ((q9 HEV).below (v7 (q9 HL).bel (qq0 wr _))) ((q9 HL).vals.below (qq0 wr _) hzr) (by simp; omega)).mono ?_; rintro e w2 ⟨rfl, hb2⟩; have HL2 := v6 ((q9 HL).next (v7 (qq0 wr _) hb2)); have fz2 := (q9 HL2).fz; obtain ⟨v0, v1, v2⟩ := (q9 HL2).vals k hlt; have lt2 := (q9 HL2).lt; clear hb2; simp only [vV])
      case roundEnd => exact ⟨⟨k + 1, by omega, rfl, v6 (by rw [q9 hS]; exact (q9 HL2).store (q9 hVL) hlt x)⟩, by simp [intOf]; omega⟩
    · have : k = n := by omega
      subst this
      have d2 : wr.cell? ⟨pb, o + 1, none⟩ = some (.slice ra m rc) := ((q9 HL).bel.cell (p := ⟨pb, o + 1, none⟩) plt).trans c1
      obtain ⟨hVG, hVL⟩ : Hid (∀ i, Gv ((qr0 ps ts k).getD i nV)) ∧ Hid ((qr0 ps ts k).length = k) := ⟨v6 (q9 HVG k (by have := q9 HN; omega)), v6 (qm9 _ _ _)⟩
      have hzr := (q9 HL).lt
      generalize qr0 ps ts k = vs at *
      go_wp2_with fail
      go_loopw [8, 40] (fun v i wr => ∃ j : Nat, j ≤ m ∧ i = .int .i64 j ∧ Hid (RunAt w wr w.heap.size k vs) ∧ Hid (IsAt wr (w.heap.size + 1) v (ju5 vs rs j))) (fun _ i _ => m - (intOf i).toNat)
      case atStart => exact ⟨0, Nat.zero_le _, rfl, HL, v6 (IsAt.nil _ _)⟩
      case round =>
        obtain ⟨j, hj2, rfl, HL2, HI⟩ := hrel
        by_cases hlt2 : j < m
        · obtain ⟨r, hr⟩ : ∃ r, rs[j]? = some r := ⟨_, List.getElem?_eq_getElem (by have := q9 HM; omega)⟩
          obtain ⟨g, rfl, glt, t0⟩ := q9 HRC j r hr
          have hrk : r < k := by have h1 := (q9 HG).below r (List.mem_of_getElem? hr); have h2 := q9 HN; omega
          have hS : Hid (ju5 vs rs (j + 1) = ju5 vs rs j ++ (if vs.getD r nV = bV true then [j] else [])) := v6 (by rw [ju5, List.getD_eq_getElem?_getD (l := rs), hr]; rfl)
          have hML : Hid ((ju5 vs rs j).length ≤ j) := v6 (vi7 _ _ _)
          obtain ⟨hcB, hfB⟩ := j5 (q9 HL2).bel
          rw [← hcB g j glt] at t0
          obtain ⟨v0, v1, v2⟩ := (q9 HL2).vals r hrk
          have hzr2 := (q9 HL2).lt
          have hzg : g < wr.heap.size := by have := (q9 HL2).bel.size; omega
          have hj0 : (0 : Int) ≤ (j : Int) := by omega
          have hj1 : (j : Int) < (m : Int) := by omega
          have hr0 : (0 : Int) ≤ (r : Int) := by omega
          have hr1 : (r : Int) < (k : Int) := by omega
          obtain ⟨x, hx⟩ : ∃ x, vs.getD r nV = x := ⟨_, rfl⟩
          rw [hx] at v0 v1 v2 hS
          have ex := fun w => vh9 x (bV true) w
          simp only [vV] at ex
          clear hcB hfB hr hx
          by_cases hb : x = bV true
          · have hd : decide (x = bV true) = true := decide_eq_true hb
            simp only [hd] at ex
            rw [if_pos hb] at hS
            clear hd hb
            have hbb : Below wr.heap.size wr (wr.alloc (.cells #[.int .i64 (bV true).kind, .int .i64 (bV true).num, .string (BS (bV true).str)] 118)).drew := (qq0 wr _).drew
            obtain ⟨g5, cap5, w5, hap, HI5, HB5⟩ := IsAt.app' (W' := ((wr.alloc (.cells #[.int .i64 (bV true).kind, .int .i64 (bV true).num, .string (BS (bV true).str)] 118)).alloc (.cells #[.int .i64 j] 3)).drew) ((q9 HI).below hbb (Nat.le_refl _)) (by simp; omega) j (by have := q9 hML; omega) 29 (wr.heap.size + 1) (by simp) rfl
            have HL5 := v6 (((q9 HL2).next hbb).nextB (q9 HB5) (Nat.lt_succ_self _))
            clear hbb HB5
            go_wp2_with fail
            go_region_with (go_at_call 70; refine (qa6 _ _).mono ?_; rintro e w' ⟨rfl, rfl⟩; simp only [vV])
            all_goals go_wp2_with fail
            all_goals exact ⟨⟨j + 1, by omega, rfl, HL5, v6 (by rw [q9 hS]; exact q9 HI5)⟩, by simp [intOf]; omega⟩
          · have hd : decide (x = bV true) = false := decide_eq_false hb
            simp only [hd] at ex
            rw [if_neg hb] at hS
            clear hd hb
            go_wp2_with fail
            go_region_with (go_at_call 70; refine (qa6 _ _).mono ?_; rintro e w' ⟨rfl, rfl⟩; simp only [vV])
            all_goals go_wp2_with fail
            all_goals exact ⟨⟨j + 1, by omega, rfl, v6 ((q9 HL2).next (by repeat (first | exact Below.refl _ _ | apply Below.drew | apply z9))), v6 (by rw [q9 hS, List.append_nil]; exact IsAt.below (q9 HI) (by repeat (first | exact Below.refl _ _ | apply Below.drew | apply z9)) (Nat.le_refl _))⟩, by simp [intOf]; omega⟩
        · have : j = m := by omega
          subst this
          have HI' := v6 (IsAt.mono (q9 HI) (Nat.le_succ _))
          have HB' := v6 (q9 HL2).bel
          go_wp2_with fail
          go_ret
          exact ⟨_, rfl, by rw [q9 HR]; exact q9 HI', q9 HB'⟩
end
section
variable {P : Program}
def qh3 (cur : Array Value) (o : Nat) (cs : List Value) : Array Value := (cur.toList.take o ++ cs ++ cur.toList.drop (o + cs.length)).toArray
theorem qp8 {cur : Array Value} {o : Nat} {cs : List Value} (h : o + cs.length ≤ cur.size) : (qh3 cur o cs).size = cur.size := by
  simp [qh3]
  omega
theorem qj0 (cur : Array Value) (o : Nat) (cs : List Value) : (qh3 cur o cs).toList = cur.toList.take o ++ cs ++ cur.toList.drop (o + cs.length) := by
  simp [qh3]
theorem qp0 (w : World) (dT sT ty elem : TypeId) (K g o dLen dCap n : Nat) (a : Addr) (sLen sCap : Nat) (cur : Array Value) (t : TypeId) (cs : List Value)
    (hu : P.underlying dT = some (.slice elem)) (hs : (P.info? elem).map (·.size) = some K)
    (hg : w.heap[g]? = some (.cells cur t (0, 0))) (hn : n = Nat.min sLen dLen) (hl : cs.length = n * K)
    (hsrc : ∀ j v, cs[j]? = some v → w.cell? (a.add j) = some v) (hfit : o + cs.length ≤ cur.size) (h1 : ∀ v ∈ cs, v.oneCell' = true) :
    (Builtin.copy_ #[dT, sT] ty #[.slice (some ⟨g, o, none⟩) dLen dCap, .slice (some a) sLen sCap]).run P w = .ok (goInt n) (w.setRow g (qh3 cur o cs)) := by
  have hld := run_loadCells_list (P := P) w a cs hsrc
  have hst := run_storeCells_at P g o t cs 0 cur w hg (by simpa using hfit) h1
  simp only [Nat.add_zero] at hst
  cases hq : P.info? elem with
  | none => simp [hq] at hs
  | some i =>
    have hi : i.size = K := by simpa [hq] using hs
    simp [Builtin.copy_, run_underlying hu, Builtin.lenOf, Builtin.firstCells, sizeOf, typeInfo, hq, hi, ← hn, ← hl, hld, hst, qh3]
theorem vf8 (w : World) (t ty elem : TypeId) (i0 : TypeInfo) (K g n cap m c : Nat) (a : Addr) (cur : Array Value) (tt : TypeId) (cs : List Value)
    (hu : P.underlying t = some (.slice elem)) (hi : P.info? elem = some i0) (hk : i0.size = K)
    (hg : w.heap[g]? = some (.cells cur tt (0, 0))) (hl : cs.length = m * K) (hroom : n + m ≤ cap)
    (hsrc : ∀ j v, cs[j]? = some v → w.cell? (a.add j) = some v) (hfit : n * K + cs.length ≤ cur.size) (h1 : ∀ v ∈ cs, v.oneCell' = true) :
    (Builtin.append_ #[t, t] ty #[.slice (some ⟨g, 0, none⟩) n cap, .slice (some a) m c]).run P w = .ok (.slice (some ⟨g, 0, none⟩) (n + m) cap) (w.setRow g (qh3 cur (n * K) cs)) := by
  have hld := run_loadCells_list (P := P) w a cs hsrc
  have hst := run_storeCells_at P g (n * K) tt cs 0 cur w hg (by simpa using hfit) h1
  simp only [Nat.add_zero] at hst
  have hadd : (⟨g, 0, none⟩ : Addr).add (n * K) = ⟨g, n * K, none⟩ := by unfold Addr.add; split <;> simp_all
  simp [Builtin.append_, run_underlying hu, Builtin.lenOf, Builtin.firstCells, sizeOf, typeInfo, hi, hk, hroom, ← hl, hld, hadd, hst, qh3]
theorem qv3 (z : Array Value) (n : Nat) : (Builtin.zeroCells z n).toList.length = n * z.size := by simp [Builtin.zeroCells]
theorem vw2 {z : Array Value} (n : Nat) (h : ∀ v ∈ z, v.oneCell' = true) : ∀ v ∈ (Builtin.zeroCells z n).toList, v.oneCell' = true := by
  intro v hv
  simp [Builtin.zeroCells] at hv
  obtain ⟨i, hi, rfl⟩ := hv
  have hz : 0 < z.size := by
    rcases Nat.eq_zero_or_pos z.size with e | e
    · rw [e] at hi; omega
    · exact e
  have := Nat.mod_lt i hz
  rw [getElem!_pos z (i % z.size) this]
  exact h _ (Array.getElem_mem _)
theorem jx0 (w : World) (t elem ty : TypeId) (z : Value) (K g o n c : Nat) (cur : Array Value) (tt : TypeId)
    (hu : P.underlying t = some (.slice elem)) (hv : ∀ w, (zeroValue elem).run P w = .ok z w) (hzs : z.cells.size = K) (h1 : ∀ v ∈ z.cells, v.oneCell' = true)
    (hg : w.heap[g]? = some (.cells cur tt (0, 0))) (hfit : o + (n + 1) * K ≤ cur.size) :
    (Builtin.clear_ #[t] ty #[.slice (some ⟨g, o, none⟩) (n + 1) c]).run P w = .ok (.tuple #[]) (w.setRow g (qh3 cur o (Builtin.zeroCells z.cells (n + 1)).toList)) := by
  have hst := run_storeCells_at P g o tt (Builtin.zeroCells z.cells (n + 1)).toList 0 cur w hg (by rw [qv3, hzs]; simpa using hfit) (vw2 _ h1)
  simp only [Nat.add_zero] at hst
  simp [Builtin.clear_, run_underlying hu, hv, hst, qh3]
theorem qe1 {w : World} {base : Nat} {e : TypeId} {size g n cap : Nat} {xs : List Value} (h : w.ownsRow base e size (.slice (some ⟨g, 0, none⟩) n cap) n xs) : base ≤ g ∧ n ≤ cap ∧ cap ≤ maxLen ∧ ∃ cur, w.heap[g]? = some (.cells cur e (0, 0)) ∧ cur.size = cap * size ∧ cur.toList.take (n * size) = xs := by
  rcases h.2 with ⟨hv, _⟩ | ⟨g', cap', cur0, hv, hb, hh, hnc, hcm, hcs, hx⟩
  · simp at hv
  · simp at hv
    obtain ⟨rfl, rfl⟩ := hv
    exact ⟨hb, hnc, hcm, cur0, hh, hcs, hx⟩
theorem qg5 (w : World) (g : Nat) (cur : Array Value) : w.grownBy (w.setRow g cur) (some g) := ⟨rfl, rfl, rfl, by simp, fun k _ hk => setRow_other w g k cur (fun e => hk (by rw [e]))⟩
theorem qt6 {a b c : World} {r : Option Nat} (h : a.grownBy b r) (k : b.grownBy c r) : a.grownBy c r := ⟨k.os.trans h.os, k.tape.trans h.tape, k.output.trans h.output, Nat.le_trans h.size k.size, fun i h1 h2 => (k.block i (Nat.lt_of_lt_of_le h1 h.size) h2).trans (h.block i h1 h2)⟩
theorem jf9 {a b c : World} {r : Option Nat} {g : Nat} (h : a.grownBy b r) (k : b.grownBy c (some g)) (hg : a.heap.size ≤ g) : a.grownBy c r := ⟨k.os.trans h.os, k.tape.trans h.tape, k.output.trans h.output, Nat.le_trans h.size k.size, fun i h1 h2 => (k.block i (Nat.lt_of_lt_of_le h1 h.size) (fun e => by simp at e; omega)).trans (h.block i h1 h2)⟩
end
end Go.Proofs.YtfkcaldjphakpabGreatDoor
