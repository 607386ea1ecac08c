/- The book of what there is: without, with. The book with one more. does: what is done to a broker. Gone: what comes of it. Gone: the book covers what there is. Gone of any script and any text. A script as an argument of a law. -/
import Derived.Test.YtfkcaldjphakpabGreatDoorP31
import Derived.Test.YtfkcaldjphakpabGreatDoorP29
import Derived.Test.YtfkcaldjphakpabGreatDoorP34
import Derived.Test.YtfkcaldjphakpabGreatDoorP32
import Derived.Lib.SmallJoins
namespace Go.Proofs.YtfkcaldjphakpabGreatDoor
open Go.RowKit
section
attribute [local go_sem ↓] qd6
abbrev Lv := Int × List UInt8
def qs3 (l : List Lv) : List Value := l.flatMap fun x => [.int .i64 x.1, .string (BS x.2)]
theorem vp7 (l r : List Lv) : qs3 (l ++ r) = qs3 l ++ qs3 r := by simp [qs3]
theorem jk2 {l : List Lv} {i : Nat} {x : Lv} (h : l[i]? = some x) : (qs3 l)[i * 2]? = some (.int .i64 x.1) ∧ (qs3 l)[i * 2 + 1]? = some (.string (BS x.2)) := by
  induction l generalizing i with
  | nil => simp at h
  | cons a r ih =>
    have e : qs3 (a :: r) = [.int .i64 a.1, .string (BS a.2)] ++ qs3 r := rfl
    cases i with
    | zero =>
      simp at h
      subst h
      exact ⟨rfl, rfl⟩
    | succ i =>
      have := ih (i := i) (by simpa using h)
      rw [e]
      have e1 : (i + 1) * 2 = 2 + i * 2 := by omega
      rw [e1]
      constructor
      · rw [List.getElem?_append_right (by show 2 ≤ _; omega)]
        simpa using this.1
      · rw [List.getElem?_append_right (by show 2 ≤ _; omega)]
        have e2 : 2 + i * 2 + 1 - ([.int .i64 a.1, .string (BS a.2)] : List Value).length = i * 2 + 1 := by simp; omega
        rw [e2]
        exact this.2
def LvAt (w : World) (base : Nat) (v : Value) (l : List Lv) : Prop := w.ownsRow base 32 2 v l.length (qs3 l)
theorem LvAt.nil (w : World) (base : Nat) : LvAt w base (.slice none 0 0) [] := World.ownsRow_nil _ _ _ _
theorem info_live : (Tryz.prog.info? 32).map (fun i => (i.zero, i.size, i.bytes)) = some (some (.agg #[.int .i64 0, .string ⟨#[]⟩]), 2, 24) := by kernel_rfl
theorem LvAt.app {W W' : World} {base : Nat} {v : Value} {l : List Lv} (h : LvAt W base v l) (hb : base ≤ W.heap.size) (x : Lv) (hn : l.length ≤ 4000000000000) (ty : TypeId) (H : Nat) (hH : W.heap.size = H) (hW : W' = W.alloc (.cells #[.int .i64 x.1, .string (BS x.2)] 32)) :
    ∃ g cap w5, (qn1 #[27, 27] ty #[v, .slice (some ⟨H, 0, none⟩) 1 1]).run Tryz.prog W' = .ok (.slice (some ⟨g, 0, none⟩) (l.length + 1) cap) w5 ∧
      Hid (LvAt w5 base (.slice (some ⟨g, 0, none⟩) (l.length + 1) cap) (l ++ [x])) ∧ Hid (W.grownBy w5 v.ownBlock) ∧ Hid (v.ownBlock = some g ∨ W.heap.size ≤ g) := by
  subst hH hW
  obtain ⟨i0, hi, hz0, hz1, hz2⟩ := info_parts info_live
  have ha := World.ownsRow.alloc h (.cells #[.int .i64 x.1, .string (BS x.2)] 32)
  obtain ⟨g, cap, w5, hr, hown, hgrow, hat, _⟩ := run_append_lies (P := Tryz.prog) (W.alloc (.cells #[.int .i64 x.1, .string (BS x.2)] 32)) 27 ty base 32 i0 _ 2 24 Tryz.underlying27 hi hz0 hz1 hz2 rfl (by omega) v l.length (qs3 l) ha
    ⟨W.heap.size, 0, none⟩ 1 1 [.int .i64 x.1, .string (BS x.2)] rfl (World.news_of_block (cs := #[.int .i64 x.1, .string (BS x.2)]) (t := 32) (fr := (0, 0)) (heap_alloc_new W _)) (by simp [Value.oneCell']) (by omega) (by unfold maxLen; omega) (by omega) (by simp; omega) _ rfl
  have hal := qs6 W (.cells #[.int .i64 x.1, .string (BS x.2)] 32)
  refine ⟨g, cap, w5, hr, v6 ?_, v6 ⟨hgrow.os, hgrow.tape, hgrow.output, ?_, fun k h1 h2 => ?_⟩, v6 ?_⟩
  · show World.ownsRow _ _ _ _ _ _ _
    rw [List.length_append, List.length_singleton, vp7]
    exact hown
  · have := hgrow.size
    simp at this
    omega
  · rw [hgrow.block k (by simp; omega) h2, hal.block k h1]
  · rcases hat with e | e
    · exact .inl e
    · right; simp at e; omega
theorem LvAt.cell {w : World} {base : Nat} {v : Value} {l : List Lv} (h : LvAt w base v l) {i : Nat} {x : Lv} (hi : l[i]? = some x) : ∃ g c, v = .slice (some ⟨g, 0, none⟩) l.length c ∧ g < w.heap.size ∧ w.cell? ⟨g, i * 2, none⟩ = some (.int .i64 x.1) ∧ w.cell? ⟨g, i * 2 + 1, none⟩ = some (.string (BS x.2)) := by
  rcases qe7 h with ⟨_, h0⟩ | ⟨g, c, rfl⟩
  · have := (List.getElem?_eq_some_iff.1 hi).1
    omega
  · obtain ⟨h1, h2⟩ := jk2 hi
    have c1 := World.ownsRow.cells h (g := g) rfl _ _ h1
    have c2 := World.ownsRow.cells h (g := g) rfl _ _ h2
    rw [qk4, Nat.zero_add] at c1 c2
    exact ⟨g, c, rfl, (h.lt g rfl).2, c1, c2⟩
def vr1 (l : List Lv) (id : Int) : List Lv := l.filter fun x => !(x.1 == id)
set_option maxHeartbeats 2000000 in
set_option maxRecDepth 100000 in
theorem je3 (l : List Lv) (hn : l.length ≤ 3000000000000) (v : Value) (base : Nat) (id : Int) (w : World) (h : LvAt w base v l) :
    Calls Tryz.prog 28 #[v, .int .i64 id] w fun e w' => ∃ v', e = .returned v' ∧ LvAt w' w.heap.size v' (vr1 l id) ∧ Below w.heap.size w w' := by
  have HC : Hid (∀ k x, l[k]? = some x → ∃ g c, v = .slice (some ⟨g, 0, none⟩) l.length c ∧ g < w.heap.size ∧ w.cell? ⟨g, k * 2, none⟩ = some (.int .i64 x.1) ∧ w.cell? ⟨g, k * 2 + 1, none⟩ = some (.string (BS x.2))) := v6 fun k x hk => h.cell hk
  obtain ⟨a, c, rfl⟩ := qc3 h
  obtain ⟨n, hnl⟩ : ∃ n, l.length = n := ⟨_, rfl⟩
  rw [hnl] at HC hn ⊢
  have HN := v6 hnl
  clear h hnl
  go_enter Tryz.func28, Tryz.ntmps28
  go_wp2_with fail
  go_loopw [5, 6] (fun o i wr => ∃ k : Nat, k ≤ n ∧ i = .int .i64 k ∧ Hid (LvAt wr w.heap.size o (vr1 (l.take k) id)) ∧ Hid (Below w.heap.size w wr)) (fun _ i _ => n - (intOf i).toNat)
  case atStart => exact ⟨0, Nat.zero_le _, rfl, v6 (LvAt.nil _ _), v6 (Below.refl _ _)⟩
  case round =>
    obtain ⟨k, hk, rfl, LA, HB⟩ := hrel
    by_cases hlt : k < n
    · obtain ⟨x, hx⟩ : ∃ x, l[k]? = some x := ⟨_, List.getElem?_eq_getElem (by have := q9 HN; omega)⟩
      obtain ⟨g, c', hv, hg, e0, e1⟩ := q9 HC k x hx
      simp at hv
      obtain ⟨rfl, rfl⟩ := hv
      have hb := q9 HB
      rw [← hb.cell (p := ⟨g, k * 2, none⟩) hg] at e0
      rw [← hb.cell (p := ⟨g, k * 2 + 1, none⟩) hg] at e1
      have hS : Hid (vr1 (l.take (k + 1)) id = vr1 (l.take k) id ++ (if x.1 = id then [] else [x])) := v6 (by
        unfold vr1
        rw [List.take_add_one, hx, List.filter_append]
        congr 1
        by_cases e : x.1 = id
        · rw [if_pos e]; simp [e]
        · rw [if_neg e]; simp [e])
      obtain ⟨oa, oc, rfl⟩ := qc3 (q9 LA)
      obtain ⟨m, hm⟩ : ∃ m, (vr1 (l.take k) id).length = m := ⟨_, rfl⟩
      have hml : m ≤ k := by
        rw [← hm]
        unfold vr1
        refine Nat.le_trans (List.length_filter_le _ _) ?_
        rw [List.length_take]
        omega
      rw [hm]
      have hz := hb.size
      have hk0 : (0 : Int) ≤ (k : Int) := by omega
      have hk1 : (k : Int) < (n : Int) := by omega
      by_cases hid : x.1 = id
      · rw [if_pos hid, List.append_nil] at hS
        have hd : (x.1 != id) = false := by simpa using hid
        have HL : Hid (LvAt wr w.heap.size (.slice oa m oc) (vr1 (l.take (k + 1)) id)) := v6 (by rw [q9 hS, ← hm]; exact q9 LA)
        clear LA hid
        go_wp2_with fail
        exact ⟨⟨k + 1, by omega, rfl, HL, HB⟩, by simp [intOf]; omega⟩
      · rw [if_neg hid] at hS
        have hd : (x.1 != id) = true := by simpa using hid
        obtain ⟨g5, cap5, w5, r5, Z5, G5, N5⟩ := LvAt.app (q9 LA) hz x (by rw [hm]; omega) 27 wr.heap.size rfl rfl
        rw [hm] at r5
        have HL : Hid (LvAt w5 w.heap.size (.slice (some ⟨g5, 0, none⟩) (m + 1) cap5) (vr1 (l.take (k + 1)) id)) := v6 (by rw [q9 hS, ← hm]; exact q9 Z5)
        have HB5 : Hid (Below w.heap.size w w5) := v6 (hb.grown (q9 G5) hb.size fun j hj => ((q9 LA).lt j hj).1)
        clear G5 N5 Z5 LA hid
        go_wp2_with fail
        exact ⟨⟨k + 1, by omega, rfl, HL, HB5⟩, by simp [intOf]; omega⟩
    · have hkn : k = n := by omega
      subst hkn
      have HZ : Hid (LvAt wr w.heap.size u5 (vr1 l id)) := v6 (by have := q9 LA; rw [← q9 HN, List.take_length] at this; exact this)
      clear LA
      go_wp2_with fail
      go_ret
      exact ⟨_, rfl, q9 HZ, q9 HB⟩
end
section
attribute [local go_sem ↓] qd6
def qf2 (l : List Lv) (x : Lv) : Nat → List Lv × Bool
  | 0 => ([], false)
  | k + 1 => match l[k]? with
    | none => qf2 l x k
    | some y => if (qf2 l x k).2 = false ∧ x.1 < y.1 then ((qf2 l x k).1 ++ [x] ++ [y], true) else ((qf2 l x k).1 ++ [y], (qf2 l x k).2)
def qt7 (l : List Lv) (x : Lv) : List Lv := if (qf2 l x l.length).2 then (qf2 l x l.length).1 else (qf2 l x l.length).1 ++ [x]
theorem ja2 (l : List Lv) (x : Lv) (k : Nat) : (qf2 l x k).1.length ≤ k + (if (qf2 l x k).2 then 1 else 0) := by
  induction k with
  | zero => simp [qf2]
  | succ k ih =>
    rw [qf2]
    cases l[k]? with
    | none => simp only; omega
    | some y =>
      simp only
      split
      · rename_i h
        rw [h.1] at ih
        simp at ih ⊢
        omega
      · simp only [List.length_append, List.length_singleton]
        omega
set_option maxHeartbeats 4000000 in
set_option maxRecDepth 100000 in
theorem with_any (l : List Lv) (hn : l.length ≤ 3000000000000) (v : Value) (base : Nat) (x : Lv) (w : World) (h : LvAt w base v l) :
    Calls Tryz.prog 29 #[v, .agg #[.int .i64 x.1, .string (BS x.2)]] w fun e w' => ∃ v', e = .returned v' ∧ LvAt w' w.heap.size v' (qt7 l x) ∧ Below w.heap.size w w' := by
  have HC : Hid (∀ k y, l[k]? = some y → ∃ g c, v = .slice (some ⟨g, 0, none⟩) l.length c ∧ g < w.heap.size ∧ w.cell? ⟨g, k * 2, none⟩ = some (.int .i64 y.1) ∧ w.cell? ⟨g, k * 2 + 1, none⟩ = some (.string (BS y.2))) := v6 fun k y hk => h.cell hk
  obtain ⟨a, c, rfl⟩ := qc3 h
  obtain ⟨n, hnl⟩ : ∃ n, l.length = n := ⟨_, rfl⟩
  have HW : Hid (qt7 l x = if (qf2 l x n).2 then (qf2 l x n).1 else (qf2 l x n).1 ++ [x]) := v6 (by unfold qt7; rw [hnl])
  rw [hnl] at HC hn ⊢
  have HN := v6 hnl
  clear h hnl
  obtain ⟨W1, hW1⟩ : ∃ W1, W1 = w.alloc (.cells #[.int .i64 x.1, .string (BS x.2)] 32) := ⟨_, rfl⟩
  have HB1 : Hid (Below w.heap.size w W1) := v6 (by rw [hW1]; exact qs6 _ _)
  have hz1 : W1.heap.size = w.heap.size + 1 := by rw [hW1]; simp
  have HX : Hid (W1.cell? ⟨w.heap.size, 0, none⟩ = some (.int .i64 x.1) ∧ W1.cell? ⟨w.heap.size, 1, none⟩ = some (.string (BS x.2))) := v6 (by rw [hW1]; simp [go_sem])
  go_enter Tryz.func29, Tryz.ntmps29
  go_wp2_with fail
  rw [← hW1]
  clear hW1
  go_loopw [5, 6, 7] (fun o d i wr => ∃ k : Nat, k ≤ n ∧ i = .int .i64 k ∧ d = .bool (qf2 l x k).2 ∧ Hid (LvAt wr W1.heap.size o (qf2 l x k).1) ∧ Hid (Below W1.heap.size W1 wr)) (fun _ _ i _ => n - (intOf i).toNat)
  case atStart => exact ⟨0, Nat.zero_le _, rfl, rfl, v6 (LvAt.nil _ _), v6 (Below.refl _ _)⟩
  case round =>
    obtain ⟨k, hk, rfl, rfl, LA, HB⟩ := hrel
    have hb := q9 HB
    have hz := hb.size
    obtain ⟨x0, x1⟩ := q9 HX
    rw [← hb.cell (p := ⟨w.heap.size, 0, none⟩) (by show w.heap.size < _; omega)] at x0
    rw [← hb.cell (p := ⟨w.heap.size, 1, none⟩) (by show w.heap.size < _; omega)] at x1
    have hwl := ja2 l x k
    have hm0 : (qf2 l x k).1.length ≤ k + 1 := by split at hwl <;> omega
    obtain ⟨oa, oc, rfl⟩ := qc3 (q9 LA)
    obtain ⟨m, hm⟩ : ∃ m, (qf2 l x k).1.length = m := ⟨_, rfl⟩
    rw [hm]
    rw [hm] at hm0
    clear hwl
    by_cases hlt : k < n
    · obtain ⟨y, hy⟩ : ∃ y, l[k]? = some y := ⟨_, List.getElem?_eq_getElem (by have := q9 HN; omega)⟩
      obtain ⟨g, c', hv, hg, e0, e1⟩ := q9 HC k y hy
      simp at hv
      obtain ⟨rfl, rfl⟩ := hv
      have hbw := v7 (q9 HB1) hb
      rw [← hbw.cell (p := ⟨g, k * 2, none⟩) hg] at e0
      rw [← hbw.cell (p := ⟨g, k * 2 + 1, none⟩) hg] at e1
      have hk0 : (0 : Int) ≤ (k : Int) := by omega
      have hk1 : (k : Int) < (n : Int) := by omega
      have LD : Hid (LvAt wr.drew W1.heap.size (.slice oa (qf2 l x k).1.length oc) (qf2 l x k).1) := v6 (v9 (q9 LA) fun _ _ => rfl)
      have hzd : wr.drew.heap.size = wr.heap.size := rfl
      have hbd : Below W1.heap.size W1 wr.drew := hb.drew
      cases hd : (qf2 l x k).2 with
      | true =>
        have hS : Hid (qf2 l x (k + 1) = ((qf2 l x k).1 ++ [y], true)) := v6 (by rw [qf2, hy]; simp only; rw [if_neg (by rw [hd]; simp), hd])
        obtain ⟨g5, cap5, w5, r5, Z5, G5, N5⟩ := LvAt.app (W' := (wr.alloc (.cells #[.int .i64 y.1, .string (BS y.2)] 32)).drew) (q9 LD) hz y (by rw [hm]; omega) 27 wr.heap.size rfl rfl
        rw [hm] at r5
        have HR : Hid (∃ k', k' ≤ n ∧ (Value.int .i64 ((k : Int) + 1)) = .int .i64 (k' : Nat) ∧ (Value.bool true) = .bool (qf2 l x k').2 ∧ Hid (LvAt w5 W1.heap.size (.slice (some ⟨g5, 0, none⟩) (m + 1) cap5) (qf2 l x k').1) ∧ Hid (Below W1.heap.size W1 w5)) := v6 ⟨k + 1, by omega, rfl, by rw [q9 hS], v6 (by rw [q9 hS, ← hm]; exact q9 Z5), v6 (hbd.grown (q9 G5) hbd.size fun j hj => ((q9 LD).lt j hj).1)⟩
        clear G5 N5 Z5 LA LD hd hS hbw hb hbd hy
        go_wp2_with fail
        go_region
        all_goals go_wp2_with fail
        all_goals exact ⟨q9 HR, by simp [intOf]; omega⟩
      | false =>
        by_cases hxy : x.1 < y.1
        · have hdx : decide (x.1 < y.1) = true := decide_eq_true hxy
          have hS : Hid (qf2 l x (k + 1) = ((qf2 l x k).1 ++ [x] ++ [y], true)) := v6 (by rw [qf2, hy]; simp only; rw [if_pos ⟨hd, hxy⟩])
          obtain ⟨g5, cap5, w5, r5, Z5, G5, N5⟩ := LvAt.app (W' := (wr.alloc (.cells #[.int .i64 x.1, .string (BS x.2)] 32)).drew) (q9 LD) hz x (by rw [hm]; omega) 27 wr.heap.size rfl rfl
          have hB5 : Below W1.heap.size W1 w5 := hbd.grown (q9 G5) hbd.size fun j hj => ((q9 LD).lt j hj).1
          have hz5 := hB5.size
          obtain ⟨g6, cap6, w6, r6, Z6, G6, N6⟩ := LvAt.app (W' := w5.alloc (.cells #[.int .i64 y.1, .string (BS y.2)] 32)) (l := (qf2 l x k).1 ++ [x]) (v := .slice (some ⟨g5, 0, none⟩) (m + 1) cap5) (by rw [← hm]; exact q9 Z5) hz5 y (by rw [List.length_append, List.length_singleton, hm]; omega) 27 w5.heap.size rfl rfl
          have hl2 : ((qf2 l x k).1 ++ [x]).length = m + 1 := by rw [List.length_append, List.length_singleton, hm]
          rw [hm] at r5
          rw [hl2] at r6 Z6
          have hbw5 := v7 (q9 HB1) hB5
          have y0 : w5.cell? ⟨g, k * 2, none⟩ = some (.int .i64 y.1) := by rw [hbw5.cell (p := ⟨g, k * 2, none⟩) hg, ← hbw.cell (p := ⟨g, k * 2, none⟩) hg]; exact e0
          have y1 : w5.cell? ⟨g, k * 2 + 1, none⟩ = some (.string (BS y.2)) := by rw [hbw5.cell (p := ⟨g, k * 2 + 1, none⟩) hg, ← hbw.cell (p := ⟨g, k * 2 + 1, none⟩) hg]; exact e1
          have HR : Hid (∃ k', k' ≤ n ∧ (Value.int .i64 ((k : Int) + 1)) = .int .i64 (k' : Nat) ∧ (Value.bool true) = .bool (qf2 l x k').2 ∧ Hid (LvAt w6 W1.heap.size (.slice (some ⟨g6, 0, none⟩) (m + 1 + 1) cap6) (qf2 l x k').1) ∧ Hid (Below W1.heap.size W1 w6)) := v6 ⟨k + 1, by omega, rfl, by rw [q9 hS], v6 (by rw [q9 hS]; exact q9 Z6), v6 (hB5.grown (q9 G6) hB5.size fun j hj => by
            have e : g5 = j := by simpa [Value.ownBlock] using hj
            have := ((q9 Z5).lt g5 rfl).1
            omega)⟩
          clear G5 N5 Z5 G6 N6 Z6 LA LD hd hS hbw hb hbd hy hB5 hbw5 hl2
          go_wp2_with fail
          go_region
          all_goals go_wp2_with fail
          all_goals exact ⟨q9 HR, by simp [intOf]; omega⟩
        · have hdx : decide (x.1 < y.1) = false := decide_eq_false hxy
          have hS : Hid (qf2 l x (k + 1) = ((qf2 l x k).1 ++ [y], false)) := v6 (by rw [qf2, hy]; simp only; rw [if_neg (fun h => hxy h.2), hd])
          obtain ⟨g5, cap5, w5, r5, Z5, G5, N5⟩ := LvAt.app (W' := (wr.alloc (.cells #[.int .i64 y.1, .string (BS y.2)] 32)).drew) (q9 LD) hz y (by rw [hm]; omega) 27 wr.heap.size rfl rfl
          rw [hm] at r5
          have HR : Hid (∃ k', k' ≤ n ∧ (Value.int .i64 ((k : Int) + 1)) = .int .i64 (k' : Nat) ∧ (Value.bool false) = .bool (qf2 l x k').2 ∧ Hid (LvAt w5 W1.heap.size (.slice (some ⟨g5, 0, none⟩) (m + 1) cap5) (qf2 l x k').1) ∧ Hid (Below W1.heap.size W1 w5)) := v6 ⟨k + 1, by omega, rfl, by rw [q9 hS], v6 (by rw [q9 hS, ← hm]; exact q9 Z5), v6 (hbd.grown (q9 G5) hbd.size fun j hj => ((q9 LD).lt j hj).1)⟩
          clear G5 N5 Z5 LA LD hd hS hbw hb hbd hy
          go_wp2_with fail
          go_region
          all_goals go_wp2_with fail
          all_goals exact ⟨q9 HR, by simp [intOf]; omega⟩
    · have hkn : k = n := by omega
      subst hkn
      have hbw := v7 (q9 HB1) hb
      cases hd : (qf2 l x k).2 with
      | true =>
        have HZ : Hid (LvAt wr w.heap.size (.slice oa m oc) (qt7 l x)) := v6 (by rw [q9 HW, hd, if_pos rfl, ← hm]; exact qa9 (q9 LA) (by omega))
        have HBw := v6 hbw
        clear LA hd hb hbw
        go_wp2_with fail
        go_ret
        exact ⟨_, rfl, q9 HZ, q9 HBw⟩
      | false =>
        obtain ⟨g5, cap5, w5, r5, Z5, G5, N5⟩ := LvAt.app (q9 LA) hz x (by rw [hm]; omega) 27 wr.heap.size rfl rfl
        rw [hm] at r5
        have HZ : Hid (LvAt w5 w.heap.size (.slice (some ⟨g5, 0, none⟩) (m + 1) cap5) (qt7 l x)) := v6 (by rw [q9 HW, hd, if_neg (by simp), ← hm]; exact qa9 (q9 Z5) (by omega))
        have HBw : Hid (Below w.heap.size w w5) := v6 (hbw.grown (q9 G5) hbw.size fun j hj => by have := ((q9 LA).lt j hj).1; omega)
        clear G5 N5 Z5 LA hd hb hbw
        go_wp2_with fail
        go_ret
        exact ⟨_, rfl, q9 HZ, q9 HBw⟩
end
section
attribute [local go_sem ↓] qd6
structure Sc where
  id : Int
  text : List UInt8
  fin : Bool
  ps : List Pr
  ev : Value
structure ScOk (w : World) (x : Sc) : Prop where
  text : x.text.length ≤ 140737488355328
  id : Rng x.id
  ev : EvIn w x.ev x.ps
  good : EvGood x.ps
theorem ScOk.form {w : World} {x : Sc} (h : ScOk w x) : ∃ a c, x.ev = .slice a x.ps.length c := by
  rcases h.ev with ⟨h1, a, c, h2⟩ | ⟨b, off, cap, h1, _⟩
  · rw [h1]; exact ⟨a, c, h2⟩
  · exact ⟨_, cap, h1⟩
def ScrAt (w : World) (v : Value) (l : List Sc) : Prop := ∃ a cap, v = .slice a l.length cap ∧ l.length ≤ 2600000000000 ∧ ∀ (i : Nat) (x : Sc), l[i]? = some x → ScOk w x ∧ ∃ b off, a = some ⟨b, off, none⟩ ∧ b < w.heap.size ∧ w.cell? ⟨b, off + i * 4, none⟩ = some (.int .i64 x.id) ∧ w.cell? ⟨b, off + i * 4 + 1, none⟩ = some (.string (BS x.text)) ∧ w.cell? ⟨b, off + i * 4 + 2, none⟩ = some (.bool x.fin) ∧ w.cell? ⟨b, off + i * 4 + 3, none⟩ = some x.ev
def qm1 (st : List Su × Int × List Lv) (x : Sc) : List Su × List Lv :=
  if x.fin = true then ((qe4 st.1 x.id).1, if (qe4 st.1 x.id).2 = 0 then vr1 st.2.2 x.id else st.2.2)
  else ((qc6 st.1 x.id x.text).1, if (qc6 st.1 x.id x.text).2.1 = 0 then qt7 st.2.2 (x.id, x.text) else st.2.2)
def qv5 (st : List Su × Int × List Lv) (x : Sc) : List Su × Int × List Lv :=
  if 0 < x.ps.length then ((qy7 (qm1 st x).1 st.2.1 (jt9 x.id 10) x.ps).1.1, (qy7 (qm1 st x).1 st.2.1 (jt9 x.id 10) x.ps).2.1, (qm1 st x).2) else ((qm1 st x).1, st.2.1, (qm1 st x).2)
def doK (l : List Sc) (st : List Su × Int × List Lv) (k : Nat) : List Su × Int × List Lv := (l.take k).foldl qv5 st
def doR (l : List Sc) (st : List Su × Int × List Lv) : List Su × Int × List Lv := l.foldl qv5 st
theorem jq9 (l : List Sc) (st : List Su × Int × List Lv) (k : Nat) (x : Sc) (h : l[k]? = some x) : doK l st (k + 1) = qv5 (doK l st k) x := by
  unfold doK
  rw [List.take_add_one, h, List.foldl_append]
  rfl
theorem Grow.mono {F F' : Nat → Prop} {w w' : World} (h : Grow F w w') (hF : ∀ k, F k → F' k) : Grow F' w w' := ⟨h.os, h.tape, h.output, h.size, fun k h1 h2 => h.block k h1 fun e => h2 (hF k e)⟩
def DoAt (w0 w : World) (F : Nat → Prop) (W : World) (bb : Nat) (last : Int) (L : List Su) (v : Value) (bk : List Lv) (bx : Nat) (ob : Option Obj) : Prop := ∃ F', HasB w0 F' W bb last L ∧ (∀ k, F' k → upF F w W k) ∧ Grow F w W ∧ LvAt W w.heap.size v bk ∧ (∀ k, v.ownBlock = some k → ¬ F' k) ∧ ∀ o, ob = some o → W.heap[bx]? = some o ∧ ¬ F' bx ∧ v.ownBlock ≠ some bx
theorem DoAt.op {w0 w : World} {F F' F'' : Nat → Prop} {W W' : World} {bb : Nat} {last last' : Int} {L L' : List Su} {v : Value} {bk : List Lv} {bx : Nat} {ob : Option Obj} (h : HasB w0 F' W bb last L) (h1 : ∀ k, F' k → upF F w W k) (h2 : Grow F w W) (h3 : LvAt W w.heap.size v bk) (h4 : ∀ k, v.ownBlock = some k → ¬ F' k) (h5 : ∀ o, ob = some o → W.heap[bx]? = some o ∧ ¬ F' bx ∧ v.ownBlock ≠ some bx) (hg : Grow F' W W') (hF : ∀ k, F'' k → upF F' W W' k) (hb : Br W' F'' bb last' L') (hgd : qs0 L') : DoAt w0 w F W' bb last' L' v bk bx ob := by
  have hz := h2.size
  have hz' := hg.size
  refine ⟨F'', h.op hg hF hb hgd, fun k hk => ?_, h2.trans (hg.mono h1), v9 h3 fun k hk => hg.block k (h3.lt k hk).2 (h4 k hk), fun k hk e => ?_, fun o ho => ?_⟩
  · rcases hF k hk with e | e
    · rcases h1 k e with e' | e'
      · exact .inl e'
      · exact .inr ⟨e'.1, by omega⟩
    · exact .inr ⟨by omega, e.2⟩
  · rcases hF k e with e | e
    · exact h4 k hk e
    · have := (h3.lt k hk).2; omega
  · obtain ⟨a1, a2, a3⟩ := h5 o ho
    have hlt := (Array.getElem?_eq_some_iff.1 a1).1
    refine ⟨(hg.block bx hlt a2).trans a1, fun e => ?_, a3⟩
    rcases hF bx e with e | e
    · exact a2 e
    · omega
theorem DoAt.keep {w0 w : World} {F : Nat → Prop} {W W' : World} {bb : Nat} {last : Int} {L : List Su} {v : Value} {bk : List Lv} {bx : Nat} {ob : Option Obj} (h : DoAt w0 w F W bb last L v bk bx ob) (hb : Below W.heap.size W W') : DoAt w0 w F W' bb last L v bk bx ob := by
  obtain ⟨F', h0, h1, h2, h3, h4, h5⟩ := h
  exact DoAt.op h0 h1 h2 h3 h4 h5 (Grow.of_below hb) (fun k hk => .inl hk) (h0.br.below hb) h0.good
theorem DoAt.row {w0 w : World} {F : Nat → Prop} {W W' : World} {bb : Nat} {last : Int} {L : List Su} {v v' : Value} {bk bk' : List Lv} {bx : Nat} {ob : Option Obj} (h : DoAt w0 w F W bb last L v bk bx ob) (hb : Below W.heap.size W W') (hr : LvAt W' W.heap.size v' bk') : DoAt w0 w F W' bb last L v' bk' bx ob := by
  obtain ⟨F', h0, h1, h2, h3, h4, h5⟩ := h
  have hz := h2.size
  have hz' := hb.size
  refine ⟨F', h0.keep hb, fun k hk => ?_, h2.trans (Grow.of_below hb), qa9 hr hz, fun k hk e => ?_, fun o ho => ?_⟩
  · rcases h1 k hk with e | e
    · exact .inl e
    · exact .inr ⟨e.1, by omega⟩
  · have := (hr.lt k hk).1
    have := h0.br.1 k e
    omega
  · obtain ⟨a1, a2, _⟩ := h5 o ho
    have hlt := (Array.getElem?_eq_some_iff.1 a1).1
    exact ⟨(hb.block bx hlt).trans a1, a2, fun e => by have := (hr.lt bx e).1; omega⟩
theorem DoAt.boxed {w0 w : World} {F : Nat → Prop} {W : World} {bb : Nat} {last : Int} {L : List Su} {v : Value} {bk : List Lv} {bx : Nat} {ob : Option Obj} (h : DoAt w0 w F W bb last L v bk bx ob) (o : Obj) : DoAt w0 w F (W.alloc o) bb last L v bk W.heap.size (some o) := by
  obtain ⟨F', h0, h1, h2, h3, h4, h5⟩ := h.keep (qs6 W o)
  obtain ⟨G, g0, g1, g2, g3, g4, g5⟩ := h
  have hz := g2.size
  refine ⟨G, g0.keep (qs6 W o), fun k hk => ?_, h2, h3, g4, fun o' ho => ?_⟩
  · rcases g1 k hk with e | e
    · exact .inl e
    · exact .inr ⟨e.1, by simp; omega⟩
  · obtain rfl := Option.some.inj ho
    exact ⟨heap_alloc_new W o, fun e => by have := g0.br.1 _ e; omega, fun e => by have := (g3.lt _ e).2; omega⟩
theorem DoAt.drop {w0 w : World} {F : Nat → Prop} {W : World} {bb : Nat} {last : Int} {L : List Su} {v : Value} {bk : List Lv} {bx : Nat} {ob : Option Obj} (h : DoAt w0 w F W bb last L v bk bx ob) : DoAt w0 w F W bb last L v bk 0 none := by
  obtain ⟨F', h0, h1, h2, h3, h4, _⟩ := h
  exact ⟨F', h0, h1, h2, h3, h4, fun o ho => by cases ho⟩
theorem DoAt.cells {w0 w : World} {F : Nat → Prop} {W : World} {bb : Nat} {last : Int} {L : List Su} {v : Value} {bk : List Lv} {bx : Nat} {a b c d : Value} {ty : TypeId} (h : DoAt w0 w F W bb last L v bk bx (some (.cells #[a, b, c, d] ty (0, 0)))) : W.cell? ⟨bx, 0, none⟩ = some a ∧ W.cell? ⟨bx, 1, none⟩ = some b ∧ W.cell? ⟨bx, 2, none⟩ = some c ∧ W.cell? ⟨bx, 3, none⟩ = some d := by
  obtain ⟨F', _, _, _, _, _, h5⟩ := h
  have := (h5 _ rfl).1
  simp [World.cell?, this]
section
variable {w0 w : World} {F : Nat → Prop} {W : World} {bb : Nat} {last : Int} {L : List Su} {v : Value} {bk : List Lv} {bx : Nat} {ob : Option Obj}
theorem vc5 (h : DoAt w0 w F W bb last L v bk bx ob) (id : Int) : Calls Tryz.prog 19 #[.pointer (some ⟨bb, 0, none⟩), .int .i64 id] W fun e W' => e = .returned (.int .i64 (qe4 L id).2) ∧ DoAt w0 w F W' bb last (qe4 L id).1 v bk bx ob := by
  obtain ⟨F', h0, h1, h2, h3, h4, h5⟩ := h
  exact unsub_any W F' bb last L h0.br h0.good id _ fun w' q1 q2 q3 => ⟨rfl, DoAt.op h0 h1 h2 h3 h4 h5 q3 (fun _ hk => hk) q1 q2⟩
theorem jb0 (h : DoAt w0 w F W bb last L v bk bx ob) (hL : LibOk w0) (id : Int) (s : List UInt8) (hs : s.length ≤ 140737488355328) : Calls Tryz.prog 12 #[.pointer (some ⟨bb, 0, none⟩), .int .i64 id, .string (BS s)] W fun e W' => e = .returned (.tuple #[.int .i64 (qc6 L id s).2.1, .int .i64 (qc6 L id s).2.2]) ∧ DoAt w0 w F W' bb last (qc6 L id s).1 v bk bx ob := by
  obtain ⟨F', h0, h1, h2, h3, h4, h5⟩ := h
  exact sub_any W F' bb last L h0.br h0.good id s hs (hL.below h0.below (Nat.le_refl _)) _ fun w' q1 q2 q3 => ⟨rfl, DoAt.op h0 h1 h2 h3 h4 h5 q3 (fun _ hk => hk) q1 q2⟩
theorem do_pub (h : DoAt w0 w F W bb last L v bk bx ob) (pri : Int) (hl : 0 ≤ last ∧ last < 4611686018427387904) {ps : List Pr} {ev : Value} (he : EvIn w0 ev ps) (hg : EvGood ps) : Calls Tryz.prog 15 #[.pointer (some ⟨bb, 0, none⟩), .int .i64 pri, ev] W fun e W' => ∃ a1 n1 c1 a2 n2 c2, e = .returned (.tuple #[.slice a1 n1 c1, .slice a2 n2 c2, .int .i64 (qy7 L last pri ps).2.2]) ∧ DoAt w0 w F W' bb (qy7 L last pri ps).2.1 (qy7 L last pri ps).1.1 v bk bx ob := by
  obtain ⟨F', h0, h1, h2, h3, h4, h5⟩ := h
  refine pub_any W F' bb last L h0.br pri hl ps ev (h0.event he) hg _ fun w' mv fv q1 q2 q3 q4 => ?_
  obtain ⟨a1, c1, rfl⟩ := q3.form
  obtain ⟨a2, c2, rfl⟩ := q4.form
  exact ⟨a1, _, c1, a2, _, c2, rfl, DoAt.op h0 h1 h2 h3 h4 h5 q2 (fun _ hk => hk.1) q1 (jc5 h0.good)⟩
theorem vq9 (h : DoAt w0 w F W bb last L v bk bx ob) (hn : bk.length ≤ 3000000000000) (id : Int) : Calls Tryz.prog 28 #[v, .int .i64 id] W fun e W' => ∃ a c, e = .returned (.slice a (vr1 bk id).length c) ∧ DoAt w0 w F W' bb last L (.slice a (vr1 bk id).length c) (vr1 bk id) bx ob := by
  have hd := h
  obtain ⟨F', h0, h1, h2, h3, h4, h5⟩ := h
  refine (je3 bk hn v _ id W h3).mono ?_
  rintro e W' ⟨v', rfl, q1, q2⟩
  obtain ⟨a, c, rfl⟩ := qc3 q1
  exact ⟨a, c, rfl, hd.row q2 q1⟩
theorem do_with (h : DoAt w0 w F W bb last L v bk bx ob) (hn : bk.length ≤ 3000000000000) (x : Lv) : Calls Tryz.prog 29 #[v, .agg #[.int .i64 x.1, .string (BS x.2)]] W fun e W' => ∃ a c, e = .returned (.slice a (qt7 bk x).length c) ∧ DoAt w0 w F W' bb last L (.slice a (qt7 bk x).length c) (qt7 bk x) bx ob := by
  have hd := h
  obtain ⟨F', h0, h1, h2, h3, h4, h5⟩ := h
  refine (with_any bk hn v _ x W h3).mono ?_
  rintro e W' ⟨v', rfl, q1, q2⟩
  obtain ⟨a, c, rfl⟩ := qc3 q1
  exact ⟨a, c, rfl, hd.row q2 q1⟩
end
theorem withB_len (l : List Lv) (x : Lv) : (qt7 l x).length ≤ l.length + 1 := by
  have := ja2 l x l.length
  unfold qt7
  split
  · rename_i h; rw [h] at this; simp at this; exact this
  · rename_i h; simp [h] at this ⊢; omega
theorem jz8 (st : List Su × Int × List Lv) (x : Sc) : (qv5 st x).2.2.length ≤ st.2.2.length + 1 ∧ (0 ≤ st.2.1 → 0 ≤ (qv5 st x).2.1 ∧ (qv5 st x).2.1 ≤ st.2.1 + 1) := by
  have h1 : (qm1 st x).2.length ≤ st.2.2.length + 1 := by
    unfold qm1
    split
    · simp only
      split
      · exact Nat.le_trans (List.length_filter_le _ _) (Nat.le_succ _)
      · exact Nat.le_succ _
    · simp only
      split
      · exact withB_len _ _
      · exact Nat.le_succ _
  unfold qv5
  split
  · refine ⟨h1, fun h0 => ?_⟩
    simp only
    unfold qy7
    split
    · simp only; omega
    · simp only; omega
  · exact ⟨h1, fun h0 => by simp only; omega⟩
theorem doK_len (l : List Sc) (st : List Su × Int × List Lv) (h0 : 0 ≤ st.2.1) (k : Nat) : (doK l st k).2.2.length ≤ st.2.2.length + k ∧ 0 ≤ (doK l st k).2.1 ∧ (doK l st k).2.1 ≤ st.2.1 + k := by
  induction k with
  | zero => simp [doK]; exact h0
  | succ k ih =>
    cases hx : l[k]? with
    | none =>
      have e : doK l st (k + 1) = doK l st k := by unfold doK; rw [List.take_add_one, hx]; simp
      rw [e]
      omega
    | some x =>
      rw [jq9 l st k x hx]
      have h1 := jz8 (doK l st k) x
      have h2 := h1.2 ih.2.1
      omega
set_option maxHeartbeats 8000000 in
set_option maxRecDepth 100000 in
theorem does_any (w0 w : World) (F : Nat → Prop) (bb : Nat) (last : Int) (L : List Su) (h : HasB w0 F w bb last L) (hL : LibOk w0) (hl : 0 ≤ last ∧ last ≤ 1000000000000000) (l : List Sc) (sv : Value) (hs : ScrAt w0 sv l) :
    Calls Tryz.prog 11 #[.pointer (some ⟨bb, 0, none⟩), sv] w fun e w' => ∃ a c, e = .returned (.slice a (doR l (L, last, [])).2.2.length c) ∧ DoAt w0 w F w' bb (doR l (L, last, [])).2.1 (doR l (L, last, [])).1 (.slice a (doR l (L, last, [])).2.2.length c) (doR l (L, last, [])).2.2 0 none := by
  obtain ⟨a, cap, rfl, hbig, hx⟩ := hs
  have HX := v6 hx
  obtain ⟨n, hn⟩ : ∃ n, l.length = n := ⟨_, rfl⟩
  have HR : Hid (doR l (L, last, []) = doK l (L, last, []) n) := v6 (by unfold doR doK; rw [← hn, List.take_length])
  have HLEN : Hid (∀ k, (doK l (L, last, []) k).2.2.length ≤ k ∧ 0 ≤ (doK l (L, last, []) k).2.1 ∧ (doK l (L, last, []) k).2.1 ≤ last + k) := v6 fun k => by
    have := doK_len l (L, last, []) hl.1 k
    simpa using this
  rw [hn] at hbig ⊢
  have HN := v6 hn
  have S0 : Hid (DoAt w0 w F w bb last L (.slice none 0 0) [] 0 none) := v6 ⟨F, h, fun k hk => .inl hk, Grow.of_below (Below.refl _ _), LvAt.nil _ _, fun k hk => by simp [Value.ownBlock] at hk, fun o ho => by cases ho⟩
  have HL := v6 hL
  clear hx hn hL h
  rw [q9 HR]
  go_enter Tryz.func11, Tryz.ntmps11
  go_wp2_with fail
  go_loopw [5, 6] (fun v i wr => ∃ k : Nat, k ≤ n ∧ i = .int .i64 k ∧ Hid (DoAt w0 w F wr bb (doK l (L, last, []) k).2.1 (doK l (L, last, []) k).1 v (doK l (L, last, []) k).2.2 0 none)) (fun _ i _ => n - (intOf i).toNat)
  case atStart => exact ⟨0, Nat.zero_le _, rfl, S0⟩
  case round =>
    obtain ⟨k, hk, rfl, DA⟩ := hrel
    by_cases hlt : k < n
    · obtain ⟨⟨id, text, fin, ps, ev⟩, hx⟩ : ∃ x, l[k]? = some x := ⟨_, List.getElem?_eq_getElem (by have := q9 HN; omega)⟩
      obtain ⟨ok, b, off, rfl, hb, c0, c1, c2, c3⟩ := q9 HX k _ hx
      obtain ⟨ea, ec, hev⟩ := ok.form
      simp only at hev c0 c1 c2 c3
      subst hev
      have hst : doK l (L, last, []) (k + 1) = qv5 (doK l (L, last, []) k) ⟨id, text, fin, ps, .slice ea ps.length ec⟩ := jq9 l _ k _ hx
      obtain ⟨hbl, hl0, hl1⟩ := q9 HLEN k
      obtain ⟨⟨L1, last1, bk1⟩, hst0⟩ : ∃ st, doK l (L, last, []) k = st := ⟨_, rfl⟩
      rw [hst0] at DA hst hbl hl0 hl1
      simp only at DA hbl hl0 hl1
      clear hst0
      have hbw : Below w0.heap.size w0 wr := by
        obtain ⟨F', h0, _⟩ := q9 DA
        exact h0.below
      rw [← hbw.cell (p := ⟨b, off + k * 4, none⟩) hb] at c0
      rw [← hbw.cell (p := ⟨b, off + k * 4 + 1, none⟩) hb] at c1
      rw [← hbw.cell (p := ⟨b, off + k * 4 + 2, none⟩) hb] at c2
      rw [← hbw.cell (p := ⟨b, off + k * 4 + 3, none⟩) hb] at c3
      obtain ⟨np, hnp⟩ : ∃ np, ps.length = np := ⟨_, rfl⟩
      have OK := v6 ok
      rw [hnp] at c3
      obtain ⟨va, vc, e5⟩ : ∃ a c, u5 = .slice a bk1.length c := by
        obtain ⟨_, _, _, _, h3, _⟩ := q9 DA
        exact qc3 h3
      subst e5
      obtain ⟨nb, hnb⟩ : ∃ nb, bk1.length = nb := ⟨_, rfl⟩
      have hnb3 : bk1.length ≤ 3000000000000 := by omega
      have DA1 := v6 ((q9 DA).boxed (.cells #[.int .i64 id, .string (BS text), .bool fin, .slice ea np ec] 69))
      rw [hnb] at DA1 ⊢
      have hk0 : (0 : Int) ≤ (k : Int) := by omega
      have hk1 : (k : Int) < (n : Int) := by omega
      have hlast : 0 ≤ last1 ∧ last1 < 4611686018427387904 := ⟨hl0, by omega⟩
      have PK : Hid (∀ U, Calls Tryz.prog 21 #[.int .i64 id, .int .i64 10] U fun e w' => e = .returned (.int .i64 (jt9 id 10)) ∧ w' = U) := v6 fun U => pick_any id 10 ok.id (by decide) U
      obtain ⟨pz, hpz⟩ : ∃ pz, jt9 id 10 = pz := ⟨_, rfl⟩
      rw [hpz] at PK
      have PB : Hid (∀ U L2 v2 bk2 bx ob, DoAt w0 w F U bb last1 L2 v2 bk2 bx ob → Calls Tryz.prog 15 #[.pointer (some ⟨bb, 0, none⟩), .int .i64 pz, .slice ea np ec] U fun e W' => ∃ a1 n1 c1 a2 n2 c2, e = .returned (.tuple #[.slice a1 n1 c1, .slice a2 n2 c2, .int .i64 (qy7 L2 last1 pz ps).2.2]) ∧ Hid (DoAt w0 w F W' bb (qy7 L2 last1 pz ps).2.1 (qy7 L2 last1 pz ps).1.1 v2 bk2 bx ob)) := v6 (by
        intro U L2 v2 bk2 bx ob hU
        have := do_pub hU pz hlast ok.ev ok.good
        simp only at this
        rw [hnp] at this
        refine this.mono ?_
        rintro e W' ⟨a1, n1, c1, a2, n2, c2, rfl, h⟩
        exact ⟨a1, n1, c1, a2, n2, c2, rfl, v6 h⟩)
      have hstep : Hid (∀ L2 bk2, qm1 (L1, last1, bk1) ⟨id, text, fin, ps, .slice ea ps.length ec⟩ = (L2, bk2) → doK l (L, last, []) (k + 1) = if 0 < np then ((qy7 L2 last1 pz ps).1.1, (qy7 L2 last1 pz ps).2.1, bk2) else (L2, last1, bk2)) := v6 (by
        intro L2 bk2 h2
        rw [hst]
        unfold qv5
        rw [h2]
        simp only [hnp, hpz])
      clear DA hx hst hbl hl0 hl1 hnp hpz ok
      cases fin with
      | true =>
        by_cases hp : 0 < np
        · by_cases he : (qe4 L1 id).2 = 0
          · have UN : Hid (Calls Tryz.prog 19 #[.pointer (some ⟨bb, 0, none⟩), .int .i64 id] (wr.alloc (.cells #[.int .i64 id, .string (BS text), .bool true, .slice ea np ec] 69)) fun e W' => e = .returned (.int .i64 (qe4 L1 id).2) ∧ Hid (DoAt w0 w F W' bb last1 (qe4 L1 id).1 (.slice va nb vc) bk1 wr.heap.size (some (.cells #[.int .i64 id, .string (BS text), .bool true, .slice ea np ec] 69 (0, 0))))) := v6 ((vc5 (q9 DA1) id).mono (by rintro e W' ⟨rfl, h⟩; exact ⟨rfl, v6 h⟩))
            obtain ⟨L2, hL2⟩ : ∃ L2, (qe4 L1 id).1 = L2 := ⟨_, rfl⟩
            obtain ⟨ue, hue⟩ : ∃ ue, (qe4 L1 id).2 = ue := ⟨_, rfl⟩
            rw [hL2, hue] at UN
            rw [hue] at he
            have H1 : Hid (qm1 (L1, last1, bk1) ⟨id, text, true, ps, .slice ea ps.length ec⟩ = (L2, vr1 bk1 id)) := v6 (by unfold qm1; simp only [hL2, hue, he]; simp)
            subst he
            have WO : Hid (∀ U, DoAt w0 w F U bb last1 L2 (.slice va nb vc) bk1 wr.heap.size (some (.cells #[.int .i64 id, .string (BS text), .bool true, .slice ea np ec] 69 (0, 0))) → Calls Tryz.prog 28 #[.slice va nb vc, .int .i64 id] U fun e W' => ∃ a n2 c, e = .returned (.slice a n2 c) ∧ Hid (DoAt w0 w F W' bb last1 L2 (.slice a n2 c) (vr1 bk1 id) wr.heap.size (some (.cells #[.int .i64 id, .string (BS text), .bool true, .slice ea np ec] 69 (0, 0))))) := v6 fun U hU => (vq9 hU hnb3 id).mono (by rintro e W' ⟨a, c, rfl, h⟩; exact ⟨a, _, c, rfl, v6 h⟩)
            have H2 : Hid (doK l (L, last, []) (k + 1) = ((qy7 L2 last1 pz ps).1.1, (qy7 L2 last1 pz ps).2.1, vr1 bk1 id)) := v6 (by rw [q9 hstep _ _ (q9 H1), if_pos hp])
            have hdp : decide ((np : Int) > 0) = true := decide_eq_true (by omega)
            have hdp' : decide (0 < (np : Int)) = true := decide_eq_true (by omega)
            clear hstep H1 DA1 HX HLEN HR HL OK hL2 hue S0
            go_wp2_with (first | (go_at_call 19; refine (q9 UN).mono ?_; rintro e w2 ⟨rfl, S2⟩; obtain ⟨b0, b1, b2, b3⟩ := (q9 S2).cells) | (go_at_call 28; refine (q9 WO _ (q9 S2)).mono ?_; rintro e w3 ⟨a3, n3, c3', rfl, S3⟩; obtain ⟨d0, d1, d2, d3⟩ := (q9 S3).cells))
            go_region_with (first | (go_at_call 21; refine (q9 PK _).mono ?_; rintro e w4 ⟨rfl, rfl⟩) | (go_at_call 15; refine (q9 PB _ _ _ _ _ _ ((q9 S3).keep (by repeat (first | exact Below.refl _ _ | apply Below.drew)))).mono ?_; rintro e w5 ⟨a5, n5, c5, a6, n6, c6, rfl, S5⟩))
            all_goals go_wp2_with fail
            all_goals exact ⟨⟨k + 1, by omega, rfl, by rw [q9 H2]; exact v6 (q9 S5).drop⟩, by simp [intOf]; omega⟩
          · have UN : Hid (Calls Tryz.prog 19 #[.pointer (some ⟨bb, 0, none⟩), .int .i64 id] (wr.alloc (.cells #[.int .i64 id, .string (BS text), .bool true, .slice ea np ec] 69)) fun e W' => e = .returned (.int .i64 (qe4 L1 id).2) ∧ Hid (DoAt w0 w F W' bb last1 (qe4 L1 id).1 (.slice va nb vc) bk1 wr.heap.size (some (.cells #[.int .i64 id, .string (BS text), .bool true, .slice ea np ec] 69 (0, 0))))) := v6 ((vc5 (q9 DA1) id).mono (by rintro e W' ⟨rfl, h⟩; exact ⟨rfl, v6 h⟩))
            obtain ⟨L2, hL2⟩ : ∃ L2, (qe4 L1 id).1 = L2 := ⟨_, rfl⟩
            obtain ⟨ue, hue⟩ : ∃ ue, (qe4 L1 id).2 = ue := ⟨_, rfl⟩
            rw [hL2, hue] at UN
            rw [hue] at he
            have H1 : Hid (qm1 (L1, last1, bk1) ⟨id, text, true, ps, .slice ea ps.length ec⟩ = (L2, bk1)) := v6 (by unfold qm1; simp only [hL2, hue, he]; simp)
            have hde : decide (ue = 0) = false := decide_eq_false he
            have H2 : Hid (doK l (L, last, []) (k + 1) = ((qy7 L2 last1 pz ps).1.1, (qy7 L2 last1 pz ps).2.1, bk1)) := v6 (by rw [q9 hstep _ _ (q9 H1), if_pos hp])
            have hdp : decide ((np : Int) > 0) = true := decide_eq_true (by omega)
            have hdp' : decide (0 < (np : Int)) = true := decide_eq_true (by omega)
            clear hstep H1 DA1 HX HLEN HR HL OK hL2 hue S0
            go_wp2_with (first | (go_at_call 19; refine (q9 UN).mono ?_; rintro e w2 ⟨rfl, S2⟩; obtain ⟨b0, b1, b2, b3⟩ := (q9 S2).cells))
            go_region_with (first | (go_at_call 21; refine (q9 PK _).mono ?_; rintro e w4 ⟨rfl, rfl⟩) | (go_at_call 15; refine (q9 PB _ _ _ _ _ _ ((q9 S2).keep (by repeat (first | exact Below.refl _ _ | apply Below.drew)))).mono ?_; rintro e w5 ⟨a5, n5, c5, a6, n6, c6, rfl, S5⟩))
            all_goals go_wp2_with fail
            all_goals exact ⟨⟨k + 1, by omega, rfl, by rw [q9 H2]; exact v6 (q9 S5).drop⟩, by simp [intOf]; omega⟩
        · by_cases he : (qe4 L1 id).2 = 0
          · have UN : Hid (Calls Tryz.prog 19 #[.pointer (some ⟨bb, 0, none⟩), .int .i64 id] (wr.alloc (.cells #[.int .i64 id, .string (BS text), .bool true, .slice ea np ec] 69)) fun e W' => e = .returned (.int .i64 (qe4 L1 id).2) ∧ Hid (DoAt w0 w F W' bb last1 (qe4 L1 id).1 (.slice va nb vc) bk1 wr.heap.size (some (.cells #[.int .i64 id, .string (BS text), .bool true, .slice ea np ec] 69 (0, 0))))) := v6 ((vc5 (q9 DA1) id).mono (by rintro e W' ⟨rfl, h⟩; exact ⟨rfl, v6 h⟩))
            obtain ⟨L2, hL2⟩ : ∃ L2, (qe4 L1 id).1 = L2 := ⟨_, rfl⟩
            obtain ⟨ue, hue⟩ : ∃ ue, (qe4 L1 id).2 = ue := ⟨_, rfl⟩
            rw [hL2, hue] at UN
            rw [hue] at he
            have H1 : Hid (qm1 (L1, last1, bk1) ⟨id, text, true, ps, .slice ea ps.length ec⟩ = (L2, vr1 bk1 id)) := v6 (by unfold qm1; simp only [hL2, hue, he]; simp)
            subst he
            have WO : Hid (∀ U, DoAt w0 w F U bb last1 L2 (.slice va nb vc) bk1 wr.heap.size (some (.cells #[.int .i64 id, .string (BS text), .bool true, .slice ea np ec] 69 (0, 0))) → Calls Tryz.prog 28 #[.slice va nb vc, .int .i64 id] U fun e W' => ∃ a n2 c, e = .returned (.slice a n2 c) ∧ Hid (DoAt w0 w F W' bb last1 L2 (.slice a n2 c) (vr1 bk1 id) wr.heap.size (some (.cells #[.int .i64 id, .string (BS text), .bool true, .slice ea np ec] 69 (0, 0))))) := v6 fun U hU => (vq9 hU hnb3 id).mono (by rintro e W' ⟨a, c, rfl, h⟩; exact ⟨a, _, c, rfl, v6 h⟩)
            have H2 : Hid (doK l (L, last, []) (k + 1) = (L2, last1, vr1 bk1 id)) := v6 (by rw [q9 hstep _ _ (q9 H1), if_neg hp])
            obtain rfl : np = 0 := by omega
            clear hstep H1 DA1 HX HLEN HR HL OK hL2 hue S0
            go_wp2_with (first | (go_at_call 19; refine (q9 UN).mono ?_; rintro e w2 ⟨rfl, S2⟩; obtain ⟨b0, b1, b2, b3⟩ := (q9 S2).cells) | (go_at_call 28; refine (q9 WO _ (q9 S2)).mono ?_; rintro e w3 ⟨a3, n3, c3', rfl, S3⟩; obtain ⟨d0, d1, d2, d3⟩ := (q9 S3).cells))
            exact ⟨⟨k + 1, by omega, rfl, by rw [q9 H2]; exact v6 (q9 S3).drop⟩, by simp [intOf]; omega⟩
          · have UN : Hid (Calls Tryz.prog 19 #[.pointer (some ⟨bb, 0, none⟩), .int .i64 id] (wr.alloc (.cells #[.int .i64 id, .string (BS text), .bool true, .slice ea np ec] 69)) fun e W' => e = .returned (.int .i64 (qe4 L1 id).2) ∧ Hid (DoAt w0 w F W' bb last1 (qe4 L1 id).1 (.slice va nb vc) bk1 wr.heap.size (some (.cells #[.int .i64 id, .string (BS text), .bool true, .slice ea np ec] 69 (0, 0))))) := v6 ((vc5 (q9 DA1) id).mono (by rintro e W' ⟨rfl, h⟩; exact ⟨rfl, v6 h⟩))
            obtain ⟨L2, hL2⟩ : ∃ L2, (qe4 L1 id).1 = L2 := ⟨_, rfl⟩
            obtain ⟨ue, hue⟩ : ∃ ue, (qe4 L1 id).2 = ue := ⟨_, rfl⟩
            rw [hL2, hue] at UN
            rw [hue] at he
            have H1 : Hid (qm1 (L1, last1, bk1) ⟨id, text, true, ps, .slice ea ps.length ec⟩ = (L2, bk1)) := v6 (by unfold qm1; simp only [hL2, hue, he]; simp)
            have hde : decide (ue = 0) = false := decide_eq_false he
            have H2 : Hid (doK l (L, last, []) (k + 1) = (L2, last1, bk1)) := v6 (by rw [q9 hstep _ _ (q9 H1), if_neg hp])
            obtain rfl : np = 0 := by omega
            clear hstep H1 DA1 HX HLEN HR HL OK hL2 hue S0
            go_wp2_with (first | (go_at_call 19; refine (q9 UN).mono ?_; rintro e w2 ⟨rfl, S2⟩; obtain ⟨b0, b1, b2, b3⟩ := (q9 S2).cells))
            exact ⟨⟨k + 1, by omega, rfl, by rw [q9 H2]; exact v6 (q9 S2).drop⟩, by simp [intOf]; omega⟩
      | false =>
        by_cases hp : 0 < np
        · by_cases he : (qc6 L1 id text).2.1 = 0
          · have SU : Hid (Calls Tryz.prog 12 #[.pointer (some ⟨bb, 0, none⟩), .int .i64 id, .string (BS text)] (wr.alloc (.cells #[.int .i64 id, .string (BS text), .bool false, .slice ea np ec] 69)) fun e W' => e = .returned (.tuple #[.int .i64 (qc6 L1 id text).2.1, .int .i64 (qc6 L1 id text).2.2]) ∧ Hid (DoAt w0 w F W' bb last1 (qc6 L1 id text).1 (.slice va nb vc) bk1 wr.heap.size (some (.cells #[.int .i64 id, .string (BS text), .bool false, .slice ea np ec] 69 (0, 0))))) := v6 ((jb0 (q9 DA1) (q9 HL) id text (q9 OK).text).mono (by rintro e W' ⟨rfl, h⟩; exact ⟨rfl, v6 h⟩))
            obtain ⟨L2, hL2⟩ : ∃ L2, (qc6 L1 id text).1 = L2 := ⟨_, rfl⟩
            obtain ⟨ue, hue⟩ : ∃ ue, (qc6 L1 id text).2.1 = ue := ⟨_, rfl⟩
            obtain ⟨pe, hpe⟩ : ∃ pe, (qc6 L1 id text).2.2 = pe := ⟨_, rfl⟩
            rw [hL2, hue, hpe] at SU
            rw [hue] at he
            have H1 : Hid (qm1 (L1, last1, bk1) ⟨id, text, false, ps, .slice ea ps.length ec⟩ = (L2, qt7 bk1 (id, text))) := v6 (by unfold qm1; simp only [hL2, hue, he]; simp)
            subst he
            have WI : Hid (∀ U, DoAt w0 w F U bb last1 L2 (.slice va nb vc) bk1 wr.heap.size (some (.cells #[.int .i64 id, .string (BS text), .bool false, .slice ea np ec] 69 (0, 0))) → Calls Tryz.prog 29 #[.slice va nb vc, .agg #[.int .i64 id, .string (BS text)]] U fun e W' => ∃ a n2 c, e = .returned (.slice a n2 c) ∧ Hid (DoAt w0 w F W' bb last1 L2 (.slice a n2 c) (qt7 bk1 (id, text)) wr.heap.size (some (.cells #[.int .i64 id, .string (BS text), .bool false, .slice ea np ec] 69 (0, 0))))) := v6 fun U hU => (do_with hU hnb3 (id, text)).mono (by rintro e W' ⟨a, c, rfl, h⟩; exact ⟨a, _, c, rfl, v6 h⟩)
            have H2 : Hid (doK l (L, last, []) (k + 1) = ((qy7 L2 last1 pz ps).1.1, (qy7 L2 last1 pz ps).2.1, qt7 bk1 (id, text))) := v6 (by rw [q9 hstep _ _ (q9 H1), if_pos hp])
            have hdp : decide ((np : Int) > 0) = true := decide_eq_true (by omega)
            have hdp' : decide (0 < (np : Int)) = true := decide_eq_true (by omega)
            clear hstep H1 DA1 HX HLEN HR HL OK hL2 hue hpe S0
            go_wp2_with (first | (go_at_call 12; refine (q9 SU).mono ?_; rintro e w2 ⟨rfl, S2⟩; obtain ⟨b0, b1, b2, b3⟩ := (q9 S2).cells) | (go_at_call 29; refine (q9 WI _ (q9 S2)).mono ?_; rintro e w3 ⟨a3, n3, c3', rfl, S3⟩; obtain ⟨d0, d1, d2, d3⟩ := (q9 S3).cells))
            go_region_with (first | (go_at_call 21; refine (q9 PK _).mono ?_; rintro e w4 ⟨rfl, rfl⟩) | (go_at_call 15; refine (q9 PB _ _ _ _ _ _ ((q9 S3).keep (by repeat (first | exact Below.refl _ _ | apply Below.drew)))).mono ?_; rintro e w5 ⟨a5, n5, c5, a6, n6, c6, rfl, S5⟩))
            all_goals go_wp2_with fail
            all_goals exact ⟨⟨k + 1, by omega, rfl, by rw [q9 H2]; exact v6 (q9 S5).drop⟩, by simp [intOf]; omega⟩
          · have SU : Hid (Calls Tryz.prog 12 #[.pointer (some ⟨bb, 0, none⟩), .int .i64 id, .string (BS text)] (wr.alloc (.cells #[.int .i64 id, .string (BS text), .bool false, .slice ea np ec] 69)) fun e W' => e = .returned (.tuple #[.int .i64 (qc6 L1 id text).2.1, .int .i64 (qc6 L1 id text).2.2]) ∧ Hid (DoAt w0 w F W' bb last1 (qc6 L1 id text).1 (.slice va nb vc) bk1 wr.heap.size (some (.cells #[.int .i64 id, .string (BS text), .bool false, .slice ea np ec] 69 (0, 0))))) := v6 ((jb0 (q9 DA1) (q9 HL) id text (q9 OK).text).mono (by rintro e W' ⟨rfl, h⟩; exact ⟨rfl, v6 h⟩))
            obtain ⟨L2, hL2⟩ : ∃ L2, (qc6 L1 id text).1 = L2 := ⟨_, rfl⟩
            obtain ⟨ue, hue⟩ : ∃ ue, (qc6 L1 id text).2.1 = ue := ⟨_, rfl⟩
            obtain ⟨pe, hpe⟩ : ∃ pe, (qc6 L1 id text).2.2 = pe := ⟨_, rfl⟩
            rw [hL2, hue, hpe] at SU
            rw [hue] at he
            have H1 : Hid (qm1 (L1, last1, bk1) ⟨id, text, false, ps, .slice ea ps.length ec⟩ = (L2, bk1)) := v6 (by unfold qm1; simp only [hL2, hue, he]; simp)
            have hde : decide (ue = 0) = false := decide_eq_false he
            have H2 : Hid (doK l (L, last, []) (k + 1) = ((qy7 L2 last1 pz ps).1.1, (qy7 L2 last1 pz ps).2.1, bk1)) := v6 (by rw [q9 hstep _ _ (q9 H1), if_pos hp])
            have hdp : decide ((np : Int) > 0) = true := decide_eq_true (by omega)
            have hdp' : decide (0 < (np : Int)) = true := decide_eq_true (by omega)
            clear hstep H1 DA1 HX HLEN HR HL OK hL2 hue hpe S0
            go_wp2_with (first | (go_at_call 12; refine (q9 SU).mono ?_; rintro e w2 ⟨rfl, S2⟩; obtain ⟨b0, b1, b2, b3⟩ := (q9 S2).cells))
            go_region_with (first | (go_at_call 21; refine (q9 PK _).mono ?_; rintro e w4 ⟨rfl, rfl⟩) | (go_at_call 15; refine (q9 PB _ _ _ _ _ _ ((q9 S2).keep (by repeat (first | exact Below.refl _ _ | apply Below.drew)))).mono ?_; rintro e w5 ⟨a5, n5, c5, a6, n6, c6, rfl, S5⟩))
            all_goals go_wp2_with fail
            all_goals exact ⟨⟨k + 1, by omega, rfl, by rw [q9 H2]; exact v6 (q9 S5).drop⟩, by simp [intOf]; omega⟩
        · by_cases he : (qc6 L1 id text).2.1 = 0
          · have SU : Hid (Calls Tryz.prog 12 #[.pointer (some ⟨bb, 0, none⟩), .int .i64 id, .string (BS text)] (wr.alloc (.cells #[.int .i64 id, .string (BS text), .bool false, .slice ea np ec] 69)) fun e W' => e = .returned (.tuple #[.int .i64 (qc6 L1 id text).2.1, .int .i64 (qc6 L1 id text).2.2]) ∧ Hid (DoAt w0 w F W' bb last1 (qc6 L1 id text).1 (.slice va nb vc) bk1 wr.heap.size (some (.cells #[.int .i64 id, .string (BS text), .bool false, .slice ea np ec] 69 (0, 0))))) := v6 ((jb0 (q9 DA1) (q9 HL) id text (q9 OK).text).mono (by rintro e W' ⟨rfl, h⟩; exact ⟨rfl, v6 h⟩))
            obtain ⟨L2, hL2⟩ : ∃ L2, (qc6 L1 id text).1 = L2 := ⟨_, rfl⟩
            obtain ⟨ue, hue⟩ : ∃ ue, (qc6 L1 id text).2.1 = ue := ⟨_, rfl⟩
            obtain ⟨pe, hpe⟩ : ∃ pe, (qc6 L1 id text).2.2 = pe := ⟨_, rfl⟩
            rw [hL2, hue, hpe] at SU
            rw [hue] at he
            have H1 : Hid (qm1 (L1, last1, bk1) ⟨id, text, false, ps, .slice ea ps.length ec⟩ = (L2, qt7 bk1 (id, text))) := v6 (by unfold qm1; simp only [hL2, hue, he]; simp)
            subst he
            have WI : Hid (∀ U, DoAt w0 w F U bb last1 L2 (.slice va nb vc) bk1 wr.heap.size (some (.cells #[.int .i64 id, .string (BS text), .bool false, .slice ea np ec] 69 (0, 0))) → Calls Tryz.prog 29 #[.slice va nb vc, .agg #[.int .i64 id, .string (BS text)]] U fun e W' => ∃ a n2 c, e = .returned (.slice a n2 c) ∧ Hid (DoAt w0 w F W' bb last1 L2 (.slice a n2 c) (qt7 bk1 (id, text)) wr.heap.size (some (.cells #[.int .i64 id, .string (BS text), .bool false, .slice ea np ec] 69 (0, 0))))) := v6 fun U hU => (do_with hU hnb3 (id, text)).mono (by rintro e W' ⟨a, c, rfl, h⟩; exact ⟨a, _, c, rfl, v6 h⟩)
            have H2 : Hid (doK l (L, last, []) (k + 1) = (L2, last1, qt7 bk1 (id, text))) := v6 (by rw [q9 hstep _ _ (q9 H1), if_neg hp])
            obtain rfl : np = 0 := by omega
            clear hstep H1 DA1 HX HLEN HR HL OK hL2 hue hpe S0
            go_wp2_with (first | (go_at_call 12; refine (q9 SU).mono ?_; rintro e w2 ⟨rfl, S2⟩; obtain ⟨b0, b1, b2, b3⟩ := (q9 S2).cells) | (go_at_call 29; refine (q9 WI _ (q9 S2)).mono ?_; rintro e w3 ⟨a3, n3, c3', rfl, S3⟩; obtain ⟨d0, d1, d2, d3⟩ := (q9 S3).cells))
            exact ⟨⟨k + 1, by omega, rfl, by rw [q9 H2]; exact v6 (q9 S3).drop⟩, by simp [intOf]; omega⟩
          · have SU : Hid (Calls Tryz.prog 12 #[.pointer (some ⟨bb, 0, none⟩), .int .i64 id, .string (BS text)] (wr.alloc (.cells #[.int .i64 id, .string (BS text), .bool false, .slice ea np ec] 69)) fun e W' => e = .returned (.tuple #[.int .i64 (qc6 L1 id text).2.1, .int .i64 (qc6 L1 id text).2.2]) ∧ Hid (DoAt w0 w F W' bb last1 (qc6 L1 id text).1 (.slice va nb vc) bk1 wr.heap.size (some (.cells #[.int .i64 id, .string (BS text), .bool false, .slice ea np ec] 69 (0, 0))))) := v6 ((jb0 (q9 DA1) (q9 HL) id text (q9 OK).text).mono (by rintro e W' ⟨rfl, h⟩; exact ⟨rfl, v6 h⟩))
            obtain ⟨L2, hL2⟩ : ∃ L2, (qc6 L1 id text).1 = L2 := ⟨_, rfl⟩
            obtain ⟨ue, hue⟩ : ∃ ue, (qc6 L1 id text).2.1 = ue := ⟨_, rfl⟩
            obtain ⟨pe, hpe⟩ : ∃ pe, (qc6 L1 id text).2.2 = pe := ⟨_, rfl⟩
            rw [hL2, hue, hpe] at SU
            rw [hue] at he
            have H1 : Hid (qm1 (L1, last1, bk1) ⟨id, text, false, ps, .slice ea ps.length ec⟩ = (L2, bk1)) := v6 (by unfold qm1; simp only [hL2, hue, he]; simp)
            have hde : decide (ue = 0) = false := decide_eq_false he
            have H2 : Hid (doK l (L, last, []) (k + 1) = (L2, last1, bk1)) := v6 (by rw [q9 hstep _ _ (q9 H1), if_neg hp])
            obtain rfl : np = 0 := by omega
            clear hstep H1 DA1 HX HLEN HR HL OK hL2 hue hpe S0
            go_wp2_with (first | (go_at_call 12; refine (q9 SU).mono ?_; rintro e w2 ⟨rfl, S2⟩; obtain ⟨b0, b1, b2, b3⟩ := (q9 S2).cells))
            exact ⟨⟨k + 1, by omega, rfl, by rw [q9 H2]; exact v6 (q9 S2).drop⟩, by simp [intOf]; omega⟩
    · have hkn : k = n := by omega
      subst hkn
      obtain ⟨a2, c2, e2⟩ : ∃ a c, u5 = .slice a (doK l (L, last, []) k).2.2.length c := by
        obtain ⟨_, _, _, _, h3, _⟩ := q9 DA
        exact qc3 h3
      subst e2
      go_wp2_with fail
      go_ret
      exact ⟨a2, c2, rfl, q9 DA⟩
end
section
theorem vs8 (t : Ast) : j4 (qf9 t) = j4 t := by
  induction t with
  | leaf p => rfl
  | un p x ih => rw [qf9, j4, j4, ih]; rfl
  | bin p x y ihx ihy => rw [qf9, j4, j4, ihx, ihy]; rfl
  | tri p x y z ihx ihy ihz => rw [qf9, j4, j4, ihx, ihy, ihz]
def qe1 (L : List Su) : Nat := (qk1 L).1.length
theorem nodes_br {w : World} {F : Nat → Prop} {bb : Nat} {last : Int} {L : List Su} (h : Br w F bb last L) : Calls Tryz.prog 18 #[.pointer (some ⟨bb, 0, none⟩)] w fun e w' => e = .returned (.int .i64 (qe1 L)) ∧ w' = w := by
  obtain ⟨hF, sv, tv, rv, l, hB, hL, hfoot⟩ := h
  obtain ⟨a, c, e⟩ := qc3 hB.rows.ats
  have hc := hB.cells.2.2.1
  rw [e] at hc
  have hn : (tsX l).length = qe1 L := by unfold qe1; rw [← hL, qu0]
  rw [hn] at hc
  exact nodes_any bb (qe1 L) a c w hc
set_option maxHeartbeats 400000 in
theorem jt0 (g : Int) (w : World) : Calls Tryz.prog 20 #[.int .i64 g] w fun e w' => e = .returned (.bool (g == 1 || g == 3)) ∧ w' = w := by
  by_cases h1 : g = 1
  · subst h1
    go_enter Tryz.func20, Tryz.ntmps20
    go_wp2_with fail
    go_ret
    exact ⟨rfl, rfl⟩
  · by_cases h3 : g = 3
    · subst h3
      go_enter Tryz.func20, Tryz.ntmps20
      go_wp2_with fail
      go_ret
      exact ⟨rfl, rfl⟩
    · have e1 : (g == 1) = false := by simpa using h1
      have e3 : (g == 3) = false := by simpa using h3
      rw [e1, e3]
      have d1 : decide (g = 1) = false := decide_eq_false h1
      have d3 : decide (g = 3) = false := decide_eq_false h3
      go_enter Tryz.func20, Tryz.ntmps20
      go_wp2_with fail
      go_ret
      exact ⟨rfl, rfl⟩
theorem za3 {L L' : List Su} (hg : qs0 L) (hg' : qs0 L') (h1 : ∀ x ∈ L, ∃ y ∈ L', x.co = y.co) (h2 : ∀ x ∈ L', ∃ y ∈ L, x.co = y.co) : qe1 L = qe1 L' := Nat.le_antisymm (vu7 hg' h1) (vu7 hg h2)
theorem nodes_pos (id : Int) (c : Co) : 0 < qe1 [⟨id, c, []⟩] := by
  have e : (qk1 [⟨id, c, []⟩]).1 = (j9 [] c).1 := rfl
  have := (qm0 [] c).2.2
  unfold qe1
  rw [e]
  omega
theorem vy7 {L : List Su} (hg : qs0 L) {id : Int} (hno : ∀ x ∈ L, x.id ≠ id) {s : List UInt8} {t : Ast} (hrd : qh5 (BS s) = .ok t) (h8 : L.length < 8) (h80 : qe1 L ≤ 80) (hin : ∃ y ∈ L, j4 t = y.co) : (qc6 L id s).2.1 = 0 ∧ qe1 (qc6 L id s).1 = qe1 L := by
  have hg' : qs0 (vm8 L (qj6 L id) ⟨id, j4 t, []⟩) := fun x hx => by
    rcases va8 hx with rfl | hx
    · exact vu6 hrd
    · exact hg x hx
  have hmem : ∀ x ∈ L, x ∈ vm8 L (qj6 L id) ⟨id, j4 t, []⟩ := fun x hx => by
    unfold vm8
    rw [← List.take_append_drop (qj6 L id) L] at hx
    rcases List.mem_append.1 hx with hx | hx
    · exact List.mem_append.2 (.inl hx)
    · exact List.mem_append.2 (.inr (List.mem_cons.2 (.inr hx)))
  have hs : qe1 (vm8 L (qj6 L id) ⟨id, j4 t, []⟩) = qe1 L := za3 hg' hg (fun x hx => by
    rcases va8 hx with rfl | hx
    · exact hin
    · exact ⟨x, hx, rfl⟩) (fun x hx => ⟨x, hmem x hx, rfl⟩)
  have hh : ¬ (L.any fun x => x.id == id) = true := fun h => by
    obtain ⟨x, hx, e⟩ := List.any_eq_true.1 h
    exact hno x hx (by simpa using e)
  have e : qc6 L id s = (vm8 L (qj6 L id) ⟨id, j4 t, []⟩, 0, 0) := by
    unfold qc6
    rw [if_neg hh, hrd]
    simp only
    rw [if_neg (by omega), if_neg (by unfold qe1 at hs h80; omega)]
  rw [e]
  exact ⟨rfl, hs⟩
theorem jv9 (s s' : List UInt8) (hs' : (BS s').data.toList = 40 :: ((BS s).data.toList ++ [41])) : (qc6 [] 1 s).2.1 = (qc6 (qc6 [] 1 s).1 2 s).2.1 ∧
    ((qc6 [] 1 s).2.1 ≠ 0 → qe1 (qc6 [] 1 s).1 = 0 ∧ qe1 (qc6 (qc6 [] 1 s).1 2 s).1 = 0) ∧
    ((qc6 [] 1 s).2.1 = 0 → 0 < qe1 (qc6 [] 1 s).1 ∧ qe1 (qc6 (qc6 [] 1 s).1 2 s).1 = qe1 (qc6 [] 1 s).1 ∧ qe1 (qc6 (qc6 (qc6 [] 1 s).1 2 s).1 3 s').1 = qe1 (qc6 [] 1 s).1 ∧ ((qc6 (qc6 (qc6 [] 1 s).1 2 s).1 3 s').2.1 = 0 ∨ (qc6 (qc6 (qc6 [] 1 s).1 2 s).1 3 s').2.1 = 1 ∨ (qc6 (qc6 (qc6 [] 1 s).1 2 s).1 3 s').2.1 = 3)) := by
  cases hrd : qh5 (BS s) with
  | err en pl =>
    have he := qn5 hrd
    have e1 : qc6 [] 1 s = ([], en, pl) := by unfold qc6; rw [hrd]; rfl
    have e2 : qc6 [] 2 s = ([], en, pl) := by unfold qc6; rw [hrd]; rfl
    rw [e1]
    simp only
    rw [e2]
    exact ⟨rfl, fun _ => ⟨rfl, rfl⟩, fun h => by omega⟩
  | ok t =>
    by_cases h80 : 80 < qe1 [⟨1, j4 t, []⟩]
    · have e1 : qc6 [] 1 s = ([], 8, 0) := by
        unfold qc6
        rw [hrd]
        show (if _ then _ else if 80 < qe1 [⟨1, j4 t, []⟩] then _ else _) = _
        rw [if_neg (by decide), if_pos h80]
      have e2 : qc6 [] 2 s = ([], 8, 0) := by
        unfold qc6
        rw [hrd]
        show (if _ then _ else if 80 < qe1 [⟨1, j4 t, []⟩] then _ else _) = _
        rw [if_neg (by decide), if_pos h80]
      rw [e1]
      simp only
      rw [e2]
      exact ⟨rfl, fun _ => ⟨rfl, rfl⟩, fun h => by omega⟩
    · have e1 : qc6 [] 1 s = ([⟨1, j4 t, []⟩], 0, 0) := by
        unfold qc6
        rw [hrd]
        show (if _ then _ else if 80 < qe1 [⟨1, j4 t, []⟩] then _ else _) = _
        rw [if_neg (by decide), if_neg h80]
        rfl
      rw [e1]
      simp only
      have g1 : qs0 [⟨1, j4 t, []⟩] := fun x hx => by simp at hx; subst hx; exact vu6 hrd
      obtain ⟨a1, a2⟩ := vy7 g1 (id := 2) (fun x hx => by simp at hx; subst hx; show (1 : Int) ≠ 2; decide) hrd (by show 1 < 8; decide) (by omega) ⟨_, List.mem_cons_self .., rfl⟩
      have e2 : qc6 [⟨1, j4 t, []⟩] 2 s = ([⟨1, j4 t, []⟩, ⟨2, j4 t, []⟩], 0, 0) := by
        unfold qc6
        rw [if_neg (by simp), hrd]
        have hc : (qk1 (vm8 [⟨1, j4 t, []⟩] (qj6 [⟨1, j4 t, []⟩] 2) ⟨2, j4 t, []⟩)).1.length ≤ 80 := by
          have := a2
          unfold qc6 at this
          rw [if_neg (by simp), hrd] at this
          simp only at this
          rw [if_neg (by show ¬ (1 : Nat) = 8; decide)] at this
          by_cases hc : 80 < (qk1 (vm8 [⟨1, j4 t, []⟩] (qj6 [⟨1, j4 t, []⟩] 2) ⟨2, j4 t, []⟩)).1.length
          · exfalso
            have := a1
            unfold qc6 at this
            rw [if_neg (by simp), hrd] at this
            simp only at this
            rw [if_neg (by show ¬ (1 : Nat) = 8; decide), if_pos hc] at this
            simp at this
          · omega
        simp only
        rw [if_neg (by show ¬ (1 : Nat) = 8; decide), if_neg (by omega)]
        rfl
      rw [e2] at a2 ⊢
      simp only at a2 ⊢
      refine ⟨by trivial, fun h => absurd rfl h, fun _ => ⟨nodes_pos 1 _, a2, ?_⟩⟩
      have g2 : qs0 [⟨1, j4 t, []⟩, ⟨2, j4 t, []⟩] := fun x hx => by
        simp at hx
        rcases hx with rfl | rfl <;> exact vu6 hrd
      have hh : ¬ (([⟨1, j4 t, []⟩, ⟨2, j4 t, []⟩] : List Su).any fun x => x.id == 3) = true := by simp
      rcases za1 hrd (BS s') hs' with ⟨_, hb⟩ | ⟨pl, hb⟩ | ⟨t', hb, he, _⟩
      · have e3 : qc6 [⟨1, j4 t, []⟩, ⟨2, j4 t, []⟩] 3 s' = ([⟨1, j4 t, []⟩, ⟨2, j4 t, []⟩], 1, 0) := by unfold qc6; rw [if_neg hh, hb]
        rw [e3]
        exact ⟨a2, .inr (.inl rfl)⟩
      · have e3 : qc6 [⟨1, j4 t, []⟩, ⟨2, j4 t, []⟩] 3 s' = ([⟨1, j4 t, []⟩, ⟨2, j4 t, []⟩], 3, pl) := by unfold qc6; rw [if_neg hh, hb]
        rw [e3]
        exact ⟨a2, .inr (.inr rfl)⟩
      · have hce : j4 t' = j4 t := by rw [← vs8 t', he, vs8]
        obtain ⟨b1, b2⟩ := vy7 g2 (id := 3) (fun x hx => by simp at hx; rcases hx with rfl | rfl; (show (1 : Int) ≠ 3; decide); (show (2 : Int) ≠ 3; decide)) hb (by show 2 < 8; decide) (by omega) ⟨_, List.mem_cons_self .., hce⟩
        exact ⟨b2.trans a2, .inl b1⟩
end
section
def jt2 (L : List Su) (bk : List Lv) : Prop := ∀ x ∈ L, ∃ b ∈ bk, b.1 = x.id
theorem withK_mem (l : List Lv) (x : Lv) (k : Nat) : (∀ j y, j < k → l[j]? = some y → y ∈ (qf2 l x k).1) ∧ ((qf2 l x k).2 = true → x ∈ (qf2 l x k).1) := by
  induction k with
  | zero => exact ⟨fun j y hj => by omega, fun h => by simp [qf2] at h⟩
  | succ k ih =>
    rw [qf2]
    cases hk : l[k]? with
    | none =>
      refine ⟨fun j y hj hy => ?_, ih.2⟩
      by_cases e : j = k
      · subst e; rw [hk] at hy; cases hy
      · exact ih.1 j y (by omega) hy
    | some z =>
      simp only
      split
      · refine ⟨fun j y hj hy => ?_, fun _ => by simp⟩
        by_cases e : j = k
        · subst e; rw [hk] at hy; obtain rfl := Option.some.inj hy; simp
        · simp [ih.1 j y (by omega) hy]
      · refine ⟨fun j y hj hy => ?_, fun h => ?_⟩
        · by_cases e : j = k
          · subst e; rw [hk] at hy; obtain rfl := Option.some.inj hy; simp
          · simp [ih.1 j y (by omega) hy]
        · exact List.mem_append.2 (.inl (ih.2 h))
theorem jb1 {l : List Lv} {x b : Lv} (h : b = x ∨ b ∈ l) : b ∈ qt7 l x := by
  obtain ⟨h1, h2⟩ := withK_mem l x l.length
  have h3 : ∀ y ∈ l, y ∈ (qf2 l x l.length).1 := fun y hy => by
    obtain ⟨j, hj⟩ := List.getElem?_of_mem hy
    exact h1 j y (List.getElem?_eq_some_iff.1 hj).1 hj
  unfold qt7
  split
  · rename_i hd
    rcases h with rfl | h
    · exact h2 hd
    · exact h3 b h
  · rcases h with rfl | h
    · simp
    · exact List.mem_append.2 (.inl (h3 b h))
theorem jm0 {m : Mg} {st : List Su × List Int × List Int} {p : Nat} : ∀ y ∈ (qj3 m st p).1, ∃ x ∈ st.1, x.id = y.id := by
  unfold qj3
  split
  · exact fun y hy => ⟨y, hy, rfl⟩
  · rename_i x hx
    split
    · exact fun y hy => ⟨y, hy, rfl⟩
    · intro y hy
      rcases List.mem_or_eq_of_mem_set hy with hy | rfl
      · exact ⟨y, hy, rfl⟩
      · exact ⟨x, List.mem_of_getElem? hx, rfl⟩
theorem foldl_ids {m : Mg} : ∀ (pos : List Nat) (st : List Su × List Int × List Int), ∀ y ∈ (pos.foldl (qj3 m) st).1, ∃ x ∈ st.1, x.id = y.id := by
  intro pos
  induction pos with
  | nil => intro st y hy; exact ⟨y, hy, rfl⟩
  | cons p r ih =>
    intro st y hy
    obtain ⟨z, hz, e⟩ := ih _ y hy
    obtain ⟨x, hx, e'⟩ := jm0 z hz
    exact ⟨x, hx, e'.trans e⟩
theorem pubA_ids {L : List Su} {last pri : Int} {ps : List Pr} : ∀ y ∈ (qy7 L last pri ps).1.1, ∃ x ∈ L, x.id = y.id := by
  unfold qy7
  split
  · exact foldl_ids _ _
  · exact fun y hy => ⟨y, hy, rfl⟩
theorem vq0 (L : List Su) (id : Int) : (qe4 L id).1 = delS L id := by
  unfold qe4
  split
  · rfl
  · rename_i h
    unfold delS
    symm
    rw [List.filter_eq_self]
    intro x hx
    have : x.id ≠ id := fun e => h (List.any_eq_true.2 ⟨x, hx, by simpa using e⟩)
    simpa using this
theorem subR_ids {L : List Su} {id : Int} {s : List UInt8} : ((qc6 L id s).2.1 = 0 → ∀ y ∈ (qc6 L id s).1, y.id = id ∨ y ∈ L) ∧ ((qc6 L id s).2.1 ≠ 0 → (qc6 L id s).1 = L) := by
  unfold qc6
  split
  · exact ⟨fun h => by simp at h, fun _ => rfl⟩
  · split
    · rename_i en pl hrd
      have := qn5 hrd
      exact ⟨fun h => by simp only at h; omega, fun _ => rfl⟩
    · split
      · exact ⟨fun h => by simp at h, fun _ => rfl⟩
      · split
        · exact ⟨fun h => by simp at h, fun _ => rfl⟩
        · refine ⟨fun _ y hy => ?_, fun h => absurd rfl h⟩
          rcases va8 hy with rfl | hy
          · exact .inl rfl
          · exact .inr hy
theorem ju4 {st : List Su × Int × List Lv} {x : Sc} (h : jt2 st.1 st.2.2) : jt2 (qv5 st x).1 (qv5 st x).2.2 := by
  have h1 : jt2 (qm1 st x).1 (qm1 st x).2 := by
    unfold qm1
    split
    · simp only
      rw [vq0]
      split
      · intro y hy
        obtain ⟨hy1, hy2⟩ := List.mem_filter.1 hy
        have hne : y.id ≠ x.id := by simpa using hy2
        obtain ⟨b, hb, e⟩ := h y hy1
        refine ⟨b, List.mem_filter.2 ⟨hb, ?_⟩, e⟩
        have : b.1 ≠ x.id := by rw [e]; exact hne
        simpa using this
      · exact fun y hy => h y (vu0 y hy)
    · obtain ⟨g1, g2⟩ := subR_ids (L := st.1) (id := x.id) (s := x.text)
      simp only
      split
      · rename_i he
        intro y hy
        rcases g1 he y hy with e | hy
        · exact ⟨(x.id, x.text), jb1 (.inl rfl), e.symm⟩
        · obtain ⟨b, hb, e⟩ := h y hy
          exact ⟨b, jb1 (.inr hb), e⟩
      · rename_i he
        rw [g2 he]
        exact h
  unfold qv5
  split
  · intro y hy
    obtain ⟨z, hz, e⟩ := pubA_ids y hy
    obtain ⟨b, hb, e'⟩ := h1 z hz
    exact ⟨b, hb, e'.trans e⟩
  · exact h1
theorem cover_do (l : List Sc) : ∀ (st : List Su × Int × List Lv), jt2 st.1 st.2.2 → jt2 (doR l st).1 (doR l st).2.2 := by
  induction l with
  | nil => intro st h; exact h
  | cons x r ih => intro st h; exact ih _ (ju4 h)
def vp2 (L : List Su) (bk : List Lv) (k : Nat) : List Su := (bk.take k).foldl (fun L b => delS L b.1) L
theorem jz9 (L : List Su) (bk : List Lv) (k : Nat) (b : Lv) (h : bk[k]? = some b) : vp2 L bk (k + 1) = (qe4 (vp2 L bk k) b.1).1 := by
  unfold vp2
  rw [List.take_add_one, h, List.foldl_append, vq0]
  rfl
theorem fold_del : ∀ (bk : List Lv) (L : List Su), ∀ x ∈ bk.foldl (fun L b => delS L b.1) L, x ∈ L ∧ ∀ b ∈ bk, b.1 ≠ x.id := by
  intro bk
  induction bk with
  | nil => intro L x hx; exact ⟨hx, fun b hb => by simp at hb⟩
  | cons a r ih =>
    intro L x hx
    obtain ⟨h1, h2⟩ := ih _ x hx
    obtain ⟨h3, h4⟩ := List.mem_filter.1 h1
    have h5 : x.id ≠ a.1 := by simpa using h4
    refine ⟨h3, fun b hb => ?_⟩
    rcases List.mem_cons.1 hb with rfl | hb
    · exact fun e => h5 e.symm
    · exact h2 b hb
theorem goneK_all {L : List Su} {bk : List Lv} (h : jt2 L bk) : vp2 L bk bk.length = [] := by
  unfold vp2
  rw [List.take_length, List.eq_nil_iff_forall_not_mem]
  intro x hx
  obtain ⟨h1, h2⟩ := fold_del bk L x hx
  obtain ⟨b, hb, e⟩ := h x h1
  exact h2 b hb e
theorem ScrAt.below {w w' : World} {v : Value} {l : List Sc} (h : ScrAt w v l) (hb : Below w.heap.size w w') : ScrAt w' v l := by
  obtain ⟨a, cap, hv, hl, hx⟩ := h
  refine ⟨a, cap, hv, hl, fun i x hi => ?_⟩
  obtain ⟨ok, b, off, ha, hlt, c0, c1, c2, c3⟩ := hx i x hi
  exact ⟨⟨ok.text, ok.id, ok.ev.below hb, ok.good⟩, b, off, ha, Nat.lt_of_lt_of_le hlt hb.size, (hb.cell (p := ⟨b, off + i * 4, none⟩) hlt).trans c0, (hb.cell (p := ⟨b, off + i * 4 + 1, none⟩) hlt).trans c1, (hb.cell (p := ⟨b, off + i * 4 + 2, none⟩) hlt).trans c2, (hb.cell (p := ⟨b, off + i * 4 + 3, none⟩) hlt).trans c3⟩
end
section
set_option maxHeartbeats 8000000 in
set_option maxRecDepth 100000 in
theorem gone_all (l : List Sc) (sv : Value) (w : World) (hs : ScrAt w sv l) (s : List UInt8) (hsz : s.length ≤ 140737488351232) (hL : LibOk w) : Calls Tryz.prog 4 #[sv, .string (BS s)] w fun e w' => e = .returned (.bool true) ∧ Below w.heap.size w w' := by
  have a1 : ∀ w : World, (Op.stringOp .add ⟨#[40]⟩ (BS s)).run Tryz.prog w = .ok (.string (⟨#[40]⟩ ++ BS s)) w := fun w => run_string_add_sum (P := Tryz.prog) (w := w) _ _ (by show 1 + (BS s).size ≤ _; rw [qc1]; omega)
  have z1 : (⟨#[40]⟩ ++ BS s : ByteArray).size = 1 + (BS s).size := ByteArray.size_append
  have a2 : ∀ w : World, (Op.stringOp .add (⟨#[40]⟩ ++ BS s) ⟨#[41]⟩).run Tryz.prog w = .ok (.string (⟨#[40]⟩ ++ BS s ++ ⟨#[41]⟩)) w := fun w => run_string_add_sum (P := Tryz.prog) (w := w) _ _ (by rw [z1, qc1]; show 1 + s.length + 1 ≤ _; omega)
  have eA : (⟨#[40]⟩ ++ BS s ++ ⟨#[41]⟩ : ByteArray) = BS (40 :: (s ++ [41])) := by
    apply ByteArray.ext
    rw [ByteArray.data_append, ByteArray.data_append]
    simp [BS]
  rw [eA] at a2
  generalize (⟨#[40]⟩ ++ BS s : ByteArray) = A1 at a1 a2
  obtain ⟨f1, f2, f3⟩ := jv9 s (40 :: (s ++ [41])) rfl
  obtain ⟨r1, hr1⟩ : ∃ r1, qc6 [] 1 s = r1 := ⟨_, rfl⟩
  obtain ⟨r2, hr2⟩ : ∃ r2, qc6 r1.1 2 s = r2 := ⟨_, rfl⟩
  obtain ⟨r3, hr3⟩ : ∃ r3, qc6 r2.1 3 (40 :: (s ++ [41])) = r3 := ⟨_, rfl⟩
  rw [hr1, hr2] at f1 f2
  rw [hr1, hr2, hr3] at f3
  have KN := v6 (known_any w hL)
  have NEW : Hid (∀ w1, Calls Tryz.prog 10 #[] w1 fun e w' => e = .returned (.pointer (some ⟨w1.heap.size, 0, none⟩)) ∧ Hid (HasB w1 (fun k => k = w1.heap.size) w' w1.heap.size 0 [])) := v6 fun w1 => (new_any w1).mono (by rintro e w' ⟨rfl, rfl⟩; exact ⟨rfl, v6 (jp9 w1)⟩)
  obtain ⟨bk, hbk⟩ : ∃ bk, (doR l ([], 0, [])).2.2 = bk := ⟨_, rfl⟩
  obtain ⟨L0, hL0⟩ : ∃ L0, (doR l ([], 0, [])).1 = L0 := ⟨_, rfl⟩
  obtain ⟨last0, hlast0⟩ : ∃ x, (doR l ([], 0, [])).2.1 = x := ⟨_, rfl⟩
  have HALL : Hid (vp2 L0 bk bk.length = []) := v6 (by rw [← hL0, ← hbk]; exact goneK_all (cover_do l _ fun x hx => by simp at hx))
  obtain ⟨nb, hnb⟩ : ∃ nb, bk.length = nb := ⟨_, rfl⟩
  have DO : Hid (∀ w1 w2, Below w.heap.size w w1 → HasB w1 (fun k => k = w1.heap.size) w2 w1.heap.size 0 [] → Calls Tryz.prog 11 #[.pointer (some ⟨w1.heap.size, 0, none⟩), sv] w2 fun e w' => ∃ a c, e = .returned (.slice a nb c) ∧ Hid (DoAt w1 w2 (fun k => k = w1.heap.size) w' w1.heap.size last0 (vp2 L0 bk 0) (.slice a nb c) bk 0 none)) := v6 (by
    intro w1 w2 hb hH
    have := does_any w1 w2 _ w1.heap.size 0 [] hH (hL.below hb (Nat.le_refl _)) ⟨by decide, by decide⟩ l sv (hs.below hb)
    rw [hbk, hL0, hlast0, hnb] at this
    refine this.mono ?_
    rintro e w' ⟨a, c, rfl, h⟩
    exact ⟨a, c, rfl, v6 h⟩)
  have UN : Hid (∀ w1 w2 U k v b, bk[k]? = some b → DoAt w1 w2 (fun k => k = w1.heap.size) U w1.heap.size last0 (vp2 L0 bk k) v bk 0 none → Calls Tryz.prog 19 #[.pointer (some ⟨w1.heap.size, 0, none⟩), .int .i64 b.1] U fun e w' => ∃ ue, e = .returned (.int .i64 ue) ∧ Hid (DoAt w1 w2 (fun k => k = w1.heap.size) w' w1.heap.size last0 (vp2 L0 bk (k + 1)) v bk 0 none)) := v6 (by
    intro w1 w2 U k v b hb hU
    refine (vc5 hU b.1).mono ?_
    rintro e w' ⟨rfl, h⟩
    rw [← jz9 L0 bk k b hb] at h
    exact ⟨_, rfl, v6 h⟩)
  have ND : Hid (∀ w1 w2 U L v, DoAt w1 w2 (fun k => k = w1.heap.size) U w1.heap.size last0 L v bk 0 none → Calls Tryz.prog 18 #[.pointer (some ⟨w1.heap.size, 0, none⟩)] U fun e w' => e = .returned (.int .i64 (qe1 L)) ∧ w' = U) := v6 (by
    rintro w1 w2 U L v ⟨F', h0, _⟩
    exact nodes_br h0.br)
  have LV : Hid (∀ w1 w2 U v, DoAt w1 w2 (fun k => k = w1.heap.size) U w1.heap.size last0 [] v bk 0 none → Calls Tryz.prog 16 #[.pointer (some ⟨w1.heap.size, 0, none⟩)] U fun e w' => ∃ a c, e = .returned (.slice a 0 c) ∧ Hid (DoAt w1 w2 (fun k => k = w1.heap.size) w' w1.heap.size last0 [] v bk 0 none)) := v6 (by
    intro w1 w2 U v hU
    have hU' := hU
    obtain ⟨F', h0, _⟩ := hU
    refine (live_any U F' w1.heap.size last0 [] h0.br).mono ?_
    rintro e w' ⟨v', rfl, h1, h2⟩
    obtain ⟨a, c, rfl⟩ := h1.form
    exact ⟨a, c, rfl, v6 (hU'.keep h2)⟩)
  have SB : Hid (∀ w1 w2 U L v id x, Below w.heap.size w w1 → x.length ≤ 140737488355328 → DoAt w1 w2 (fun k => k = w1.heap.size) U w1.heap.size last0 L v bk 0 none → Calls Tryz.prog 12 #[.pointer (some ⟨w1.heap.size, 0, none⟩), .int .i64 id, .string (BS x)] U fun e w' => e = .returned (.tuple #[.int .i64 (qc6 L id x).2.1, .int .i64 (qc6 L id x).2.2]) ∧ Hid (DoAt w1 w2 (fun k => k = w1.heap.size) w' w1.heap.size last0 (qc6 L id x).1 v bk 0 none)) := v6 fun w1 w2 U L v id x hb hx hU => (jb0 hU (hL.below hb (Nat.le_refl _)) id x hx).mono (by rintro e w' ⟨rfl, h⟩; exact ⟨rfl, v6 h⟩)
  have S1 : Hid (∀ w1 w2 U v, Below w.heap.size w w1 → DoAt w1 w2 (fun k => k = w1.heap.size) U w1.heap.size last0 [] v bk 0 none → Calls Tryz.prog 12 #[.pointer (some ⟨w1.heap.size, 0, none⟩), .int .i64 1, .string (BS s)] U fun e w' => e = .returned (.tuple #[.int .i64 r1.2.1, .int .i64 r1.2.2]) ∧ Hid (DoAt w1 w2 (fun k => k = w1.heap.size) w' w1.heap.size last0 r1.1 v bk 0 none)) := v6 fun w1 w2 U v hb hU => by have := q9 SB w1 w2 U [] v 1 s hb (by omega) hU; rw [hr1] at this; exact this
  have S2 : Hid (∀ w1 w2 U v, Below w.heap.size w w1 → DoAt w1 w2 (fun k => k = w1.heap.size) U w1.heap.size last0 r1.1 v bk 0 none → Calls Tryz.prog 12 #[.pointer (some ⟨w1.heap.size, 0, none⟩), .int .i64 2, .string (BS s)] U fun e w' => e = .returned (.tuple #[.int .i64 r2.2.1, .int .i64 r2.2.2]) ∧ Hid (DoAt w1 w2 (fun k => k = w1.heap.size) w' w1.heap.size last0 r2.1 v bk 0 none)) := v6 fun w1 w2 U v hb hU => by have := q9 SB w1 w2 U r1.1 v 2 s hb (by omega) hU; rw [hr2] at this; exact this
  have S3 : Hid (∀ w1 w2 U v, Below w.heap.size w w1 → DoAt w1 w2 (fun k => k = w1.heap.size) U w1.heap.size last0 r2.1 v bk 0 none → Calls Tryz.prog 12 #[.pointer (some ⟨w1.heap.size, 0, none⟩), .int .i64 3, .string (BS (40 :: (s ++ [41])))] U fun e w' => e = .returned (.tuple #[.int .i64 r3.2.1, .int .i64 r3.2.2]) ∧ Hid (DoAt w1 w2 (fun k => k = w1.heap.size) w' w1.heap.size last0 r3.1 v bk 0 none)) := v6 fun w1 w2 U v hb hU => by have := q9 SB w1 w2 U r2.1 v 3 (40 :: (s ++ [41])) hb (by simp; omega) hU; rw [hr3] at this; exact this
  have TB : Hid (∀ U, Calls Tryz.prog 20 #[.int .i64 r3.2.1] U fun e w' => e = .returned (.bool (r3.2.1 == 1 || r3.2.1 == 3)) ∧ w' = U) := v6 fun U => jt0 _ U
  obtain ⟨sa, sn, sc, rfl⟩ : ∃ a n c, sv = .slice a n c := by
    obtain ⟨a, cap, hv, _⟩ := hs
    exact ⟨a, _, cap, hv⟩
  have hnb3 : nb ≤ 2600000000000 := by
    have := (doK_len l ([], 0, []) (by decide) l.length).1
    obtain ⟨_, _, _, hl, _⟩ := hs
    rw [← hnb, ← hbk]
    unfold doR
    unfold doK at this
    rw [List.take_length] at this
    simp at this
    omega
  rw [hnb] at HALL
  have HNB := v6 hnb
  generalize eB : (40 :: (s ++ [41]) : List UInt8) = s3 at *
  clear hL hs SB hr1 hr2 hr3 hbk hL0 hlast0 hnb eB eA z1
  go_enter Tryz.func4, Tryz.ntmps4
  go_wp2_with (first | (go_at_call 9; refine (q9 KN).mono ?_; rintro e w1 ⟨rfl, hb1⟩; have B1 := v6 hb1; clear hb1) | (go_at_call 10; refine (q9 NEW _).mono ?_; rintro e w2 ⟨rfl, H2⟩) | (go_at_call 11; refine (q9 DO w1 w2 (q9 B1) (q9 H2)).mono ?_; rintro e w3 ⟨a3, c3, rfl, D3⟩))
  clear KN NEW DO
  go_loopw [8] (fun i wr => ∃ k : Nat, k ≤ nb ∧ i = .int .i64 k ∧ Hid (DoAt w1 w2 (fun k => k = w1.heap.size) wr w1.heap.size last0 (vp2 L0 bk k) (.slice a3 nb c3) bk 0 none)) (fun i _ => nb - (intOf i).toNat)
  case atStart => exact ⟨0, Nat.zero_le _, rfl, D3⟩
  case round =>
    obtain ⟨k, hk, rfl, DA⟩ := hrel
    by_cases hlt : k < nb
    · obtain ⟨b, hb⟩ : ∃ b, bk[k]? = some b := ⟨_, List.getElem?_eq_getElem (by have := q9 HNB; omega)⟩
      have U := v6 (q9 UN w1 w2 wr k _ b hb (q9 DA))
      obtain ⟨g, e0⟩ : ∃ g, a3 = some ⟨g, 0, none⟩ ∧ wr.cell? ⟨g, k * 2, none⟩ = some (.int .i64 b.1) := by
        obtain ⟨_, _, _, _, h3, _⟩ := q9 DA
        obtain ⟨g, c, hv, _, h5, _⟩ := h3.cell hb
        simp at hv
        exact ⟨g, hv.1, h5⟩
      obtain ⟨rfl, e0⟩ := e0
      have hk0 : (0 : Int) ≤ (k : Int) := by omega
      have hk1 : (k : Int) < (nb : Int) := by omega
      clear DA hb UN ND LV S1 S2 S3 TB f2 f3
      go_wp2_with (go_at_call 19; refine (q9 U).mono ?_; rintro e w4 ⟨ue, rfl, S4⟩)
      exact ⟨⟨k + 1, by omega, rfl, S4⟩, by simp [intOf]; omega⟩
    · have hkn : k = nb := by omega
      subst hkn
      rw [q9 HALL] at DA
      have N0 : Hid (Calls Tryz.prog 18 #[.pointer (some ⟨w1.heap.size, 0, none⟩)] wr fun e w' => e = .returned (.int .i64 0) ∧ w' = wr) := v6 (q9 ND w1 w2 wr [] _ (q9 DA))
      have N1 : Hid (∀ U v, DoAt w1 w2 (fun k => k = w1.heap.size) U w1.heap.size last0 r1.1 v bk 0 none → Calls Tryz.prog 18 #[.pointer (some ⟨w1.heap.size, 0, none⟩)] U fun e w' => e = .returned (.int .i64 (qe1 r1.1)) ∧ w' = U) := v6 fun U v hU => q9 ND w1 w2 U _ v hU
      have N2 : Hid (∀ U v, DoAt w1 w2 (fun k => k = w1.heap.size) U w1.heap.size last0 r2.1 v bk 0 none → Calls Tryz.prog 18 #[.pointer (some ⟨w1.heap.size, 0, none⟩)] U fun e w' => e = .returned (.int .i64 (qe1 r2.1)) ∧ w' = U) := v6 fun U v hU => q9 ND w1 w2 U _ v hU
      have N3 : Hid (∀ U v, DoAt w1 w2 (fun k => k = w1.heap.size) U w1.heap.size last0 r3.1 v bk 0 none → Calls Tryz.prog 18 #[.pointer (some ⟨w1.heap.size, 0, none⟩)] U fun e w' => e = .returned (.int .i64 (qe1 r3.1)) ∧ w' = U) := v6 fun U v hU => q9 ND w1 w2 U _ v hU
      obtain ⟨e1, he1⟩ : ∃ e1, r1.2.1 = e1 := ⟨_, rfl⟩
      obtain ⟨e3, he3⟩ : ∃ e3, r3.2.1 = e3 := ⟨_, rfl⟩
      obtain ⟨n1, hn1⟩ : ∃ n1, qe1 r1.1 = n1 := ⟨_, rfl⟩
      obtain ⟨n2, hn2⟩ : ∃ n2, qe1 r2.1 = n2 := ⟨_, rfl⟩
      obtain ⟨n3, hn3⟩ : ∃ n3, qe1 r3.1 = n3 := ⟨_, rfl⟩
      rw [← f1, he1] at S2
      rw [he1] at S1 f2 f3
      rw [he3] at S3 TB f3
      rw [hn1] at N1 f2 f3
      rw [hn2] at N2 f2 f3
      rw [hn3] at N3 f3
      clear UN ND HALL HNB he1 he3 hn1 hn2 hn3 f1
      have FIN : Hid (∀ U L v, DoAt w1 w2 (fun k => k = w1.heap.size) U w1.heap.size last0 L v bk 0 none → Below w.heap.size w U) := v6 (by
        rintro U L v ⟨F', h0, _⟩
        exact v7 (q9 B1) h0.below)
      by_cases hz : e1 = 0
      · obtain ⟨g1, g2, g3, g4⟩ := f3 hz
        subst hz g2 g3
        have hd1 : decide ((n3 : Int) > 0) = true := decide_eq_true (by omega)
        have hd1' : decide (0 < (n3 : Int)) = true := decide_eq_true (by omega)
        clear f2 f3
        rcases g4 with rfl | rfl | rfl
        all_goals
          go_wp2_with (first | (go_at_call 18; refine (q9 N0).mono ?_; clear N0; rintro e w4 ⟨rfl, rfl⟩) | (go_at_call 16; refine (q9 LV _ _ _ _ (q9 DA)).mono ?_; clear LV; rintro e w5 ⟨a5, c5, rfl, D5⟩) | (go_at_call 12; refine (q9 S1 _ _ _ _ (q9 B1) (q9 D5)).mono ?_; clear S1; rintro e w6 ⟨rfl, D6⟩) | (go_at_call 18; refine (q9 N1 _ _ (q9 D6)).mono ?_; clear N1; rintro e w7 ⟨rfl, rfl⟩) | (go_at_call 12; refine (q9 S2 _ _ _ _ (q9 B1) (q9 D6)).mono ?_; clear S2; rintro e w8 ⟨rfl, D8⟩) | (go_at_call 18; refine (q9 N2 _ _ (q9 D8)).mono ?_; clear N2; rintro e w9 ⟨rfl, rfl⟩) | (go_at_call 12; refine (q9 S3 _ _ _ _ (q9 B1) (q9 D8)).mono ?_; clear S3; rintro e w10 ⟨rfl, D10⟩) | (go_at_call 18; refine (q9 N3 _ _ (q9 D10)).mono ?_; clear N3; rintro e w11 ⟨rfl, rfl⟩) | (go_at_call 20; refine (q9 TB _).mono ?_; rintro e w12 ⟨rfl, rfl⟩))
          go_ret
          exact ⟨rfl, q9 FIN _ _ _ (q9 D10)⟩
      · obtain ⟨g1, g2⟩ := f2 hz
        subst g1 g2
        have hd : decide (e1 = 0) = false := decide_eq_false hz
        have hd' : (e1 != 0) = true := by simpa using hz
        clear f2 f3 TB
        go_wp2_with (first | (go_at_call 18; refine (q9 N0).mono ?_; clear N0; rintro e w4 ⟨rfl, rfl⟩) | (go_at_call 16; refine (q9 LV _ _ _ _ (q9 DA)).mono ?_; clear LV; rintro e w5 ⟨a5, c5, rfl, D5⟩) | (go_at_call 12; refine (q9 S1 _ _ _ _ (q9 B1) (q9 D5)).mono ?_; clear S1; rintro e w6 ⟨rfl, D6⟩) | (go_at_call 18; refine (q9 N1 _ _ (q9 D6)).mono ?_; clear N1; rintro e w7 ⟨rfl, rfl⟩) | (go_at_call 12; refine (q9 S2 _ _ _ _ (q9 B1) (q9 D6)).mono ?_; clear S2; rintro e w8 ⟨rfl, D8⟩) | (go_at_call 18; refine (q9 N2 _ _ (q9 D8)).mono ?_; clear N2; rintro e w9 ⟨rfl, rfl⟩) | (go_at_call 12; refine (q9 S3 _ _ _ _ (q9 B1) (q9 D8)).mono ?_; clear S3; rintro e w10 ⟨rfl, D10⟩) | (go_at_call 18; refine (q9 N3 _ _ (q9 D10)).mono ?_; clear N3; rintro e w11 ⟨rfl, rfl⟩))
        go_ret
        exact ⟨rfl, q9 FIN _ _ _ (q9 D10)⟩
end
section
open Go.ChangeShapes Go.WideShapes Go.ChangeAt Go.RowKit Go.Deep
theorem jm8 : Tryz.prog.cellsOf 69 = 4 := by kernel_rfl
theorem cellsBool : Tryz.prog.cellsOf 4 = 1 := by kernel_rfl
theorem cellsEv : Tryz.prog.cellsOf 23 = 1 := by kernel_rfl
theorem bytesSub : Tryz.prog.bytesOf 69 = 56 := by kernel_rfl
section
variable {H : Type} {enc : TypeId × Value → H}
set_option maxRecDepth 100000 in
theorem jj2 (tx : List UInt8) (k : Int) (f : Bool) (dv : DataW H) : (DataW.agg [.lit (.int .i64 k), .lit (.string tx), .lit (.bool f), dv] : DataW H).weights Tryz.prog 69 = tx.length :: dv.weights Tryz.prog 23 := by
  rw [DataW.weights, Tryz.underlying69]
  simp only [List.map, DataW.weightsEach, DataW.weights]
  simp
set_option maxRecDepth 100000 in
theorem open_sub {W : World} {n : Nat} {cs : List Value} {d : DataW H} {pl : List MemPlace} (h : DataW.trod enc Tryz.prog W 0 (fun _ => true) true n 69 cs = some (d, pl)) (hw : ∀ n ∈ d.weights Tryz.prog 69, n ≤ reachBytes) :
    ∃ x : Sc, cs = [.int .i64 x.id, .string (BS x.text), .bool x.fin, x.ev] ∧ ScOk W x := by
  obtain ⟨y0, y1, y2, y3, n1, hx, hl, t0, t1, t2, t3⟩ := Go.Joins.trod_struct4 Tryz.underlying69 h
  rw [jm8] at hl
  match cs, hl with
  | [c0, c1, c2, c3], _ =>
    simp only [jp8, vx2, cellsBool, cellsEv, List.drop, List.take] at t0 t1 t2 t3
    obtain ⟨k, h0, rfl, wk⟩ := DataW.trod_int Tryz.underlying3 t0
    obtain ⟨tx, h1, rfl, _⟩ := DataW.trod_string Tryz.underlying9 t1
    obtain ⟨f, h2, rfl⟩ := DataW.trod_bool Tryz.underlying4 t2
    obtain ⟨d3, p3⟩ := y3
    simp only [Prod.mk.injEq] at hx
    obtain ⟨rfl, rfl⟩ := hx
    rw [jj2] at hw
    have w1 := hw _ (List.mem_cons_self ..)
    obtain ⟨v, ps, hv, he, hg⟩ := vt1 t3 fun m hm => hw m (List.mem_cons_of_mem _ hm)
    simp only [List.cons.injEq, and_true] at h0 h1 h2 hv
    subst h0 h1 h2 hv
    unfold reachBytes at w1
    exact ⟨⟨k, tx.data.toList, f, ps, c3⟩, rfl, ⟨by show tx.data.toList.length ≤ _; omega, wf_rng wk, he, hg⟩⟩
set_option maxRecDepth 100000 in
theorem jk0 {W : World} {base : Nat} {v : Value} {d : DataW H} {pl : List MemPlace} (hval : Value.okWide Tryz.prog W .any base 22 v) (h : DataW.Trod enc Tryz.prog W 0 (fun _ => true) true 22 v d pl)
    (hw : ∀ n ∈ d.weights Tryz.prog 22, n ≤ reachBytes) : ∃ l, ScrAt W v l := by
  obtain ⟨fuel, ht⟩ := h
  obtain ⟨a0, len0, cap0, rfl⟩ := okWide_slice Tryz.underlying22 hval
  rcases open_slice Tryz.underlying22 ht with ⟨hc, hx⟩ | ⟨a, len, cap, m, n, D, Pl, hc, _, hl, hm, hmm, hx, hall⟩
  · simp [Value.cells] at hc
    obtain ⟨rfl, rfl, rfl⟩ := hc
    exact ⟨[], none, 0, rfl, Nat.zero_le _, fun i x hi => by simp at hi⟩
  · simp [Value.cells] at hc
    obtain ⟨rfl, rfl, rfl⟩ := hc
    simp only [if_true] at hmm
    subst hmm
    simp only [Prod.mk.injEq] at hx
    obtain ⟨rfl, rfl⟩ := hx
    rw [jm8] at hall
    have hwt := hw
    rw [DataW.weights, Tryz.underlying22] at hwt
    simp only [List.mem_cons, List.mem_append] at hwt
    have each : ∀ i, i < len0 → ∃ x : Sc, ScOk W x ∧ W.cell? (a.add (i * 4)) = some (.int .i64 x.id) ∧ W.cell? (a.add (i * 4 + 1)) = some (.string (BS x.text)) ∧ W.cell? (a.add (i * 4 + 2)) = some (.bool x.fin) ∧ W.cell? (a.add (i * 4 + 3)) = some x.ev := by
      intro i hi
      obtain ⟨cs', h1, h2⟩ := hall i (by omega)
      have hin : D i ∈ (List.range len0).map D := List.mem_map.2 ⟨i, List.mem_range.2 hi, rfl⟩
      obtain ⟨x, rfl, ok⟩ := open_sub h2 fun n hn => hwt n (.inr (.inl (vm0 hin n hn)))
      obtain ⟨_, _, hcell⟩ := World.cells?_some h1
      have c0 := hcell 0 (by decide)
      have c1 := hcell 1 (by decide)
      have c2 := hcell 2 (by decide)
      have c3 := hcell 3 (by decide)
      rw [add_add] at c0 c1 c2 c3
      exact ⟨x, ok, c0, c1, c2, c3⟩
    have inh : Inhabited Sc := ⟨⟨0, [], false, [], .slice none 0 0⟩⟩
    obtain ⟨f, hf⟩ := choose_lt each
    have hlen : ((List.range len0).map f).length = len0 := by rw [List.length_map, List.length_range]
    have hget : ∀ (k : Nat) (p : Sc), ((List.range len0).map f)[k]? = some p → k < len0 ∧ p = f k := by
      intro k p hk
      rw [List.getElem?_map] at hk
      cases hr : (List.range len0)[k]? with
      | none => rw [hr] at hk; cases hk
      | some j =>
        rw [hr] at hk
        obtain ⟨h1, h2⟩ := List.getElem?_eq_some_iff.1 hr
        rw [List.length_range] at h1
        rw [List.getElem_range] at h2
        subst h2
        exact ⟨h1, by simpa using hk.symm⟩
    refine ⟨(List.range len0).map f, some a, _, by rw [hlen], ?_, fun i x hi => ?_⟩
    · have := hwt _ (.inl rfl)
      rw [bytesSub, List.length_map, List.length_range] at this
      rw [hlen]
      unfold reachBytes at this
      omega
    · obtain ⟨h1, rfl⟩ := hget i x hi
      obtain ⟨ok, c0, c1, c2, c3⟩ := hf i h1
      obtain ⟨b, off, spot⟩ := a
      have hs : spot = none := by
        have := World.cell?_spot (hf 0 (by omega)).2.1
        simpa [Addr.add] using this
      subst hs
      have hadd : ∀ j, (⟨b, off, none⟩ : Addr).add j = ⟨b, off + j, none⟩ := by intro j; simp [Addr.add]
      rw [hadd] at c0 c1 c2 c3
      exact ⟨ok, b, off, rfl, block_lt_of_cell c0, c0, c1, c2, c3⟩
end
end
end Go.Proofs.YtfkcaldjphakpabGreatDoor
