/- Program.Run: what it keeps in memory. -/
import Derived.Test.YtfkcaldjphakpabGreatDoorYPr1
import Derived.Test.YtfkcaldjphakpabGreatDoorN13
import Derived.Test.YtfkcaldjphakpabGreatDoorN24
namespace Go.Proofs.YtfkcaldjphakpabGreatDoor
open Go.RowKit

/-- The row of values while Run works it out. -/
structure RunAt (w wr : World) (vb n : Nat) (vs : List V) : Prop where
  vals : ValsAt wr vb n vs
  fz : ∀ j, wr.frozen? ⟨vb, j, none⟩ = false
  ge : w.heap.size ≤ vb
  lt : vb < wr.heap.size
  bel : Below w.heap.size w wr

theorem RunAt.next {w wr w' : World} {vb n : Nat} {vs : List V} (h : RunAt w wr vb n vs) (hb : Below wr.heap.size wr w') : RunAt w w' vb n vs :=
  ⟨h.vals.below hb h.lt, fun j => (hb.frozen (p := ⟨vb, j, none⟩) h.lt).trans (h.fz j), h.ge, Nat.lt_of_lt_of_le h.lt hb.size, below_any h.bel hb⟩

theorem RunAt.made {w w1 : World} {n : Nat} (h : w1.ownsRow w.heap.size 118 3 (.slice (some ⟨w.heap.size, 0, none⟩) n n) n (madeCells (Value.agg #[.int .i64 0, .int .i64 0, .string ⟨#[]⟩]).cells (n * 3)).toList) (hg : w.grownBy w1 none) : RunAt w w1 w.heap.size n [] := by
  have hl := h.lt w.heap.size rfl
  refine ⟨fun i hi => ?_, fun j => ?_, Nat.le_refl _, hl.2, ⟨hg.os, hg.tape, hg.output, hg.size, fun k hk => hg.block k hk (by simp)⟩⟩
  · have hc := h.cells (g := w.heap.size) rfl
    have hadd : ∀ j, (⟨w.heap.size, 0, none⟩ : Addr).add j = ⟨w.heap.size, j, none⟩ := fun j => by unfold Addr.add; split <;> simp_all
    have hm : ∀ j, j < 3 → (madeCells (Value.agg #[.int .i64 0, .int .i64 0, .string ⟨#[]⟩]).cells (n * 3)).toList[i * 3 + j]? = ([.int .i64 0, .int .i64 0, .string ⟨#[]⟩] : List Value)[j]? := by
      intro j hj
      have h1 : i * 3 + j < n * 3 := by omega
      have h2 : (i * 3 + j) % 3 = j := by omega
      have hcs : (Value.agg #[.int .i64 0, .int .i64 0, .string ⟨#[]⟩]).cells = #[.int .i64 0, .int .i64 0, .string ⟨#[]⟩] := by rfl
      rw [hcs]
      simp [madeCells, h1, h2]
      match j, hj with
      | 0, _ => rfl
      | 1, _ => rfl
      | 2, _ => rfl
    refine ⟨?_, ?_, ?_⟩
    · have := hc (i * 3 + 0) _ (hm 0 (by decide)); rwa [hadd] at this
    · have := hc (i * 3 + 1) _ (hm 1 (by decide)); rwa [hadd] at this
    · have := hc (i * 3 + 2) _ (hm 2 (by decide)); rwa [hadd] at this
  · rcases h.2 with ⟨hv, _⟩ | ⟨g, cap, cur, hv, _, hgg, _⟩
    · simp at hv
    · simp at hv
      obtain ⟨rfl, _⟩ := hv
      simp [World.frozen?, hgg]

theorem RunAt.store {w wr : World} {vb n k : Nat} {vs : List V} (h : RunAt w wr vb n vs) (hl : vs.length = k) (hk : k < n) (x : V) :
    RunAt w (((wr.setCell ⟨vb, k * 3, none⟩ (.int .i64 x.kind)).setCell ⟨vb, k * 3 + 1, none⟩ (.int .i64 x.num)).setCell ⟨vb, k * 3 + 2, none⟩ (.string (BS x.str))) vb n (vs ++ [x]) := by
  have hge := h.ge
  refine ⟨fun i hi => ?_, fun j => by simp [go_sem, h.fz], hge, by have := h.lt; simpa using this, ((h.bel.setCell (by exact hge) _).setCell (by exact hge) _).setCell (by exact hge) _⟩
  obtain ⟨a0, a1, a2⟩ := h.vals k hk
  by_cases he : i = k
  · subst he
    have hx : (vs ++ [x]).getD i nV = x := by rw [List.getD_eq_getElem?_getD, List.getElem?_append_right (by omega), hl, Nat.sub_self]; rfl
    rw [hx]
    refine ⟨?_, ?_, ?_⟩ <;> simp [go_sem, a0, a1, a2]
  · have hx : (vs ++ [x]).getD i nV = vs.getD i nV := by
      rw [List.getD_eq_getElem?_getD, List.getD_eq_getElem?_getD]
      rcases Nat.lt_or_ge i k with h1 | h1
      · rw [List.getElem?_append_left (by omega)]
      · rw [List.getElem?_eq_none (by simp; omega), List.getElem?_eq_none (by omega)]
    rw [hx]
    obtain ⟨b0, b1, b2⟩ := h.vals i hi
    have e00 : ¬ i * 3 = k * 3 := by omega
    have e01 : ¬ i * 3 = k * 3 + 1 := by omega
    have e02 : ¬ i * 3 = k * 3 + 2 := by omega
    have e10 : ¬ i * 3 + 1 = k * 3 := by omega
    have e11 : ¬ i * 3 + 1 = k * 3 + 1 := by omega
    have e12 : ¬ i * 3 + 1 = k * 3 + 2 := by omega
    have e20 : ¬ i * 3 + 2 = k * 3 := by omega
    have e21 : ¬ i * 3 + 2 = k * 3 + 1 := by omega
    have e22 : ¬ i * 3 + 2 = k * 3 + 2 := by omega
    refine ⟨?_, ?_, ?_⟩
    · simp [go_sem, b0]
    · simp [go_sem, b1]
    · simp [go_sem, b2]

theorem TsAt.cells {w : World} {base : Nat} {v : Value} {ts : List Tm} (h : TsAt w base v ts) : ∃ a c, v = .slice a ts.length c ∧ ∀ (k : Nat) (t : Tm), ts[k]? = some t → ∃ g, a = some ⟨g, 0, none⟩ ∧ g < w.heap.size ∧
    w.cell? ⟨g, k * 6, none⟩ = some (.int .i64 t.op) ∧ w.cell? ⟨g, k * 6 + 1, none⟩ = some (.int .i64 t.left) ∧ w.cell? ⟨g, k * 6 + 2, none⟩ = some (.int .i64 t.right) ∧ w.cell? ⟨g, k * 6 + 3, none⟩ = some (.int .i64 t.num) ∧ w.cell? ⟨g, k * 6 + 4, none⟩ = some (.string (BS t.str)) ∧ w.cell? ⟨g, k * 6 + 5, none⟩ = some (.string (BS t.esc)) := by
  have h0 := h
  rcases h.2 with ⟨rfl, hn⟩ | ⟨g, cap, cur, rfl, hbg, hgg, _⟩
  · refine ⟨none, 0, by rw [hn], fun k t hk => ?_⟩
    have := (List.getElem?_eq_some_iff.1 hk).1
    omega
  · refine ⟨_, cap, rfl, fun k t hk => ⟨g, rfl, (Array.getElem?_eq_some_iff.1 hgg).1, ?_⟩⟩
    have hadd : ∀ j, (⟨g, 0, none⟩ : Addr).add j = ⟨g, j, none⟩ := fun j => by unfold Addr.add; split <;> simp_all
    have hc : ∀ j u, (tmCells t)[j]? = some u → w.cell? ⟨g, k * 6 + j, none⟩ = some u := fun j u hj => by
      have := World.ownsRow.cells h0 (g := g) rfl (k * 6 + j) u (tmsCells_get hk hj)
      rwa [hadd] at this
    exact ⟨hc 0 _ rfl, hc 1 _ rfl, hc 2 _ rfl, hc 3 _ rfl, hc 4 _ rfl, hc 5 _ rfl⟩

theorem IsAt.cells {w : World} {base : Nat} {v : Value} {l : List Nat} (h : IsAt w base v l) : ∃ a c, v = .slice a l.length c ∧ ∀ (k : Nat) (x : Nat), l[k]? = some x → ∃ g, a = some ⟨g, 0, none⟩ ∧ g < w.heap.size ∧ w.cell? ⟨g, k, none⟩ = some (.int .i64 x) := by
  have h0 := h
  rcases h.2 with ⟨rfl, hn⟩ | ⟨g, cap, cur, rfl, hbg, hgg, _⟩
  · refine ⟨none, 0, by rw [hn], fun k t hk => ?_⟩
    have := (List.getElem?_eq_some_iff.1 hk).1
    omega
  · refine ⟨_, cap, rfl, fun k x hk => ⟨g, rfl, (Array.getElem?_eq_some_iff.1 hgg).1, ?_⟩⟩
    have hadd : ∀ j, (⟨g, 0, none⟩ : Addr).add j = ⟨g, j, none⟩ := fun j => by unfold Addr.add; split <;> simp_all
    have := World.ownsRow.cells h0 (g := g) rfl k (.int .i64 x) (by simp [intCells, hk])
    rwa [hadd] at this
end Go.Proofs.YtfkcaldjphakpabGreatDoor
