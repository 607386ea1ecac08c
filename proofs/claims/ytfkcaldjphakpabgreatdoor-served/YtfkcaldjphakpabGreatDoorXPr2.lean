/- Program.Run: what it keeps in memory. -/
import Derived.Test.YtfkcaldjphakpabGreatDoorXPr1
import Derived.Test.YtfkcaldjphakpabGreatDoorM11
import Derived.Test.YtfkcaldjphakpabGreatDoorM31
namespace Go.Proofs.YtfkcaldjphakpabGreatDoor
open Go.RowKit

/-- What the first k terms are. -/
def valsK (ps : List Pr) (ts : List Tm) : Nat → List V
  | 0 => []
  | k + 1 => valsK ps ts k ++ [ofT ps (valsK ps ts k) (ts.getD k (.bare 0))]
/-- The numbers of the selectors that are true, of the first k. -/
def metK (vs : List V) (rs : List Nat) : Nat → List Nat
  | 0 => []
  | k + 1 => metK vs rs k ++ (if vs.getD (rs.getD k 0) nV = bV true then [k] else [])
def metR (ps : List Pr) (ts : List Tm) (rs : List Nat) : List Nat := metK (valsK ps ts ts.length) rs rs.length

theorem valsK_length (ps : List Pr) (ts : List Tm) (k : Nat) : (valsK ps ts k).length = k := by
  induction k with
  | zero => rfl
  | succ k ih => rw [valsK, List.length_append, ih]; rfl
theorem metK_length (vs : List V) (rs : List Nat) (k : Nat) : (metK vs rs k).length ≤ k := by
  induction k with
  | zero => exact Nat.le_refl _
  | succ k ih => rw [metK, List.length_append]; split <;> simp <;> omega
theorem metK_lt (vs : List V) (rs : List Nat) (k : Nat) : ∀ x ∈ metK vs rs k, x < k := by
  induction k with
  | zero => intro x hx; simp [metK] at hx
  | succ k ih =>
    intro x hx
    rw [metK, List.mem_append] at hx
    rcases hx with hx | hx
    · have := ih x hx; omega
    · split at hx
      · simp at hx; omega
      · simp at hx
def Gv (v : V) : Prop := Rng v.num ∧ Sh v
theorem gv_n : Gv nV := ⟨rng_n, sh_n⟩
theorem ofT_good {ps : List Pr} (h : EvRng ps) (hs : EvSh ps) {vs : List V} {k : Nat} {t : Tm} (ht : FitsT k t) : Gv (ofT ps vs t) := by
  unfold ofT
  split
  · refine ⟨rng_find h _, ?_⟩
    unfold findV
    split
    · rename_i p hp
      exact hs p (List.mem_of_find?_eq_some hp)
    · exact sh_n
  split
  · exact ⟨ht.num, sh_i _⟩
  split
  · exact ⟨rng0, by have := ht.str; show t.str.length ≤ 1000; omega⟩
  split
  · exact ⟨rng_b _, sh_b _⟩
  split
  · unfold likeV
    exact ⟨rng_ite (rng_b _) rng_n, sh_ite (sh_b _) sh_n⟩
  · exact ⟨rng_join _ _ _, sh_join _ _ _⟩
theorem valsK_good {ps : List Pr} (h : EvRng ps) (hs : EvSh ps) {ts : List Tm} (hf : ∀ i t, ts[i]? = some t → FitsT i t) (k : Nat) (hk : k ≤ ts.length) : ∀ i, Gv ((valsK ps ts k).getD i nV) := by
  induction k with
  | zero => intro i; exact gv_n
  | succ k ih =>
    intro i
    have ih := ih (by omega) i
    have hkl : ts[k]? = some ts[k] := List.getElem?_eq_getElem (by omega)
    rw [valsK, List.getD_eq_getElem?_getD]
    rw [List.getD_eq_getElem?_getD] at ih
    rcases Nat.lt_or_ge i k with hi | hi
    · rw [List.getElem?_append_left (by rw [valsK_length]; exact hi)]
      exact ih
    · rw [List.getElem?_append_right (by rw [valsK_length]; exact hi), valsK_length]
      rcases Nat.eq_zero_or_pos (i - k) with h0 | h0
      · rw [h0]
        show Gv (ofT _ _ _)
        rw [List.getD_eq_getElem?_getD, hkl]
        exact ofT_good h hs (hf k _ hkl)
      · rw [List.getElem?_eq_none (by simp; omega)]
        exact gv_n

theorem tof_any {w : World} {ps : List Pr} {ev : Value} {vb n c k : Nat} {vs : List V} {t : Tm} (hev : EvArg w ev ps) (hv : ValsAt w vb n vs) (hlt : vb < w.heap.size) (hg : ∀ i, Gv (vs.getD i nV)) (ht : FitsT k t) (hk : k ≤ n) : TofOk w ps ev (.slice (some ⟨vb, 0, none⟩) n c) vs t := by
  have hsl := hev.slice
  by_cases h0 : t.op = 0
  · exact tof_0 w ps ev _ n c vs t hev h0
  by_cases h1 : t.op = 1
  · exact tof_1 w ps ev _ n c vs t hev h1
  by_cases h2 : t.op = 2
  · exact tof_2 w ps ev _ n c vs t hev h2
  by_cases h3 : t.op = 3
  · exact tof_3 w ps ev _ n c vs t hev h3
  by_cases h4 : t.op = 4
  · exact tof_4 w ps ev _ n c vs t hev h4
  have hsd := ht.sides (by omega)
  by_cases h22 : t.op = 22
  · exact tof_22 w ps ev vb n c vs t hsl hv hlt (by omega) ht.str (hg _).2 h22
  · exact tof_x w ps ev vb n c vs t hsl hv hlt (by omega) (by omega) (hg _).1 (hg _).1 h0 h1 h2 h3 h4 h22

theorem info_value : (Tryz.prog.info? 118).map (fun i => (i.zero, i.size, i.bytes)) = some (some (.agg #[.int .i64 0, .int .i64 0, .string ⟨#[]⟩]), 3, 32) := by kernel_rfl

/-- The row of values while Run works it out. -/
structure RunAt (w wr : World) (vb n : Nat) (vs : List V) : Prop where
  vals : ValsAt wr vb n vs
  fz : ∀ j, wr.frozen? ⟨vb, j, none⟩ = false
  ge : w.heap.size ≤ vb
  lt : vb < wr.heap.size
  bel : Below w.heap.size w wr

theorem RunAt.next {w wr w' : World} {vb n : Nat} {vs : List V} (h : RunAt w wr vb n vs) (hb : Below wr.heap.size wr w') : RunAt w w' vb n vs :=
  ⟨h.vals.below hb h.lt, fun j => (hb.frozen (p := ⟨vb, j, none⟩) h.lt).trans (h.fz j), h.ge, Nat.lt_of_lt_of_le h.lt hb.size, below_any h.bel hb⟩

theorem RunAt.made {w w1 : World} {n : Nat} (h : w1.ownsRow w.heap.size 118 3 (.slice (some ⟨w.heap.size, 0, none⟩) n n) n (madeCells (Value.agg #[.int .i64 0, .int .i64 0, .string ⟨#[]⟩]).cells (n * 3)).toList) (hg : w.grownBy w1 none) : RunAt w w1 w.heap.size n [] := by
  have hl := h.lt w.heap.size rfl
  refine ⟨fun i hi => ?_, fun j => ?_, Nat.le_refl _, hl.2, ⟨hg.os, hg.tape, hg.output, hg.size, fun k hk => hg.block k hk (by simp)⟩⟩
  · have hc := h.cells (g := w.heap.size) rfl
    have hadd : ∀ j, (⟨w.heap.size, 0, none⟩ : Addr).add j = ⟨w.heap.size, j, none⟩ := fun j => by unfold Addr.add; split <;> simp_all
    have hm : ∀ j, j < 3 → (madeCells (Value.agg #[.int .i64 0, .int .i64 0, .string ⟨#[]⟩]).cells (n * 3)).toList[i * 3 + j]? = ([.int .i64 0, .int .i64 0, .string ⟨#[]⟩] : List Value)[j]? := by
      intro j hj
      have h1 : i * 3 + j < n * 3 := by omega
      have h2 : (i * 3 + j) % 3 = j := by omega
      have hcs : (Value.agg #[.int .i64 0, .int .i64 0, .string ⟨#[]⟩]).cells = #[.int .i64 0, .int .i64 0, .string ⟨#[]⟩] := by rfl
      rw [hcs]
      simp [madeCells, h1, h2]
      match j, hj with
      | 0, _ => rfl
      | 1, _ => rfl
      | 2, _ => rfl
    refine ⟨?_, ?_, ?_⟩
    · have := hc (i * 3 + 0) _ (hm 0 (by decide)); rwa [hadd] at this
    · have := hc (i * 3 + 1) _ (hm 1 (by decide)); rwa [hadd] at this
    · have := hc (i * 3 + 2) _ (hm 2 (by decide)); rwa [hadd] at this
  · rcases h.2 with ⟨hv, _⟩ | ⟨g, cap, cur, hv, _, hgg, _⟩
    · simp at hv
    · simp at hv
      obtain ⟨rfl, _⟩ := hv
      simp [World.frozen?, hgg]

theorem RunAt.store {w wr : World} {vb n k : Nat} {vs : List V} (h : RunAt w wr vb n vs) (hl : vs.length = k) (hk : k < n) (x : V) :
    RunAt w (((wr.setCell ⟨vb, k * 3, none⟩ (.int .i64 x.kind)).setCell ⟨vb, k * 3 + 1, none⟩ (.int .i64 x.num)).setCell ⟨vb, k * 3 + 2, none⟩ (.string (BS x.str))) vb n (vs ++ [x]) := by
  have hge := h.ge
  refine ⟨fun i hi => ?_, fun j => by simp [go_sem, h.fz], hge, by have := h.lt; simpa using this, ((h.bel.setCell (by exact hge) _).setCell (by exact hge) _).setCell (by exact hge) _⟩
  obtain ⟨a0, a1, a2⟩ := h.vals k hk
  by_cases he : i = k
  · subst he
    have hx : (vs ++ [x]).getD i nV = x := by rw [List.getD_eq_getElem?_getD, List.getElem?_append_right (by omega), hl, Nat.sub_self]; rfl
    rw [hx]
    refine ⟨?_, ?_, ?_⟩ <;> simp [go_sem, a0, a1, a2]
  · have hx : (vs ++ [x]).getD i nV = vs.getD i nV := by
      rw [List.getD_eq_getElem?_getD, List.getD_eq_getElem?_getD]
      rcases Nat.lt_or_ge i k with h1 | h1
      · rw [List.getElem?_append_left (by omega)]
      · rw [List.getElem?_eq_none (by simp; omega), List.getElem?_eq_none (by omega)]
    rw [hx]
    obtain ⟨b0, b1, b2⟩ := h.vals i hi
    have e00 : ¬ i * 3 = k * 3 := by omega
    have e01 : ¬ i * 3 = k * 3 + 1 := by omega
    have e02 : ¬ i * 3 = k * 3 + 2 := by omega
    have e10 : ¬ i * 3 + 1 = k * 3 := by omega
    have e11 : ¬ i * 3 + 1 = k * 3 + 1 := by omega
    have e12 : ¬ i * 3 + 1 = k * 3 + 2 := by omega
    have e20 : ¬ i * 3 + 2 = k * 3 := by omega
    have e21 : ¬ i * 3 + 2 = k * 3 + 1 := by omega
    have e22 : ¬ i * 3 + 2 = k * 3 + 2 := by omega
    refine ⟨?_, ?_, ?_⟩
    · simp [go_sem, b0]
    · simp [go_sem, b1]
    · simp [go_sem, b2]

theorem TsAt.cells {w : World} {base : Nat} {v : Value} {ts : List Tm} (h : TsAt w base v ts) : ∃ a c, v = .slice a ts.length c ∧ ∀ (k : Nat) (t : Tm), ts[k]? = some t → ∃ g, a = some ⟨g, 0, none⟩ ∧ g < w.heap.size ∧
    w.cell? ⟨g, k * 6, none⟩ = some (.int .i64 t.op) ∧ w.cell? ⟨g, k * 6 + 1, none⟩ = some (.int .i64 t.left) ∧ w.cell? ⟨g, k * 6 + 2, none⟩ = some (.int .i64 t.right) ∧ w.cell? ⟨g, k * 6 + 3, none⟩ = some (.int .i64 t.num) ∧ w.cell? ⟨g, k * 6 + 4, none⟩ = some (.string (BS t.str)) ∧ w.cell? ⟨g, k * 6 + 5, none⟩ = some (.string (BS t.esc)) := by
  have h0 := h
  rcases h.2 with ⟨rfl, hn⟩ | ⟨g, cap, cur, rfl, hbg, hgg, _⟩
  · refine ⟨none, 0, by rw [hn], fun k t hk => ?_⟩
    have := (List.getElem?_eq_some_iff.1 hk).1
    omega
  · refine ⟨_, cap, rfl, fun k t hk => ⟨g, rfl, (Array.getElem?_eq_some_iff.1 hgg).1, ?_⟩⟩
    have hadd : ∀ j, (⟨g, 0, none⟩ : Addr).add j = ⟨g, j, none⟩ := fun j => by unfold Addr.add; split <;> simp_all
    have hc : ∀ j u, (tmCells t)[j]? = some u → w.cell? ⟨g, k * 6 + j, none⟩ = some u := fun j u hj => by
      have := World.ownsRow.cells h0 (g := g) rfl (k * 6 + j) u (tmsCells_get hk hj)
      rwa [hadd] at this
    exact ⟨hc 0 _ rfl, hc 1 _ rfl, hc 2 _ rfl, hc 3 _ rfl, hc 4 _ rfl, hc 5 _ rfl⟩

theorem IsAt.cells {w : World} {base : Nat} {v : Value} {l : List Nat} (h : IsAt w base v l) : ∃ a c, v = .slice a l.length c ∧ ∀ (k : Nat) (x : Nat), l[k]? = some x → ∃ g, a = some ⟨g, 0, none⟩ ∧ g < w.heap.size ∧ w.cell? ⟨g, k, none⟩ = some (.int .i64 x) := by
  have h0 := h
  rcases h.2 with ⟨rfl, hn⟩ | ⟨g, cap, cur, rfl, hbg, hgg, _⟩
  · refine ⟨none, 0, by rw [hn], fun k t hk => ?_⟩
    have := (List.getElem?_eq_some_iff.1 hk).1
    omega
  · refine ⟨_, cap, rfl, fun k x hk => ⟨g, rfl, (Array.getElem?_eq_some_iff.1 hgg).1, ?_⟩⟩
    have hadd : ∀ j, (⟨g, 0, none⟩ : Addr).add j = ⟨g, j, none⟩ := fun j => by unfold Addr.add; split <;> simp_all
    have := World.ownsRow.cells h0 (g := g) rfl k (.int .i64 x) (by simp [intCells, hk])
    rwa [hadd] at this
end Go.Proofs.YtfkcaldjphakpabGreatDoor
