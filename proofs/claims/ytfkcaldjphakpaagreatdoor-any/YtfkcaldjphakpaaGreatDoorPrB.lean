/- Program.Run: what it keeps in memory. Program.Run of any program that may be run. sameInts of two lists that are alike. sieve.Run of any bytes and any event. Any, of any bytes and any list of properties. -/
import Derived.Test.YtfkcaldjphakpaaGreatDoorPrA
import Derived.Test.YtfkcaldjphakpaaGreatDoorPmC
import Derived.Test.YtfkcaldjphakpaaGreatDoorLoA
import Derived.Test.YtfkcaldjphakpaaGreatDoorValB
import Derived.Deep.RegionWith
import Derived.Deep.QuietTactic
import Derived.BigQuiet
namespace Go.Proofs.YtfkcaldjphakpaaGreatDoor
open Go.RowKit

section
/-- What the first k terms are. -/
def valsK (ps : List Pr) (ts : List Tm) : Nat → List V
  | 0 => []
  | k + 1 => valsK ps ts k ++ [ofT ps (valsK ps ts k) (ts.getD k (.bare 0))]
/-- The numbers of the selectors that are true, of the first k. -/
def metK (vs : List V) (rs : List Nat) : Nat → List Nat
  | 0 => []
  | k + 1 => metK vs rs k ++ (if vs.getD (rs.getD k 0) nV = bV true then [k] else [])
def metR (ps : List Pr) (ts : List Tm) (rs : List Nat) : List Nat := metK (valsK ps ts ts.length) rs rs.length

theorem valsK_length (ps : List Pr) (ts : List Tm) (k : Nat) : (valsK ps ts k).length = k := by
  induction k with
  | zero => rfl
  | succ k ih => rw [valsK, List.length_append, ih]; rfl
theorem metK_length (vs : List V) (rs : List Nat) (k : Nat) : (metK vs rs k).length ≤ k := by
  induction k with
  | zero => exact Nat.le_refl _
  | succ k ih => rw [metK, List.length_append]; split <;> simp <;> omega
theorem metK_lt (vs : List V) (rs : List Nat) (k : Nat) : ∀ x ∈ metK vs rs k, x < k := by
  induction k with
  | zero => intro x hx; simp [metK] at hx
  | succ k ih =>
    intro x hx
    rw [metK, List.mem_append] at hx
    rcases hx with hx | hx
    · have := ih x hx; omega
    · split at hx
      · simp at hx; omega
      · simp at hx
theorem metK_rising (vs : List V) (rs : List Nat) (k : Nat) : (metK vs rs k).Pairwise (· < ·) := by
  induction k with
  | zero => simp [metK]
  | succ k ih =>
    rw [metK, List.pairwise_append]
    refine ⟨ih, ?_, fun x hx y hy => ?_⟩
    · split <;> simp
    · have := metK_lt vs rs k x hx
      split at hy
      · simp at hy; omega
      · simp at hy

def Gv (v : V) : Prop := Rng v.num ∧ Sh v
theorem gv_n : Gv nV := ⟨rng_n, sh_n⟩
theorem ofT_good {ps : List Pr} (h : EvRng ps) (hs : EvSh ps) {vs : List V} {k : Nat} {t : Tm} (ht : FitsT k t) : Gv (ofT ps vs t) := by
  unfold ofT
  split
  · refine ⟨rng_find h _, ?_⟩
    unfold findV
    split
    · rename_i p hp
      exact hs p (List.mem_of_find?_eq_some hp)
    · exact sh_n
  split
  · exact ⟨ht.num, sh_i _⟩
  split
  · exact ⟨rng0, by have := ht.str; show t.str.length ≤ 1000; omega⟩
  split
  · exact ⟨rng_b _, sh_b _⟩
  split
  · unfold likeV
    exact ⟨rng_ite (rng_b _) rng_n, sh_ite (sh_b _) sh_n⟩
  · exact ⟨rng_join _ _ _, sh_join _ _ _⟩
theorem valsK_good {ps : List Pr} (h : EvRng ps) (hs : EvSh ps) {ts : List Tm} (hf : ∀ i t, ts[i]? = some t → FitsT i t) (k : Nat) (hk : k ≤ ts.length) : ∀ i, Gv ((valsK ps ts k).getD i nV) := by
  induction k with
  | zero => intro i; exact gv_n
  | succ k ih =>
    intro i
    have ih := ih (by omega) i
    have hkl : ts[k]? = some ts[k] := List.getElem?_eq_getElem (by omega)
    rw [valsK, List.getD_eq_getElem?_getD]
    rw [List.getD_eq_getElem?_getD] at ih
    rcases Nat.lt_or_ge i k with hi | hi
    · rw [List.getElem?_append_left (by rw [valsK_length]; exact hi)]
      exact ih
    · rw [List.getElem?_append_right (by rw [valsK_length]; exact hi), valsK_length]
      rcases Nat.eq_zero_or_pos (i - k) with h0 | h0
      · rw [h0]
        show Gv (ofT _ _ _)
        rw [List.getD_eq_getElem?_getD, hkl]
        exact ofT_good h hs (hf k _ hkl)
      · rw [List.getElem?_eq_none (by simp; omega)]
        exact gv_n

theorem tof_any {w : World} {ps : List Pr} {ev : Value} {vb n c k : Nat} {vs : List V} {t : Tm} (hev : EvArg w ev ps) (hv : ValsAt w vb n vs) (hlt : vb < w.heap.size) (hg : ∀ i, Gv (vs.getD i nV)) (ht : FitsT k t) (hk : k ≤ n) : TofOk w ps ev (.slice (some ⟨vb, 0, none⟩) n c) vs t := by
  have hsl := hev.slice
  by_cases h0 : t.op = 0
  · exact tof_0 w ps ev _ n c vs t hev h0
  by_cases h1 : t.op = 1
  · exact tof_1 w ps ev _ n c vs t hev h1
  by_cases h2 : t.op = 2
  · exact tof_2 w ps ev _ n c vs t hev h2
  by_cases h3 : t.op = 3
  · exact tof_3 w ps ev _ n c vs t hev h3
  by_cases h4 : t.op = 4
  · exact tof_4 w ps ev _ n c vs t hev h4
  have hsd := ht.sides (by omega)
  by_cases h22 : t.op = 22
  · exact tof_22 w ps ev vb n c vs t hsl hv hlt (by omega) ht.str (hg _).2 h22
  · exact tof_x w ps ev vb n c vs t hsl hv hlt (by omega) (by omega) (hg _).1 (hg _).1 h0 h1 h2 h3 h4 h22

theorem info_value : (Tryz.prog.info? 26).map (fun i => (i.zero, i.size, i.bytes)) = some (some (.agg #[.int .i64 0, .int .i64 0, .string ⟨#[]⟩]), 3, 32) := by kernel_rfl

/-- The row of values while Run works it out. -/
structure RunAt (w wr : World) (vb n : Nat) (vs : List V) : Prop where
  vals : ValsAt wr vb n vs
  fz : ∀ j, wr.frozen? ⟨vb, j, none⟩ = false
  ge : w.heap.size ≤ vb
  lt : vb < wr.heap.size
  bel : Below w.heap.size w wr

theorem RunAt.next {w wr w' : World} {vb n : Nat} {vs : List V} (h : RunAt w wr vb n vs) (hb : Below wr.heap.size wr w') : RunAt w w' vb n vs :=
  ⟨h.vals.below hb h.lt, fun j => (hb.frozen (p := ⟨vb, j, none⟩) h.lt).trans (h.fz j), h.ge, Nat.lt_of_lt_of_le h.lt hb.size, below_any h.bel hb⟩

theorem RunAt.made {w w1 : World} {n : Nat} (h : w1.ownsRow w.heap.size 26 3 (.slice (some ⟨w.heap.size, 0, none⟩) n n) n (madeCells (Value.agg #[.int .i64 0, .int .i64 0, .string ⟨#[]⟩]).cells (n * 3)).toList) (hg : w.grownBy w1 none) : RunAt w w1 w.heap.size n [] := by
  have hl := h.lt w.heap.size rfl
  refine ⟨fun i hi => ?_, fun j => ?_, Nat.le_refl _, hl.2, ⟨hg.os, hg.tape, hg.output, hg.size, fun k hk => hg.block k hk (by simp)⟩⟩
  · have hc := h.cells (g := w.heap.size) rfl
    have hadd : ∀ j, (⟨w.heap.size, 0, none⟩ : Addr).add j = ⟨w.heap.size, j, none⟩ := fun j => by unfold Addr.add; split <;> simp_all
    have hm : ∀ j, j < 3 → (madeCells (Value.agg #[.int .i64 0, .int .i64 0, .string ⟨#[]⟩]).cells (n * 3)).toList[i * 3 + j]? = ([.int .i64 0, .int .i64 0, .string ⟨#[]⟩] : List Value)[j]? := by
      intro j hj
      have h1 : i * 3 + j < n * 3 := by omega
      have h2 : (i * 3 + j) % 3 = j := by omega
      have hcs : (Value.agg #[.int .i64 0, .int .i64 0, .string ⟨#[]⟩]).cells = #[.int .i64 0, .int .i64 0, .string ⟨#[]⟩] := by rfl
      rw [hcs]
      simp [madeCells, h1, h2]
      match j, hj with
      | 0, _ => rfl
      | 1, _ => rfl
      | 2, _ => rfl
    refine ⟨?_, ?_, ?_⟩
    · have := hc (i * 3 + 0) _ (hm 0 (by decide)); rwa [hadd] at this
    · have := hc (i * 3 + 1) _ (hm 1 (by decide)); rwa [hadd] at this
    · have := hc (i * 3 + 2) _ (hm 2 (by decide)); rwa [hadd] at this
  · rcases h.2 with ⟨hv, _⟩ | ⟨g, cap, cur, hv, _, hgg, _⟩
    · simp at hv
    · simp at hv
      obtain ⟨rfl, _⟩ := hv
      simp [World.frozen?, hgg]

theorem RunAt.store {w wr : World} {vb n k : Nat} {vs : List V} (h : RunAt w wr vb n vs) (hl : vs.length = k) (hk : k < n) (x : V) :
    RunAt w (((wr.setCell ⟨vb, k * 3, none⟩ (.int .i64 x.kind)).setCell ⟨vb, k * 3 + 1, none⟩ (.int .i64 x.num)).setCell ⟨vb, k * 3 + 2, none⟩ (.string (BS x.str))) vb n (vs ++ [x]) := by
  have hge := h.ge
  refine ⟨fun i hi => ?_, fun j => by simp [go_sem, h.fz], hge, by have := h.lt; simpa using this, ((h.bel.setCell (by exact hge) _).setCell (by exact hge) _).setCell (by exact hge) _⟩
  obtain ⟨a0, a1, a2⟩ := h.vals k hk
  by_cases he : i = k
  · subst he
    have hx : (vs ++ [x]).getD i nV = x := by rw [List.getD_eq_getElem?_getD, List.getElem?_append_right (by omega), hl, Nat.sub_self]; rfl
    rw [hx]
    refine ⟨?_, ?_, ?_⟩ <;> simp [go_sem, a0, a1, a2]
  · have hx : (vs ++ [x]).getD i nV = vs.getD i nV := by
      rw [List.getD_eq_getElem?_getD, List.getD_eq_getElem?_getD]
      rcases Nat.lt_or_ge i k with h1 | h1
      · rw [List.getElem?_append_left (by omega)]
      · rw [List.getElem?_eq_none (by simp; omega), List.getElem?_eq_none (by omega)]
    rw [hx]
    obtain ⟨b0, b1, b2⟩ := h.vals i hi
    have e00 : ¬ i * 3 = k * 3 := by omega
    have e01 : ¬ i * 3 = k * 3 + 1 := by omega
    have e02 : ¬ i * 3 = k * 3 + 2 := by omega
    have e10 : ¬ i * 3 + 1 = k * 3 := by omega
    have e11 : ¬ i * 3 + 1 = k * 3 + 1 := by omega
    have e12 : ¬ i * 3 + 1 = k * 3 + 2 := by omega
    have e20 : ¬ i * 3 + 2 = k * 3 := by omega
    have e21 : ¬ i * 3 + 2 = k * 3 + 1 := by omega
    have e22 : ¬ i * 3 + 2 = k * 3 + 2 := by omega
    refine ⟨?_, ?_, ?_⟩
    · simp [go_sem, b0]
    · simp [go_sem, b1]
    · simp [go_sem, b2]

theorem TsAt.cells {w : World} {base : Nat} {v : Value} {ts : List Tm} (h : TsAt w base v ts) : ∃ a c, v = .slice a ts.length c ∧ ∀ (k : Nat) (t : Tm), ts[k]? = some t → ∃ g, a = some ⟨g, 0, none⟩ ∧ g < w.heap.size ∧
    w.cell? ⟨g, k * 6, none⟩ = some (.int .i64 t.op) ∧ w.cell? ⟨g, k * 6 + 1, none⟩ = some (.int .i64 t.left) ∧ w.cell? ⟨g, k * 6 + 2, none⟩ = some (.int .i64 t.right) ∧ w.cell? ⟨g, k * 6 + 3, none⟩ = some (.int .i64 t.num) ∧ w.cell? ⟨g, k * 6 + 4, none⟩ = some (.string (BS t.str)) ∧ w.cell? ⟨g, k * 6 + 5, none⟩ = some (.string (BS t.esc)) := by
  have h0 := h
  rcases h.2 with ⟨rfl, hn⟩ | ⟨g, cap, cur, rfl, hbg, hgg, _⟩
  · refine ⟨none, 0, by rw [hn], fun k t hk => ?_⟩
    have := (List.getElem?_eq_some_iff.1 hk).1
    omega
  · refine ⟨_, cap, rfl, fun k t hk => ⟨g, rfl, (Array.getElem?_eq_some_iff.1 hgg).1, ?_⟩⟩
    have hadd : ∀ j, (⟨g, 0, none⟩ : Addr).add j = ⟨g, j, none⟩ := fun j => by unfold Addr.add; split <;> simp_all
    have hc : ∀ j u, (tmCells t)[j]? = some u → w.cell? ⟨g, k * 6 + j, none⟩ = some u := fun j u hj => by
      have := World.ownsRow.cells h0 (g := g) rfl (k * 6 + j) u (tmsCells_get hk hj)
      rwa [hadd] at this
    exact ⟨hc 0 _ rfl, hc 1 _ rfl, hc 2 _ rfl, hc 3 _ rfl, hc 4 _ rfl, hc 5 _ rfl⟩

theorem IsAt.cells {w : World} {base : Nat} {v : Value} {l : List Nat} (h : IsAt w base v l) : ∃ a c, v = .slice a l.length c ∧ ∀ (k : Nat) (x : Nat), l[k]? = some x → ∃ g, a = some ⟨g, 0, none⟩ ∧ g < w.heap.size ∧ w.cell? ⟨g, k, none⟩ = some (.int .i64 x) := by
  have h0 := h
  rcases h.2 with ⟨rfl, hn⟩ | ⟨g, cap, cur, rfl, hbg, hgg, _⟩
  · refine ⟨none, 0, by rw [hn], fun k t hk => ?_⟩
    have := (List.getElem?_eq_some_iff.1 hk).1
    omega
  · refine ⟨_, cap, rfl, fun k x hk => ⟨g, rfl, (Array.getElem?_eq_some_iff.1 hgg).1, ?_⟩⟩
    have hadd : ∀ j, (⟨g, 0, none⟩ : Addr).add j = ⟨g, j, none⟩ := fun j => by unfold Addr.add; split <;> simp_all
    have := World.ownsRow.cells h0 (g := g) rfl k (.int .i64 x) (by simp [intCells, hk])
    rwa [hadd] at this
end

section
attribute [local go_sem ↓] app_fold

/-- How Run ends. -/
def RunEnds (w : World) (l : List Nat) (e : Ending) (w' : World) : Prop := ∃ v, e = .returned v ∧ IsAt w' w.heap.size v l ∧ Below w.heap.size w w'

theorem IsAt.mono {w : World} {lo hi : Nat} {v : Value} {l : List Nat} (h : IsAt w hi v l) (hl : lo ≤ hi) : IsAt w lo v l := by
  refine ⟨h.1, ?_⟩
  rcases h.2 with hn | ⟨g, cap, cur, rfl, hbg, rest⟩
  · exact .inl hn
  · exact .inr ⟨g, cap, cur, rfl, by omega, rest⟩

theorem IsAt.app {W : World} {base : Nat} {v : Value} {l : List Nat} (h : IsAt W base v l) (hb : base ≤ W.heap.size) (x : Nat) (hn : l.length ≤ 1000) (ty : TypeId) :
    ∃ g cap w5, (appSem #[52, 52] ty #[v, .slice (some ⟨W.heap.size, 0, none⟩) 1 1]).run Tryz.prog (W.alloc (.cells #[.int .i64 x] 3)) = .ok (.slice (some ⟨g, 0, none⟩) (l.length + 1) cap) w5 ∧
      Hid (IsAt w5 base (.slice (some ⟨g, 0, none⟩) (l.length + 1) cap) (l ++ [x])) ∧ Hid (Below base W w5) := by
  obtain ⟨i0, hi, hz0, hz1, hz2⟩ := info_parts info_intg
  have ha := World.ownsRow.alloc h (.cells #[.int .i64 x] 3)
  obtain ⟨g, cap, w5, hr, hown, hgrow, hat, _⟩ := run_append_lies (P := Tryz.prog) (W.alloc (.cells #[.int .i64 x] 3)) 52 ty base 3 i0 _ 1 8 Tryz.underlying52 hi hz0 hz1 hz2 rfl (by omega) v l.length (intCells l) ha
    ⟨W.heap.size, 0, none⟩ 1 1 [.int .i64 x] rfl (World.news_of_block (cs := #[.int .i64 x]) (t := 3) (fr := (0, 0)) (heap_alloc_new W _)) (by simp [Value.oneCell']) (by omega) (by unfold maxLen; omega) (by omega) (by simp; omega) _ rfl
  refine ⟨g, cap, w5, hr, hide ?_, hide ?_⟩
  · show World.ownsRow _ _ _ _ _ _ _
    rw [List.length_append, List.length_singleton, intCells, List.map_append]
    exact hown
  · exact Go.RowKit.Below.grown (((Below.refl base W).alloc hb _)) hgrow (by simp; omega) (fun k hk => (ha.lt k hk).1)

theorem IsAt.app' {W W' : World} {base : Nat} {v : Value} {l : List Nat} (h : IsAt W base v l) (hb : base ≤ W.heap.size) (x : Nat) (hn : l.length ≤ 1000) (ty : TypeId) (H : Nat) (hH : W.heap.size = H) (hW : W' = W.alloc (.cells #[.int .i64 x] 3)) :
    ∃ g cap w5, (appSem #[52, 52] ty #[v, .slice (some ⟨H, 0, none⟩) 1 1]).run Tryz.prog W' = .ok (.slice (some ⟨g, 0, none⟩) (l.length + 1) cap) w5 ∧
      Hid (IsAt w5 base (.slice (some ⟨g, 0, none⟩) (l.length + 1) cap) (l ++ [x])) ∧ Hid (Below base W w5) := by
  subst hH hW
  exact h.app hb x hn ty

theorem RunAt.nextB {w wr w' : World} {vb n B : Nat} {vs : List V} (h : RunAt w wr vb n vs) (hb : Below B wr w') (hB : vb < B) : RunAt w w' vb n vs :=
  ⟨h.vals.below hb hB, fun j => (hb.frozen (p := ⟨vb, j, none⟩) hB).trans (h.fz j), h.ge, Nat.lt_of_lt_of_le h.lt hb.size, h.bel.trans (hb.mono (by have := h.ge; omega))⟩

theorem IsAt.below {B : Nat} {w w' : World} {base : Nat} {v : Value} {l : List Nat} (h : IsAt w base v l) (hb : Below B w w') (hB : w.heap.size ≤ B) : IsAt w' base v l := ownsRow_below h hb hB

theorem below1 (w : World) (o : Obj) : Below w.heap.size w (w.alloc o) := (Below.refl _ _).alloc (Nat.le_refl _) o

set_option maxHeartbeats 2000000 in
set_option maxRecDepth 100000 in
theorem prun_any (ps : List Pr) (ev : Value) (pb o : Nat) (ts : List Tm) (rs : List Nat) (w : World) (hp : ProgAt w pb o ts rs) (hg : Prg ts rs) (hev : EvArg w ev ps) (hr : EvRng ps) (hs : EvSh ps) :
    Calls Tryz.prog 43 #[.pointer (some ⟨pb, o, none⟩), ev] w (RunEnds w (metR ps ts rs)) := by
  obtain ⟨i0, hi, hz0, hz1, hz2⟩ := info_parts info_value
  obtain ⟨i1, hj, hy0, hy1, hy2⟩ := info_parts info_intg
  obtain ⟨plt, ⟨tv, tb, c0, hts⟩, rv, rb, c1, hrs⟩ := hp
  have HTS := hide hts
  have HRS := hide hrs
  have HEV := hide hev
  obtain ⟨ea, en, ec, rfl⟩ := hev.slice
  obtain ⟨ta, tc, rfl, hTC⟩ := hts.cells
  obtain ⟨ra, rc, rfl, hRC⟩ := hrs.cells
  have HTC : Hid _ := hide hTC
  have HRC : Hid _ := hide hRC
  have HG := hide hg
  have HVG : Hid (∀ k, k ≤ ts.length → ∀ i, Gv ((valsK ps ts k).getD i nV)) := hide fun k hk => valsK_good hr hs hg.fits k hk
  have h80 := hg.terms
  have h8 := hg.roots
  clear hTC hRC hts hrs hev hg hr hs
  obtain ⟨n, hn⟩ : ∃ n, n = ts.length := ⟨_, rfl⟩
  obtain ⟨m, hm⟩ : ∃ m, m = rs.length := ⟨_, rfl⟩
  have HN : Hid (n = ts.length) := hide hn
  have HM : Hid (m = rs.length) := hide hm
  rw [← hn] at c0 h80
  rw [← hm] at c1 h8
  obtain ⟨R, hR⟩ : ∃ R, metR ps ts rs = R := ⟨_, rfl⟩
  have HR : Hid (R = metK (valsK ps ts n) rs m) := hide (by rw [hn, hm, ← hR]; rfl)
  rw [hR]
  clear hn hm hR
  have nv : ¬ pb = w.heap.size := by omega
  go_enter Tryz.func43, Tryz.ntmps43
  go_wp2_with (at_make; refine wpList_make_full _ rfl _ _ 127 rfl w.heap.size 26 i0 _ 3 Tryz.underlying127 hi hz0 hz1 .i64 .i64 _ _ n rfl rfl rfl rfl (by rw [hz2]; omega) (by unfold maxLen; omega) (Nat.le_refl _) ?_; intro w1 hown1 hgrow1; have R0 := hide (RunAt.made hown1 hgrow1); have d0 := hgrow1.cell c0 (by simp); have d1 := hgrow1.cell c1 (by simp); clear hown1 hgrow1)
  go_loopw [22] (fun i wr => ∃ k : Nat, k ≤ n ∧ i = .int .i64 k ∧ Hid (RunAt w wr w.heap.size n (valsK ps ts k))) (fun i _ => n - (intOf i).toNat)
  case atStart => exact ⟨0, Nat.zero_le _, rfl, R0⟩
  case round =>
    obtain ⟨k, hk, rfl, HL⟩ := hrel
    by_cases hlt : k < n
    · obtain ⟨t, ht⟩ : ∃ t, ts[k]? = some t := ⟨_, List.getElem?_eq_getElem (by have := unhide HN; omega)⟩
      obtain ⟨g, rfl, glt, t0, t1, t2, t3, t4, t5⟩ := unhide HTC k t ht
      have hB := (unhide HL).bel
      obtain ⟨hcB, hfB⟩ := bcell hB
      rw [← hcB g (k * 6) glt] at t0
      rw [← hcB g (k * 6 + 1) glt] at t1
      rw [← hcB g (k * 6 + 2) glt] at t2
      rw [← hcB g (k * 6 + 3) glt] at t3
      rw [← hcB g (k * 6 + 4) glt] at t4
      rw [← hcB g (k * 6 + 5) glt] at t5
      have hS : Hid (valsK ps ts (k + 1) = valsK ps ts k ++ [ofT ps (valsK ps ts k) t]) := hide (by rw [valsK, List.getD_eq_getElem?_getD, ht]; rfl)
      have hVL : Hid ((valsK ps ts k).length = k) := hide (valsK_length _ _ _)
      have hzr := (unhide HL).lt
      have hzg : g < wr.heap.size := by have := hB.size; omega
      have hk0 : (0 : Int) ≤ (k : Int) := by omega
      have hk1 : (k : Int) < (n : Int) := by omega
      have TO : Hid (∀ W, EvArg W (.slice ea en ec) ps → ValsAt W w.heap.size n (valsK ps ts k) → w.heap.size < W.heap.size → TofOk W ps (.slice ea en ec) (.slice (some ⟨w.heap.size, 0, none⟩) n n) (valsK ps ts k) t) := hide fun W h1 h2 h3 => tof_any h1 h2 h3 (unhide HVG k (by have := unhide HN; omega)) ((unhide HG).fits k t ht) (by omega)
      generalize valsK ps ts k = vs at *
      obtain ⟨x, hx⟩ : ∃ x, ofT ps vs t = x := ⟨_, rfl⟩
      unfold TofOk at TO
      rw [hx] at TO hS
      simp only [tmV] at TO
      clear hcB hfB hB ht hx
      go_wp2_with (go_at_call 74; refine (unhide TO _ ((unhide HEV).below (below_any (unhide HL).bel (below1 wr _))) ((unhide HL).vals.below (below1 wr _) hzr) (by simp; omega)).mono ?_; rintro e w2 ⟨rfl, hb2⟩; have HL2 := hide ((unhide HL).next (below_any (below1 wr _) hb2)); have fz2 := (unhide HL2).fz; obtain ⟨v0, v1, v2⟩ := (unhide HL2).vals k hlt; have lt2 := (unhide HL2).lt; clear hb2; simp only [vV])
      case roundEnd => exact ⟨⟨k + 1, by omega, rfl, hide (by rw [unhide hS]; exact (unhide HL2).store (unhide hVL) hlt x)⟩, by simp [intOf]; omega⟩
    · have : k = n := by omega
      subst this
      have d2 : wr.cell? ⟨pb, o + 1, none⟩ = some (.slice ra m rc) := ((unhide HL).bel.cell (p := ⟨pb, o + 1, none⟩) plt).trans c1
      obtain ⟨hVG, hVL⟩ : Hid (∀ i, Gv ((valsK ps ts k).getD i nV)) ∧ Hid ((valsK ps ts k).length = k) := ⟨hide (unhide HVG k (by have := unhide HN; omega)), hide (valsK_length _ _ _)⟩
      have hzr := (unhide HL).lt
      generalize valsK ps ts k = vs at *
      go_wp2_with fail
      go_loopw [8, 40] (fun v i wr => ∃ j : Nat, j ≤ m ∧ i = .int .i64 j ∧ Hid (RunAt w wr w.heap.size k vs) ∧ Hid (IsAt wr (w.heap.size + 1) v (metK vs rs j))) (fun _ i _ => m - (intOf i).toNat)
      case atStart => exact ⟨0, Nat.zero_le _, rfl, HL, hide (IsAt.nil _ _)⟩
      case round =>
        obtain ⟨j, hj2, rfl, HL2, HI⟩ := hrel
        by_cases hlt2 : j < m
        · obtain ⟨r, hr⟩ : ∃ r, rs[j]? = some r := ⟨_, List.getElem?_eq_getElem (by have := unhide HM; omega)⟩
          obtain ⟨g, rfl, glt, t0⟩ := unhide HRC j r hr
          have hrk : r < k := by have h1 := (unhide HG).below r (List.mem_of_getElem? hr); have h2 := unhide HN; omega
          have hS : Hid (metK vs rs (j + 1) = metK vs rs j ++ (if vs.getD r nV = bV true then [j] else [])) := hide (by rw [metK, List.getD_eq_getElem?_getD (l := rs), hr]; rfl)
          have hML : Hid ((metK vs rs j).length ≤ j) := hide (metK_length _ _ _)
          obtain ⟨hcB, hfB⟩ := bcell (unhide HL2).bel
          rw [← hcB g j glt] at t0
          obtain ⟨v0, v1, v2⟩ := (unhide HL2).vals r hrk
          have hzr2 := (unhide HL2).lt
          have hzg : g < wr.heap.size := by have := (unhide HL2).bel.size; omega
          have hj0 : (0 : Int) ≤ (j : Int) := by omega
          have hj1 : (j : Int) < (m : Int) := by omega
          have hr0 : (0 : Int) ≤ (r : Int) := by omega
          have hr1 : (r : Int) < (k : Int) := by omega
          obtain ⟨x, hx⟩ : ∃ x, vs.getD r nV = x := ⟨_, rfl⟩
          rw [hx] at v0 v1 v2 hS
          have ex := fun w => eql_v x (bV true) w
          simp only [vV] at ex
          clear hcB hfB hr hx
          by_cases hb : x = bV true
          · have hd : decide (x = bV true) = true := decide_eq_true hb
            simp only [hd] at ex
            rw [if_pos hb] at hS
            clear hd hb
            have hbb : Below wr.heap.size wr (wr.alloc (.cells #[.int .i64 (bV true).kind, .int .i64 (bV true).num, .string (BS (bV true).str)] 26)).drew := (below1 wr _).drew
            obtain ⟨g5, cap5, w5, hap, HI5, HB5⟩ := IsAt.app' (W' := ((wr.alloc (.cells #[.int .i64 (bV true).kind, .int .i64 (bV true).num, .string (BS (bV true).str)] 26)).alloc (.cells #[.int .i64 j] 3)).drew) ((unhide HI).below hbb (Nat.le_refl _)) (by simp; omega) j (by have := unhide hML; omega) 52 (wr.heap.size + 1) (by simp) rfl
            have HL5 := hide (((unhide HL2).next hbb).nextB (unhide HB5) (Nat.lt_succ_self _))
            clear hbb HB5
            go_wp2_with fail
            go_region_with (go_at_call 64; refine (vBool_eq _ _).mono ?_; rintro e w' ⟨rfl, rfl⟩; simp only [vV])
            all_goals go_wp2_with fail
            all_goals exact ⟨⟨j + 1, by omega, rfl, HL5, hide (by rw [unhide hS]; exact unhide HI5)⟩, by simp [intOf]; omega⟩
          · have hd : decide (x = bV true) = false := decide_eq_false hb
            simp only [hd] at ex
            rw [if_neg hb] at hS
            clear hd hb
            go_wp2_with fail
            go_region_with (go_at_call 64; refine (vBool_eq _ _).mono ?_; rintro e w' ⟨rfl, rfl⟩; simp only [vV])
            all_goals go_wp2_with fail
            all_goals exact ⟨⟨j + 1, by omega, rfl, hide ((unhide HL2).next (by repeat (first | exact Below.refl _ _ | apply Below.drew | apply below_alloc))), hide (by rw [unhide hS, List.append_nil]; exact IsAt.below (unhide HI) (by repeat (first | exact Below.refl _ _ | apply Below.drew | apply below_alloc)) (Nat.le_refl _))⟩, by simp [intOf]; omega⟩
        · have : j = m := by omega
          subst this
          have HI' := hide (IsAt.mono (unhide HI) (Nat.le_succ _))
          have HB' := hide (unhide HL2).bel
          go_wp2_with fail
          go_ret
          exact ⟨_, rfl, by rw [unhide HR]; exact unhide HI', unhide HB'⟩
end

section
set_option maxHeartbeats 800000 in
set_option maxRecDepth 100000 in
theorem sameInts_same (l : List Nat) (va vb : Value) (ba bb : Nat) (w : World) (ha : IsAt w ba va l) (hb : IsAt w bb vb l) (h8 : l.length ≤ 8) :
    Calls Tryz.prog 31 #[va, vb] w fun e w' => e = .returned (.bool true) ∧ Below w.heap.size w w' := by
  obtain ⟨aa, ca, rfl, hA⟩ := ha.cells
  obtain ⟨ab, cb, rfl, hB⟩ := hb.cells
  have HA := hide hA
  have HB := hide hB
  clear hA hB ha hb
  obtain ⟨n, hn⟩ : ∃ n, l.length = n := ⟨_, rfl⟩
  rw [hn] at h8 ⊢
  have HN := hide hn
  clear hn
  go_enter Tryz.func31, Tryz.ntmps31
  go_wp2_with fail
  go_loopw [5] (fun i wr => ∃ k : Nat, k ≤ n ∧ i = .int .i64 k ∧ Hid (Below w.heap.size w wr)) (fun i _ => n - (intOf i).toNat)
  case atStart => exact ⟨0, Nat.zero_le _, rfl, hide (Below.refl _ _)⟩
  case round =>
    obtain ⟨k, hk, rfl, HW⟩ := hrel
    by_cases hlt : k < n
    · obtain ⟨x, hx⟩ : ∃ x, l[k]? = some x := ⟨_, List.getElem?_eq_getElem (by have := unhide HN; omega)⟩
      obtain ⟨g, rfl, glt, t0⟩ := unhide HA k x hx
      obtain ⟨g', rfl, glt', t1⟩ := unhide HB k x hx
      obtain ⟨hcB, hfB⟩ := bcell (unhide HW)
      rw [← hcB g k glt] at t0
      rw [← hcB g' k glt'] at t1
      have hk0 : (0 : Int) ≤ (k : Int) := by omega
      have hk1 : (k : Int) < (n : Int) := by omega
      have HW' := hide (unhide HW).drew
      clear hcB hfB hx
      go_wp2_with fail
      go_quiet (fail)
      go_wp2_with fail
      exact ⟨⟨k + 1, by omega, rfl, hide (below_drewN (unhide HW) _)⟩, by simp [intOf]; omega⟩
    · have : k = n := by omega
      subst this
      go_wp2_with fail
      go_ret
      exact ⟨rfl, unhide HW⟩
end

section
/-- What Run answers. -/
def runR (code : List UInt8) (ps : List Pr) : List Nat × Int :=
  if evOk ps then (if (readP code).2.2 then (metR ps (readP code).1 (readP code).2.1, 0) else ([], 9)) else ([], 7)

theorem BytesAt.below {w w' : World} {v : Value} {l : List UInt8} (h : BytesAt w w.heap.size v l) (hb : Below w.heap.size w w') : BytesAt w' w'.heap.size v l := by
  obtain ⟨a, c, hv, hc, hx⟩ := h
  refine ⟨a, c, hv, hc, fun i x hi => ?_⟩
  obtain ⟨b, o, ha, hbl, hcell⟩ := hx i x hi
  exact ⟨b, o, ha, Nat.lt_of_lt_of_le hbl hb.size, (hb.cell (p := ⟨b, o + i, none⟩) hbl).trans hcell⟩

/-- How sieve.Run ends. -/
def SrEnds (w : World) (r : List Nat × Int) (e : Ending) (w' : World) : Prop := ∃ v, e = .returned (.tuple #[v, .int .i64 r.2]) ∧ IsAt w' w.heap.size v r.1 ∧ Below w.heap.size w w'

set_option maxHeartbeats 800000 in
theorem srun_any (code : List UInt8) (cv : Value) (ps : List Pr) (ev : Value) (w : World) (h : BytesAt w w.heap.size cv code) (hev : EvIn w ev ps) (hg : EvGood ps) :
    Calls Tryz.prog 30 #[cv, ev] w (SrEnds w (runR code ps)) := by
  have HV := hide (valid_in hev hg)
  obtain ⟨a, c, rfl, _⟩ : ∃ a c, cv = .slice a code.length c ∧ True := by obtain ⟨a, c, h1, _⟩ := h; exact ⟨a, c, h1, trivial⟩
  have HB := hide h
  have HE := hide hev
  obtain ⟨ea, en, ec, rfl⟩ := hev.slice
  cases hok : evOk ps with
  | false =>
    have hR : runR code ps = ([], 7) := by rw [runR, hok]; rfl
    rw [hR]
    rw [hok] at HV
    clear hok hR
    go_enter Tryz.func30, Tryz.ntmps30
    go_wp2_with (go_at_call 37; refine (unhide HV).mono ?_; rintro e w1 ⟨rfl, hb1⟩)
    go_ret2
    exact ⟨_, rfl, IsAt.nil _ _, hb1⟩
  | true =>
    rw [hok] at HV
    have H8 := evOk_8 hok
    have HSH := hide (evSh_of hok)
    have HRG := hide hg.rng
    have RD : Hid (∀ w1, Below w.heap.size w w1 → Calls Tryz.prog 42 #[.slice a code.length c] w1 (PrdEnds w1 (readP code))) := hide fun w1 hb => pread_any code _ w1 ((unhide HB).below hb)
    cases hP : (readP code).2.2 with
    | false =>
      have hR : runR code ps = ([], 9) := by rw [runR, hok, hP]; rfl
      rw [hR]
      unfold PrdEnds at RD
      rw [hP] at RD
      clear hok hR hP
      go_enter Tryz.func30, Tryz.ntmps30
      go_wp2_with (first | (go_at_call 37; refine (unhide HV).mono ?_; rintro e w1 ⟨rfl, hb1⟩; have hb1 := hide hb1) | (go_at_call 42; refine (unhide RD _ (unhide hb1)).mono ?_; rintro e w2 ⟨pb, rfl, hp2, hb2⟩; have hp2 := hide hp2; have hb2 := hide hb2))
      go_ret2
      exact ⟨_, rfl, IsAt.nil _ _, below_any (unhide hb1) (unhide hb2)⟩
    | true =>
      have hR : runR code ps = (metR ps (readP code).1 (readP code).2.1, 0) := by rw [runR, hok, hP]; rfl
      rw [hR]
      have HF := hide (readP_fits hP)
      unfold PrdEnds at RD
      rw [hP] at RD
      generalize (readP code).1 = ts at *
      generalize (readP code).2.1 = rs at *
      clear hok hR hP
      obtain ⟨R, hR⟩ : ∃ R, metR ps ts rs = R := ⟨_, rfl⟩
      have PR : Hid (∀ w1 pb, EvArg w1 (.slice ea en ec) ps → ProgAt w1 pb 0 ts rs → Calls Tryz.prog 43 #[.pointer (some ⟨pb, 0, none⟩), .slice ea en ec] w1 (RunEnds w1 R)) := hide fun w1 pb h1 h2 => hR ▸ prun_any ps _ pb 0 ts rs w1 h2 (unhide HF) h1 (unhide HRG) (unhide HSH)
      rw [hR]
      clear hR
      go_enter Tryz.func30, Tryz.ntmps30
      go_wp2_with (first | (go_at_call 37; refine (unhide HV).mono ?_; rintro e w1 ⟨rfl, hb1⟩; have hb1 := hide hb1) | (go_at_call 42; refine (unhide RD _ (unhide hb1)).mono ?_; rintro e w2 ⟨pb, rfl, hp2, hb2⟩; have hp2 := hide hp2; have hb2 := hide hb2) | (go_at_call 43; refine (unhide PR _ _ (((unhide HE).below (below_any (unhide hb1) (unhide hb2))).arg H8) (unhide hp2)).mono ?_; rintro e w3 ⟨v, rfl, hi3, hb3⟩; have hi3 := hide hi3; have hb3 := hide hb3))
      go_ret2
      exact ⟨_, rfl, IsAt.mono (unhide hi3) (Nat.le_trans (unhide hb1).size (unhide hb2).size), below_any (below_any (unhide hb1) (unhide hb2)) (unhide hb3)⟩
end

section
theorem runR_cases (code : List UInt8) (ps : List Pr) : runR code ps = ([], 7) ∨ runR code ps = ([], 9) ∨ ∃ l, runR code ps = (l, 0) ∧ l.length ≤ 8 ∧ (∀ x ∈ l, x ≤ 7) ∧ l.Pairwise (· < ·) := by
  unfold runR
  by_cases h1 : evOk ps = true
  · rw [if_pos h1]
    by_cases h2 : (readP code).2.2 = true
    · rw [if_pos h2]
      have h8 := (readP_fits h2).roots
      refine .inr (.inr ⟨_, rfl, ?_, fun x hx => ?_, metK_rising _ _ _⟩)
      · have := metK_length (valsK ps (readP code).1 (readP code).1.length) (readP code).2.1 (readP code).2.1.length
        unfold metR
        omega
      · have := metK_lt _ _ _ x hx
        omega
    · rw [if_neg h2]
      exact .inr (.inl rfl)
  · rw [if_neg h1]
    exact .inl rfl

theorem IsAt.below' {w w' : World} {base : Nat} {v : Value} {l : List Nat} (h : IsAt w base v l) (hb : Below w.heap.size w w') : IsAt w' base v l := IsAt.below h hb (Nat.le_refl _)
theorem IsAt.form {w : World} {base : Nat} {v : Value} {l : List Nat} (h : IsAt w base v l) : ∃ a c, v = .slice a l.length c := by
  obtain ⟨a, c, hv, _⟩ := h.cells
  exact ⟨a, c, hv⟩

set_option maxHeartbeats 2000000 in
set_option maxRecDepth 100000 in
theorem any_err (f : Int) (hf : f = 7 ∨ f = 9) (cv ev : Value) (w : World) (hcv : ∃ a n c, cv = .slice a n c) (hev : ∃ a n c, ev = .slice a n c)
    (RU : Calls Tryz.prog 29 #[] w fun e w' => e = .returned (.bool true) ∧ Below w.heap.size w w')
    (SR : ∀ w1, Below w.heap.size w w1 → Calls Tryz.prog 30 #[cv, ev] w1 (SrEnds w1 ([], f))) :
    Calls Tryz.prog 12 #[cv, ev] w fun e w' => e = .returned (.bool true) ∧ Below w.heap.size w w' := by
  obtain ⟨a, n, c, rfl⟩ := hcv
  obtain ⟨ea, en, ec, rfl⟩ := hev
  have RU := hide RU
  have SR := hide SR
  have SI := hide (fun (va vb : Value) (ba bb : Nat) (w : World) (ha : IsAt w ba va []) (hb : IsAt w bb vb []) => sameInts_same [] va vb ba bb w ha hb (by decide))
  rcases hf with rfl | rfl
  all_goals
    go_enter Tryz.func12, Tryz.ntmps12
    go_wp2_with (first | (go_at_call 31; refine (unhide SI _ _ _ _ _ ((unhide I2).below' (unhide B3)) (unhide I3)).mono ?_; rintro e w4 ⟨rfl, hb4⟩; have B4 := hide hb4; clear hb4) | (go_at_call 30; refine (unhide SR w2 (unhide B2)).mono ?_; rintro e w3 ⟨v3, rfl, hi3, hb3⟩; obtain ⟨a3, c3, rfl⟩ := hi3.form; have I3 := hide hi3; have B3 := hide hb3; clear hi3 hb3) | (go_at_call 30; refine (unhide SR _ (unhide B1)).mono ?_; rintro e w2 ⟨v2, rfl, hi2, hb2⟩; obtain ⟨a2, c2, rfl⟩ := hi2.form; have I2 := hide hi2; have B2 := hide (below_any (unhide B1) hb2); clear hi2 hb2) | (go_at_call 29; refine (unhide RU).mono ?_; rintro e w1 ⟨rfl, hb1⟩; have B1 := hide hb1; clear hb1))
    go_ret
    exact ⟨rfl, below_any (below_any (unhide B2) (unhide B3)) (unhide B4)⟩

set_option maxHeartbeats 2000000 in
set_option maxRecDepth 100000 in
theorem any_ok (l : List Nat) (h8 : l.length ≤ 8) (h7 : ∀ x ∈ l, x ≤ 7) (hup : l.Pairwise (· < ·)) (cv ev : Value) (w : World) (hcv : ∃ a n c, cv = .slice a n c) (hev : ∃ a n c, ev = .slice a n c)
    (RU : Calls Tryz.prog 29 #[] w fun e w' => e = .returned (.bool true) ∧ Below w.heap.size w w')
    (SR : ∀ w1, Below w.heap.size w w1 → Calls Tryz.prog 30 #[cv, ev] w1 (SrEnds w1 (l, 0))) :
    Calls Tryz.prog 12 #[cv, ev] w fun e w' => e = .returned (.bool true) ∧ Below w.heap.size w w' := by
  obtain ⟨a, n, c, rfl⟩ := hcv
  obtain ⟨ea, en, ec, rfl⟩ := hev
  have RU := hide RU
  have SR := hide SR
  have SI := hide (fun (va vb : Value) (ba bb : Nat) (w : World) (ha : IsAt w ba va l) (hb : IsAt w bb vb l) => sameInts_same l va vb ba bb w ha hb h8)
  have H7 := hide h7
  have HU := hide hup
  clear h7 hup
  obtain ⟨m, hm⟩ : ∃ m, l.length = m := ⟨_, rfl⟩
  have HM := hide hm
  rw [hm] at h8
  clear hm
  go_enter Tryz.func12, Tryz.ntmps12
  go_wp2_with (first | (go_at_call 31; refine (unhide SI _ _ _ _ _ ((unhide I2).below' (unhide B3)) (unhide I3)).mono ?_; rintro e w4 ⟨rfl, hb4⟩; have I4 := hide (((unhide I2).below' (unhide B3)).below' hb4); have B4 := hide (below_any (below_any (unhide B2) (unhide B3)) hb4); clear hb4) | (go_at_call 30; refine (unhide SR w2 (unhide B2)).mono ?_; rintro e w3 ⟨v3, rfl, hi3, hb3⟩; obtain ⟨a3, c3, rfl⟩ := hi3.form; rw [unhide HM]; rw [unhide HM] at hi3; have I3 := hide hi3; have B3 := hide hb3; clear hi3 hb3) | (go_at_call 30; refine (unhide SR _ (unhide B1)).mono ?_; rintro e w2 ⟨v2, rfl, hi2, hb2⟩; obtain ⟨a2, c2, rfl⟩ := hi2.form; rw [unhide HM]; rw [unhide HM] at hi2; have I2 := hide hi2; have B2 := hide (below_any (unhide B1) hb2); clear hi2 hb2) | (go_at_call 29; refine (unhide RU).mono ?_; rintro e w1 ⟨rfl, hb1⟩; have B1 := hide hb1; clear hb1))
  go_loopw [11] (fun i wr => ∃ k : Nat, k ≤ m ∧ i = .int .i64 k ∧ Hid (Below w4.heap.size w4 wr)) (fun i _ => m - (intOf i).toNat)
  case atStart => exact ⟨0, Nat.zero_le _, rfl, hide (Below.refl _ _)⟩
  case round =>
    obtain ⟨k, hk, rfl, HW⟩ := hrel
    have I5 := hide ((unhide I4).below' (unhide HW))
    have HIC : Hid _ := hide (unhide I5).cells
    by_cases hlt : k < m
    · obtain ⟨a', c', hv, hcells⟩ := unhide HIC
      obtain ⟨rfl, _, rfl⟩ : a2 = a' ∧ m = l.length ∧ c2 = c' := by simpa using hv
      obtain ⟨x, hx⟩ : ∃ x, l[k]? = some x := ⟨_, List.getElem?_eq_getElem (by have := unhide HM; omega)⟩
      obtain ⟨g, rfl, glt, t0⟩ := hcells k x hx
      have hx7 : x ≤ 7 := unhide H7 x (List.mem_of_getElem? hx)
      have hx0 : decide ((x : Int) < 0) = false := decide_eq_false (by omega)
      have hx1 : decide ((x : Int) > 7) = false := decide_eq_false (by omega)
      have hk0 : (0 : Int) ≤ (k : Int) := by omega
      have hk1 : (k : Int) < (m : Int) := by omega
      by_cases hz : k = 0
      · subst hz
        clear hv hcells
        go_wp2_with fail
        go_quiet (fail)
        go_wp2_with fail
        exact ⟨⟨1, by omega, rfl, hide (below_drewN (unhide HW) _)⟩, by simp [intOf]; omega⟩
      · obtain ⟨y, hy⟩ : ∃ y, l[k - 1]? = some y := ⟨_, List.getElem?_eq_getElem (by have := unhide HM; omega)⟩
        obtain ⟨g', hgg, glt', t1⟩ := hcells (k - 1) y hy
        obtain rfl : g = g' := by simpa using hgg
        have hyx : y < x := by
          have h1 := List.pairwise_iff_getElem.1 (unhide HU)
          obtain ⟨i1, e1⟩ := List.getElem?_eq_some_iff.1 hy
          obtain ⟨i2, e2⟩ := List.getElem?_eq_some_iff.1 hx
          have := h1 (k - 1) k i1 i2 (by omega)
          rw [e1, e2] at this
          exact this
        have hd1 : decide ((k : Int) > 0) = true := decide_eq_true (by omega)
        have hd2 : decide ((x : Int) ≤ (y : Int)) = false := decide_eq_false (by omega)
        obtain ⟨j, rfl⟩ : ∃ j, k = j + 1 := ⟨k - 1, by omega⟩
        simp only [Nat.add_sub_cancel] at t1
        have hj : IntKind.i64.wrap (((j + 1 : Nat) : Int) - 1) = (j : Int) := by rw [IntKind.wrap_i64]; omega
        have hj' : (((j + 1 : Nat) : Int) - 1) = (j : Int) := by omega
        have hj0 : (0 : Int) ≤ (j : Int) := by omega
        have hj1 : (j : Int) < (m : Int) := by omega
        clear hv hcells hx hy hgg hz
        go_wp2_with fail
        go_quiet (fail)
        go_wp2_with fail
        exact ⟨⟨j + 1 + 1, by omega, rfl, hide (below_drewN (unhide HW) _)⟩, by simp [intOf]; omega⟩
    · have : k = m := by omega
      subst this
      go_wp2_with fail
      go_ret
      exact ⟨rfl, below_any (unhide B4) (unhide HW)⟩

theorem any_all (code : List UInt8) (cv : Value) (ps : List Pr) (ev : Value) (w : World) (h : BytesAt w w.heap.size cv code) (hev : EvIn w ev ps) (hg : EvGood ps)
    (RU : Calls Tryz.prog 29 #[] w fun e w' => e = .returned (.bool true) ∧ Below w.heap.size w w') :
    Calls Tryz.prog 12 #[cv, ev] w fun e w' => e = .returned (.bool true) ∧ Below w.heap.size w w' := by
  have hcv : ∃ a n c, cv = .slice a n c := by obtain ⟨a, c, h1, _⟩ := h; exact ⟨a, _, c, h1⟩
  have SR : ∀ w1, Below w.heap.size w w1 → Calls Tryz.prog 30 #[cv, ev] w1 (SrEnds w1 (runR code ps)) := fun w1 hb => srun_any code cv ps ev w1 (h.below hb) (hev.below hb) hg
  rcases runR_cases code ps with hr | hr | ⟨l, hr, h8, h7, hup⟩
  · rw [hr] at SR
    exact any_err 7 (.inl rfl) cv ev w hcv hev.slice RU SR
  · rw [hr] at SR
    exact any_err 9 (.inr rfl) cv ev w hcv hev.slice RU SR
  · rw [hr] at SR
    exact any_ok l h8 h7 hup cv ev w hcv hev.slice RU SR
end

end Go.Proofs.YtfkcaldjphakpaaGreatDoor
