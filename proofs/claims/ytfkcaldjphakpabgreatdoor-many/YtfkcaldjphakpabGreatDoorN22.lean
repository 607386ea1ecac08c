/- Messages and their order; a heap in memory: above, Before, before, swap. A heap in memory: Len, Push. A heap in memory: Pop. -/
import Derived.Test.YtfkcaldjphakpabGreatDoorN13
import Derived.Deep.RegionHeld3
import Derived.Deep.RegionWith
namespace Go.Proofs.YtfkcaldjphakpabGreatDoor
open Go.RowKit

section
structure Mg where
  pri : Int
  num : Int
def bef (x y : Mg) : Bool := if x.pri != y.pri then decide (y.pri < x.pri) else decide (x.num < y.num)
/-- A block of room for cap messages. -/
def MgBlk (w : World) (g cap : Nat) : Prop := cap ≤ maxLen ∧ ∃ cur : Array Value, w.heap[g]? = some (.cells cur 102 (0, 0)) ∧ cur.size = cap * 2
theorem MgBlk.same {w w' : World} {g cap : Nat} (h : MgBlk w g cap) (hb : w'.heap[g]? = w.heap[g]?) : MgBlk w' g cap := by
  obtain ⟨hm, cur, h1, h2⟩ := h
  exact ⟨hm, cur, hb.trans h1, h2⟩
theorem MgBlk.set {w : World} {g cap : Nat} (h : MgBlk w g cap) (o : Nat) (v : Value) : MgBlk (w.setCell ⟨g, o, none⟩ v) g cap := by
  obtain ⟨hm, cur, h1, h2⟩ := h
  refine ⟨hm, cur.setIfInBounds o v, ?_, by simpa using h2⟩
  simp [World.setCell, Array.getElem?_modify, h1]

/-- Messages in a row; its header in a cell. -/
structure HpAt (w : World) (hb ho g cap : Nat) (ms : List Mg) : Prop where
  c : w.cell? ⟨hb, ho, none⟩ = some (.slice (some ⟨g, 0, none⟩) ms.length cap)
  fz : w.frozen? ⟨hb, ho, none⟩ = false
  ne : g ≠ hb
  lt : hb < w.heap.size
  glt : g < w.heap.size
  pri : ∀ (i : Nat) (m : Mg), ms[i]? = some m → w.cell? ⟨g, i * 2, none⟩ = some (.int .i64 m.pri) ∧ w.cell? ⟨g, i * 2 + 1, none⟩ = some (.int .i64 m.num)
  gfz : ∀ j, w.frozen? ⟨g, j, none⟩ = false
  blk : MgBlk w g cap
  room : ms.length ≤ cap

theorem HpAt.below {w w' : World} {hb ho g cap : Nat} {ms : List Mg} (h : HpAt w hb ho g cap ms) (hB : Below w.heap.size w w') : HpAt w' hb ho g cap ms := by
  obtain ⟨hc, hf⟩ := bcell hB
  exact ⟨(hc hb ho h.lt).trans h.c, (hf hb ho h.lt).trans h.fz, h.ne, Nat.lt_of_lt_of_le h.lt hB.size, Nat.lt_of_lt_of_le h.glt hB.size, fun i m hm => ⟨(hc g _ h.glt).trans (h.pri i m hm).1, (hc g _ h.glt).trans (h.pri i m hm).2⟩, fun j => (hf g j h.glt).trans (h.gfz j), h.blk.same (hB.block g h.glt), h.room⟩

/-- Two messages change places. -/
theorem HpAt.swap {w : World} {hb ho g cap : Nat} {ms : List Mg} (h : HpAt w hb ho g cap ms) {i j : Nat} {x y : Mg} (hx : ms[i]? = some x) (hy : ms[j]? = some y) (hij : i ≠ j) :
    HpAt ((((w.setCell ⟨g, i * 2, none⟩ (.int .i64 y.pri)).setCell ⟨g, i * 2 + 1, none⟩ (.int .i64 y.num)).setCell ⟨g, j * 2, none⟩ (.int .i64 x.pri)).setCell ⟨g, j * 2 + 1, none⟩ (.int .i64 x.num)) hb ho g cap ((ms.set i y).set j x) := by
  obtain ⟨c, fz, ne, lt, glt, cells, gfz, blk, room⟩ := h
  obtain ⟨x0, x1⟩ := cells i x hx
  obtain ⟨y0, y1⟩ := cells j y hy
  have hi : i < ms.length := (List.getElem?_eq_some_iff.1 hx).1
  have hj : j < ms.length := (List.getElem?_eq_some_iff.1 hy).1
  have ne' : ¬ hb = g := fun e => ne e.symm
  refine ⟨by simp [go_sem, c], by simp [go_sem, fz], ne, by simpa using lt, by simpa using glt, fun k m hm => ?_, fun j => by simp [go_sem, gfz], (((blk.set _ _).set _ _).set _ _).set _ _, by simpa using room⟩
  by_cases hkj : k = j
  · subst hkj
    rw [List.getElem?_set_self (by simpa using hj)] at hm
    simp at hm
    subst hm
    constructor <;> simp [go_sem, y0, y1]
  · rw [List.getElem?_set_ne (fun e => hkj e.symm)] at hm
    by_cases hki : k = i
    · subst hki
      rw [List.getElem?_set_self hi] at hm
      simp at hm
      subst hm
      constructor <;> simp [go_sem, x0, x1]
    · rw [List.getElem?_set_ne (fun e => hki e.symm)] at hm
      obtain ⟨m0, m1⟩ := cells k m hm
      constructor <;> simp [go_sem, m0, m1]
end

section
attribute [local go_sem ↓] app_fold

def mgCells (ms : List Mg) : List Value := ms.flatMap fun m => [.int .i64 m.pri, .int .i64 m.num]
theorem mgCells_length (ms : List Mg) : (mgCells ms).length = ms.length * 2 := by
  induction ms with
  | nil => rfl
  | cons t ts ih => rw [mgCells, List.flatMap_cons, List.length_append, ← mgCells, ih]; simp; omega
theorem mgCells_get {ms : List Mg} {i : Nat} {m : Mg} (h : ms[i]? = some m) : (mgCells ms)[i * 2]? = some (.int .i64 m.pri) ∧ (mgCells ms)[i * 2 + 1]? = some (.int .i64 m.num) := by
  induction ms generalizing i with
  | nil => simp at h
  | cons t ts ih =>
    rw [mgCells, List.flatMap_cons, ← mgCells]
    cases i with
    | zero =>
      simp at h
      subst h
      exact ⟨rfl, rfl⟩
    | succ i =>
      have := ih (by simpa using h)
      rw [List.getElem?_append_right (by show 2 ≤ _; omega), List.getElem?_append_right (by show 2 ≤ _; omega), show (i + 1) * 2 - [Value.int .i64 t.pri, Value.int .i64 t.num].length = i * 2 by show _ - 2 = _; omega, show (i + 1) * 2 + 1 - [Value.int .i64 t.pri, Value.int .i64 t.num].length = i * 2 + 1 by show _ - 2 = _; omega]
      exact this

theorem info_mg : (Tryz.prog.info? 102).map (fun i => (i.zero, i.size, i.bytes)) = some (some (.agg #[.int .i64 0, .int .i64 0]), 2, 16) := by kernel_rfl

/-- A heap: its header, which may be nil, and the row that it owns. -/
structure HqAt (w : World) (hb ho : Nat) (v : Value) (base : Nat) (ms : List Mg) : Prop where
  c : w.cell? ⟨hb, ho, none⟩ = some v
  fz : w.frozen? ⟨hb, ho, none⟩ = false
  lt : hb < w.heap.size
  own : w.ownsRow base 102 2 v ms.length (mgCells ms)
  ne : v.ownBlock ≠ some hb

theorem HqAt.form {w : World} {hb ho : Nat} {v : Value} {base : Nat} {ms : List Mg} (h : HqAt w hb ho v base ms) : ∃ a c, v = .slice a ms.length c := by
  rcases h.own.2 with ⟨rfl, hn⟩ | ⟨g, cap, cur, rfl, _⟩
  · exact ⟨none, 0, by rw [hn]⟩
  · exact ⟨_, _, rfl⟩

theorem HqAt.hp {w : World} {hb ho base g cap n : Nat} {ms : List Mg} (h : HqAt w hb ho (.slice (some ⟨g, 0, none⟩) n cap) base ms) : HpAt w hb ho g cap ms ∧ base ≤ g ∧ n = ms.length := by
  have h0 := h.own
  rcases h.own.2 with ⟨hv, _⟩ | ⟨g', cap', cur, hv, hbg, hgg, hnc, hcm, hcs, _⟩
  · simp at hv
  · simp at hv
    obtain ⟨rfl, rfl, rfl⟩ := hv
    have hadd : ∀ j, (⟨g, 0, none⟩ : Addr).add j = ⟨g, j, none⟩ := fun j => by unfold Addr.add; split <;> simp_all
    refine ⟨⟨h.c, h.fz, fun e => h.ne (by rw [e]; rfl), h.lt, (Array.getElem?_eq_some_iff.1 hgg).1, fun i m hm => ?_, fun j => by simp [World.frozen?, hgg], ⟨hcm, cur, hgg, hcs⟩, hnc⟩, hbg, rfl⟩
    have h1 := World.ownsRow.cells h0 (g := g) rfl (i * 2) _ (mgCells_get hm).1
    have h2 := World.ownsRow.cells h0 (g := g) rfl (i * 2 + 1) _ (mgCells_get hm).2
    rw [hadd] at h1 h2
    exact ⟨h1, h2⟩

theorem HpAt.hq {w : World} {hb ho g cap base : Nat} {ms : List Mg} (h : HpAt w hb ho g cap ms) (hg : base ≤ g) : HqAt w hb ho (.slice (some ⟨g, 0, none⟩) ms.length cap) base ms := by
  obtain ⟨hm, cur, hh, hsz⟩ := h.blk
  have hroom := h.room
  refine ⟨h.c, h.fz, h.lt, ⟨mgCells_length ms, .inr ⟨g, cap, cur, rfl, hg, hh, hroom, hm, hsz, ?_⟩⟩, fun e => h.ne (by simpa [Value.ownBlock] using e)⟩
  apply List.ext_getElem?
  intro j
  have hcell : ∀ j, w.cell? ⟨g, j, none⟩ = cur[j]? := fun j => cell_of_row w g j cur _ _ hh
  rw [List.getElem?_take]
  by_cases hj : j < ms.length * 2
  · rw [if_pos hj]
    obtain ⟨m, hm⟩ : ∃ m, ms[j / 2]? = some m := ⟨_, List.getElem?_eq_getElem (by omega)⟩
    obtain ⟨h1, h2⟩ := h.pri _ m hm
    obtain ⟨k1, k2⟩ := mgCells_get hm
    rw [hcell] at h1 h2
    rcases Nat.mod_two_eq_zero_or_one j with h0 | h0
    · have e : j / 2 * 2 = j := by omega
      rw [e] at h1 k1
      rw [k1, ← h1]
      simp
    · have e : j / 2 * 2 + 1 = j := by omega
      rw [e] at h2 k2
      rw [k2, ← h2]
      simp
  · rw [if_neg hj, List.getElem?_eq_none (by rw [mgCells_length]; omega)]

/-- What a heap's calls leave: its header and its row alone have turned. -/
structure PqKept (hb ho : Nat) (v v' : Value) (w w' : World) : Prop where
  os : w'.os = w.os
  tape : w'.tape = w.tape
  output : w'.output = w.output
  size : w.heap.size ≤ w'.heap.size
  block : ∀ k, k < w.heap.size → k ≠ hb → v.ownBlock ≠ some k → w'.heap[k]? = w.heap[k]?
  hdr : w'.heap[hb]? = (w.setCell ⟨hb, ho, none⟩ v').heap[hb]?
  row : ∀ k, v'.ownBlock = some k → v.ownBlock = some k ∨ w.heap.size ≤ k

theorem PqKept.next {hb ho g : Nat} {v v' : Value} {w W w' : World} (h : PqKept hb ho v v' w W) (hk : Kept g W w') (hg : v.ownBlock = some g ∨ w.heap.size ≤ g) (hne : g ≠ hb) (hlt : hb < w.heap.size) : PqKept hb ho v v' w w' := by
  have hz := h.size
  refine ⟨hk.os.trans h.os, hk.tape.trans h.tape, hk.output.trans h.output, Nat.le_trans h.size hk.size, fun k h1 h2 h3 => (hk.block k (by omega) (fun e => ?_)).trans (h.block k h1 h2 h3), (hk.block hb (by omega) (fun e => hne e.symm)).trans h.hdr, h.row⟩
  rcases hg with hg | hg
  · exact h3 (by rw [hg, e])
  · omega

/-- The append of Push. -/
theorem HqAt.app {w : World} {hb ho base : Nat} {v : Value} {ms : List Mg} (h : HqAt w hb ho v base ms) (hbase : base ≤ w.heap.size) (hn : ms.length ≤ 1000) (m : Mg) (o : Obj) :
    ∃ g cap w5, (appSem #[79, 79] 79 #[v, .slice (some ⟨w.heap.size + 1, 0, none⟩) 1 1]).run Tryz.prog ((w.alloc o).alloc (.cells #[.int .i64 m.pri, .int .i64 m.num] 102)).drew = .ok (.slice (some ⟨g, 0, none⟩) (ms.length + 1) cap) w5 ∧
      w5.cell? ⟨hb, ho, none⟩ = some v ∧ w5.frozen? ⟨hb, ho, none⟩ = false ∧ hb < w5.heap.size ∧
      Hid (HpAt (w5.setCell ⟨hb, ho, none⟩ (.slice (some ⟨g, 0, none⟩) (ms.length + 1) cap)) hb ho g cap (ms ++ [m])) ∧ Hid (base ≤ g) ∧
      Hid (PqKept hb ho v (.slice (some ⟨g, 0, none⟩) (ms.length + 1) cap) w (w5.setCell ⟨hb, ho, none⟩ (.slice (some ⟨g, 0, none⟩) (ms.length + 1) cap))) := by
  obtain ⟨i0, hi, hz0, hz1, hz2⟩ := info_parts info_mg
  have hlt := h.lt
  have hB : Below w.heap.size w (w.alloc o) := (Below.refl _ _).alloc (Nat.le_refl _) o
  obtain ⟨g, cap, w5, hr, hown, hgrow, hat, hlt5⟩ := run_append_lies (P := Tryz.prog) ((w.alloc o).alloc (.cells #[.int .i64 m.pri, .int .i64 m.num] 102)).drew 79 79 base 102 i0 _ 2 16 Tryz.underlying79 hi hz0 hz1 hz2 rfl (by omega) v ms.length (mgCells ms) (World.ownsRow.alloc (World.ownsRow.alloc h.own o) _)
    ⟨w.heap.size + 1, 0, none⟩ 1 1 [.int .i64 m.pri, .int .i64 m.num] rfl (World.news_of_block (cs := #[.int .i64 m.pri, .int .i64 m.num]) (t := 102) (fr := (0, 0)) (by have := heap_alloc_new (w.alloc o) (.cells #[.int .i64 m.pri, .int .i64 m.num] 102); rw [show (w.alloc o).heap.size = w.heap.size + 1 by simp] at this; exact this)) (by simp [Value.oneCell']) (by omega) (by unfold maxLen; omega) (by omega) (by simp; omega) _ rfl
  have hz := hgrow.size
  simp at hz hat
  have hold : ∀ k, k < w.heap.size → v.ownBlock ≠ some k → w5.heap[k]? = w.heap[k]? := fun k hk hne =>
    (hgrow.block k (by simp; omega) (fun e => hne e.symm)).trans ((Below.heap_alloc (w.alloc o) _ k (by simp; omega)).trans (Below.heap_alloc w o k hk))
  have hhb := hold hb hlt h.ne
  have c5 : w5.cell? ⟨hb, ho, none⟩ = some v := (World.cell?_of_block (w := w) (w' := w5) (a := ⟨hb, ho, none⟩) hhb).trans h.c
  have f5 : w5.frozen? ⟨hb, ho, none⟩ = false := (World.frozen?_of_block (w := w) (w' := w5) (a := ⟨hb, ho, none⟩) hhb).trans h.fz
  have hgne : g ≠ hb := by
    rcases hat with hat | hat
    · intro e; rw [e] at hat; exact h.ne hat
    · omega
  have hown' : (w5.setCell ⟨hb, ho, none⟩ (.slice (some ⟨g, 0, none⟩) (ms.length + 1) cap)).ownsRow base 102 2 (.slice (some ⟨g, 0, none⟩) (ms.length + 1) cap) (ms ++ [m]).length (mgCells (ms ++ [m])) := by
    rw [List.length_append, List.length_singleton, mgCells, List.flatMap_append, List.flatMap_singleton]
    exact ownsRow_setCell_other hown (fun e => hgne (by simpa [Value.ownBlock] using e)) _
  have hq : HqAt (w5.setCell ⟨hb, ho, none⟩ (.slice (some ⟨g, 0, none⟩) (ms.length + 1) cap)) hb ho (.slice (some ⟨g, 0, none⟩) (ms.length + 1) cap) base (ms ++ [m]) :=
    ⟨by simp [go_sem, c5], by simp [go_sem, f5], by simp; omega, hown', fun e => hgne (by simpa [Value.ownBlock] using e)⟩
  obtain ⟨hp, hbg, _⟩ := hq.hp
  refine ⟨g, cap, w5, hr, c5, f5, by omega, hide hp, hide hbg, hide ⟨hgrow.os, hgrow.tape, hgrow.output, by simp; omega, fun k hk h1 h2 => ?_, ?_, fun k hk => ?_⟩⟩
  · exact (Below.heap_setCell w5 ⟨hb, ho, none⟩ _ k (by show k ≠ hb; exact h1)).trans (hold k hk h2)
  · simp only [World.setCell, Array.getElem?_modify]
    rw [hhb]
  · have e : g = k := by simpa [Value.ownBlock] using hk
    subst e
    rcases hat with hat | hat
    · exact .inl hat
    · exact .inr (by omega)
end

section
/-- What is left when the top is taken out: the last one goes to the top and sinks. -/
def trimL (ms : List Mg) (y : Mg) (k : Nat) : List Mg := (ms.set 0 y).take k
theorem HpAt.cut {w : World} {hb ho g cap k : Nat} {ms : List Mg} (h : HpAt w hb ho g cap ms) (hk : ms.length = k + 1) {x : Mg} (hx : ms[0]? = some x) (y : Mg) :
    HpAt (((w.setCell ⟨g, 0, none⟩ (.int .i64 y.pri)).setCell ⟨g, 1, none⟩ (.int .i64 y.num)).setCell ⟨hb, ho, none⟩ (.slice (some ⟨g, 0, none⟩) k cap)) hb ho g cap (trimL ms y k) := by
  obtain ⟨c, fz, ne, lt, glt, cells, gfz, blk, room⟩ := h
  obtain ⟨x0, x1⟩ := cells 0 x hx
  have hlen : (trimL ms y k).length = k := by unfold trimL; rw [List.length_take, List.length_set]; omega
  simp only [Nat.zero_mul, Nat.zero_add] at x0 x1
  refine ⟨by rw [hlen]; simp [go_sem, c], by simp [go_sem, fz], ne, by simpa using lt, by simpa using glt, fun i m hm => ?_, fun j => by simp [go_sem, gfz], ?_, by rw [hlen]; omega⟩
  · have hi : i < k := by have := (List.getElem?_eq_some_iff.1 hm).1; omega
    unfold trimL at hm
    rw [List.getElem?_take, if_pos hi] at hm
    by_cases h0 : i = 0
    · subst h0
      rw [List.getElem?_set_self (by omega)] at hm
      simp at hm
      subst hm
      constructor <;> simp [go_sem, x0, x1]
    · rw [List.getElem?_set_ne (fun e => h0 e.symm)] at hm
      obtain ⟨m0, m1⟩ := cells i m hm
      constructor <;> simp [go_sem, m0, m1]
  · exact ((blk.set _ _).set _ _).same (Below.heap_setCell _ ⟨hb, ho, none⟩ _ g (by show g ≠ hb; exact ne))

theorem HqAt.below {w w' : World} {hb ho base : Nat} {v : Value} {ms : List Mg} (h : HqAt w hb ho v base ms) (hB : Below w.heap.size w w') : HqAt w' hb ho v base ms := by
  obtain ⟨hc, hf⟩ := bcell hB
  exact ⟨(hc hb ho h.lt).trans h.c, (hf hb ho h.lt).trans h.fz, Nat.lt_of_lt_of_le h.lt hB.size, ownsRow_below h.own hB (Nat.le_refl _), h.ne⟩
end

end Go.Proofs.YtfkcaldjphakpabGreatDoor
