/- slices.Insert and slices.Clone of subscriptions. slices.Insert of subscriptions, in the middle. slices.Insert of subscriptions where there is room; slices.Clone. slices.Delete of one subscription. -/
import Derived.Test.YtfkcaldjphakpabGreatDoorT30
import Derived.Lib.SliceRun
namespace Go.Proofs.YtfkcaldjphakpabGreatDoor
open Go.RowKit
section
attribute [local go_sem ↓] qc8
def j4 (l : List Sb) : List Value := l.flatMap qa0
theorem qc6 (l : List Sb) : (j4 l).length = l.length * 3 := by
  induction l with
  | nil => rfl
  | cons a r ih => rw [j4, List.flatMap_cons, List.length_append, ← j4, ih]; simp [qa0]; omega
theorem qe2 (a b : List Sb) : j4 (a ++ b) = j4 a ++ j4 b := List.flatMap_append
theorem vb8 (l : List Sb) (k : Nat) (hk : k ≤ l.length) : j4 (l.take k) = (j4 l).take (k * 3) := by
  have h := qe2 (l.take k) (l.drop k)
  rw [List.take_append_drop] at h
  rw [h]
  exact (List.take_left' (by rw [qc6, List.length_take]; omega)).symm
theorem vb7 (l : List Sb) (k : Nat) (hk : k ≤ l.length) : j4 (l.drop k) = (j4 l).drop (k * 3) := by
  have h := qe2 (l.take k) (l.drop k)
  rw [List.take_append_drop] at h
  rw [h]
  exact (List.drop_left' (by rw [qc6, List.length_take]; omega)).symm
theorem qh6 (l : List Sb) : ∀ v ∈ j4 l, v.oneCell' = true := by
  intro v hv
  obtain ⟨s, _, hs⟩ := List.mem_flatMap.1 hv
  simp [qa0] at hs
  rcases hs with rfl | rfl | rfl <;> rfl
theorem vd2 : (Tryz.prog.info? 83).map (fun i => (i.zero, i.size, i.bytes)) = some (some (.agg #[.int .i64 0, .pointer none, .slice none 0 0]), 3, 40) := by kernel_rfl
abbrev SbRow (w : World) (base : Nat) (v : Value) (l : List Sb) : Prop := w.ownsRow base 83 3 v l.length (j4 l)
def qv8 (l : List Sb) (k : Nat) (s : Sb) : List Sb := l.take k ++ s :: l.drop k
theorem qh1 (l : List Sb) (k : Nat) (s : Sb) : (qv8 l k s).length = l.length + 1 := by simp [qv8]; omega
theorem qd6 {w : World} {base size n : Nat} {e : TypeId} {v : Value} {xs : List Value} (h : w.ownsRow base e size v n xs) : (v = .slice none 0 0 ∧ n = 0) ∨ ∃ g cap, v = .slice (some ⟨g, 0, none⟩) n cap := by
  rcases h.2 with ⟨h1, h2⟩ | ⟨g, cap, cur, rfl, _⟩
  · exact .inl ⟨h1, h2⟩
  · exact .inr ⟨g, cap, rfl⟩
def qr5 (w : World) (base : Nat) (v : Value) (l : List Sb) (e : Ending) (w' : World) : Prop := ∃ g cap, e = .returned (.slice (some ⟨g, 0, none⟩) l.length cap) ∧ SbRow w' base (.slice (some ⟨g, 0, none⟩) l.length cap) l ∧ w.grownBy w' v.ownBlock ∧ (v.ownBlock = some g ∨ w.heap.size ≤ g)
theorem app_sb {w : World} {base vb : Nat} {v : Value} {l : List Sb} {s : Sb} (hn : l.length ≤ 1000) (h : SbRow w base v l) (hv : w.heap[vb]? = some (.cells (qa0 s).toArray 83 (0, 0))) (hbase : base ≤ w.heap.size) (ty : TypeId) :
    ∃ g cap w', (qm1 #[62, 62] ty #[v, .slice (some ⟨vb, 0, none⟩) 1 1]).run Tryz.prog w = .ok (.slice (some ⟨g, 0, none⟩) (l.length + 1) cap) w' ∧ Hid (SbRow w' base (.slice (some ⟨g, 0, none⟩) (l.length + 1) cap) (l ++ [s])) ∧ Hid (w.grownBy w' v.ownBlock) ∧ Hid (v.ownBlock = some g ∨ w.heap.size ≤ g) := by
  obtain ⟨i0, hi, hz0, hz1, hz2⟩ := info_parts vd2
  obtain ⟨g, cap, w5, hr, hown, hgrow, hat, hlt5⟩ := run_append_lies (P := Tryz.prog) w 62 ty base 83 i0 _ 3 40 Tryz.underlying62 hi hz0 hz1 hz2 rfl (by omega) v l.length (j4 l) h
    ⟨vb, 0, none⟩ 1 1 (qa0 s) rfl (World.news_of_block (cs := (qa0 s).toArray) (t := 83) (fr := (0, 0)) hv) (fun u hu => qh6 [s] u (by simpa [j4] using hu)) (by omega) (by unfold maxLen; omega) (by omega) hbase _ rfl
  refine ⟨g, cap, w5, hr, v6 ?_, v6 hgrow, v6 ?_⟩
  · show w5.ownsRow base _ 3 _ (l ++ [s]).length (j4 (l ++ [s]))
    rw [List.length_append, List.length_singleton, qe2]
    have e : j4 [s] = qa0 s := by simp [j4]
    rw [e]
    exact hown
  · rcases hat with hat | hat
    · exact .inl hat
    · exact .inr (by omega)
set_option maxHeartbeats 2000000 in
theorem jt8 (l : List Sb) (s : Sb) (hn : l.length ≤ 1000) (v : Value) (base vb : Nat) (w : World) (h : SbRow w base v l) (hv : w.heap[vb]? = some (.cells (qa0 s).toArray 83 (0, 0))) (hbase : base ≤ w.heap.size) :
    Calls Tryz.prog 32 #[v, .int .i64 l.length, .slice (some ⟨vb, 0, none⟩) 1 1] w (qr5 w base v (qv8 l l.length s)) := by
  obtain ⟨g, cap, w5, hap, HO, HG, HA⟩ := app_sb hn h hv hbase 62
  have HE : Hid (qr5 w base v (qv8 l l.length s) (.returned (.slice (some ⟨g, 0, none⟩) (l.length + 1) cap)) w5) := v6 (by
    have e : qv8 l l.length s = l ++ [s] := by simp [qv8]
    rw [e]
    refine ⟨g, cap, by simp, ?_, q9 HG, q9 HA⟩
    have := q9 HO
    rwa [List.length_append, List.length_singleton])
  have hf := qd6 h
  generalize qr5 w base v (qv8 l l.length s) = Q at *
  obtain ⟨n, hnl⟩ : ∃ n, l.length = n := ⟨_, rfl⟩
  rw [hnl] at hap HE hf hn ⊢
  clear h HO HG HA hv hnl
  rcases hf with ⟨rfl, rfl⟩ | ⟨g0, c0, rfl⟩
  · go_enter Tryz.func32, Tryz.ntmps32
    go_wp2_with fail
    exact q9 HE
  · by_cases hc : c0 = n
    · subst hc
      go_enter Tryz.func32, Tryz.ntmps32
      go_wp2_with fail
      exact q9 HE
    · go_enter Tryz.func32, Tryz.ntmps32
      go_wp2_with fail
      exact q9 HE
end
section
attribute [local go_sem ↓] qc8
def vh7 (ats : Array TypeId) (ty : TypeId) (args : Array Value) : Sem Value := Builtin.copy_ ats ty args
theorem vy0 (ats : Array TypeId) (ty : TypeId) (args : Array Value) : Builtin.copy_ ats ty args = vh7 ats ty args := rfl
attribute [local go_sem ↓] vy0
theorem qj3 (g o j : Nat) : (⟨g, o, none⟩ : Addr).add j = ⟨g, o + j, none⟩ := by unfold Addr.add; split <;> simp_all
theorem vy8 {l : List Sb} {k : Nat} (hk : k ≤ l.length) (s : Sb) : j4 (qv8 l k s) = (j4 l).take (k * 3) ++ qa0 s ++ (j4 l).drop (k * 3) := by
  unfold qv8
  rw [qe2, vb8 l k hk, ← List.singleton_append, qe2, vb7 l k hk, List.append_assoc]
  congr 2
theorem put_put {cur : Array Value} {o : Nat} {a b : List Value} (h : o + a.length + b.length ≤ cur.size) : (qh3 (qh3 cur o a) (o + a.length) b).toList.take (o + a.length + b.length) = cur.toList.take o ++ a ++ b := by
  rw [qj0, qj0]
  have h1 : (cur.toList.take o ++ a ++ cur.toList.drop (o + a.length)).take (o + a.length) = cur.toList.take o ++ a := List.take_left' (by simp; omega)
  rw [h1]
  exact List.take_left' (by simp; omega)
theorem put_put' {cur : Array Value} {o : Nat} {a b : List Value} (h : o + a.length + b.length ≤ cur.size) : (qh3 (qh3 cur (o + a.length) b) o a).toList.take (o + a.length + b.length) = cur.toList.take o ++ a ++ b := by
  rw [qj0, qj0]
  have h1 : (cur.toList.take (o + a.length) ++ b ++ cur.toList.drop (o + a.length + b.length)).take o = cur.toList.take o := by
    rw [List.append_assoc, List.take_append_of_le_length (by simp; omega), List.take_take]
    congr 1
    omega
  have h2 : (cur.toList.take (o + a.length) ++ b ++ cur.toList.drop (o + a.length + b.length)).drop (o + a.length) = b ++ cur.toList.drop (o + a.length + b.length) := by
    rw [List.append_assoc]
    exact List.drop_left' (by simp; omega)
  rw [h1, h2, ← List.append_assoc]
  exact List.take_left' (by simp; omega)
theorem sb_src {w : World} {base g n cap : Nat} {xs : List Value} {e : TypeId} (h : w.ownsRow base e 3 (.slice (some ⟨g, 0, none⟩) n cap) n xs) (k : Nat) : ∀ j v, (xs.drop k)[j]? = some v → w.cell? ((⟨g, k, none⟩ : Addr).add j) = some v := by
  intro j v hj
  rw [List.getElem?_drop] at hj
  have := World.ownsRow.cells h (g := g) rfl (k + j) v hj
  rw [qj3] at this ⊢
  rw [Nat.zero_add] at this
  exact this
theorem ins_grow {w : World} {base g n c k vb : Nat} {l : List Sb} {s : Sb} (hn : l.length = n) (h : SbRow w base (.slice (some ⟨g, 0, none⟩) n c) l) (hk : k < n) (hc : c = n) (hn8 : n ≤ 1000) (hv : w.heap[vb]? = some (.cells (qa0 s).toArray 83 (0, 0))) (hbase : base ≤ w.heap.size) :
    ∃ H G w5 w6 w7, (qm1 #[62, 3] 62 #[.slice (some ⟨g, 0, none⟩) k c, .int .i64 ((n : Int) + 1 - (k : Int))]).run Tryz.prog w = .ok (.slice (some ⟨H, 0, none⟩) (n + 1) G) w5 ∧
      (∀ ty dc, (vh7 #[62, 62] ty #[.slice (some ⟨H, k * 3, none⟩) (n + 1 - k) dc, .slice (some ⟨vb, 0, none⟩) 1 1]).run Tryz.prog w5 = .ok (goInt 1) w6) ∧
      (∀ ty dc sc, (vh7 #[62, 62] ty #[.slice (some ⟨H, (k + 1) * 3, none⟩) (n - k) dc, .slice (some ⟨g, k * 3, none⟩) (n - k) sc]).run Tryz.prog w6.drew = .ok (goInt ((n - k : Nat) : Int)) w7) ∧
      n + 1 ≤ G ∧ G ≤ maxLen ∧ Hid (SbRow w7 base (.slice (some ⟨H, 0, none⟩) (n + 1) G) (qv8 l k s)) ∧ Hid (w.grownBy w7 (some g)) ∧ Hid (w.heap.size ≤ H) := by
  subst hc
  obtain ⟨i0, hi, hz0, hz1, hz2⟩ := info_parts vd2
  have h' : w.ownsRow base 83 3 (.slice (some ⟨g, 0, none⟩) c c) c (j4 l) := by have := h; unfold SbRow at this; rwa [hn] at this
  obtain ⟨hbg, _, hcm, cur, hcur, hcs, hct⟩ := qe1 h'
  have hsz : (Tryz.prog.info? 83).map (·.size) = some 3 := by rw [hi]; simp [hz1]
  have hgl : g < w.heap.size := (Array.getElem?_eq_some_iff.1 hcur).1
  have hvl : vb < w.heap.size := (Array.getElem?_eq_some_iff.1 hv).1
  have hll := qc6 l
  rw [hn] at hll
  have hkl : ((j4 l).take (k * 3)).length = k * 3 := by rw [List.length_take]; omega
  have hdl : ((j4 l).drop (k * 3)).length = (c - k) * 3 := by rw [List.length_drop, hll]; omega
  have hold : (Builtin.firstCells i0.size k (.slice (some ⟨g, 0, none⟩) k c)).run Tryz.prog w.drew = .ok ((j4 l).take (k * 3)).toArray w.drew := by
    rw [hz1]
    exact run_firstCells_some w.drew 3 k ⟨g, 0, none⟩ k c ((j4 l).take (k * 3)) hkl (fun j v hj => by
      rw [List.getElem?_take] at hj
      split at hj
      · exact World.ownsRow.cells h' (g := g) rfl j v hj
      · cases hj)
  have hz := Lib.run_append_grow_zeros w 62 3 62 83 i0 _ .i64 .i64 Tryz.underlying62 Tryz.underlying3 hi hz0 (some ⟨g, 0, none⟩) k c ((j4 l).take (k * 3)) hold (c + 1 - k) (by omega) (by omega) (by omega) (by omega) (by rw [hz2]; omega) (by rw [hz2, show k + (c + 1 - k) = c + 1 by omega]; exact growslice_fits (by omega) (by omega))
  rw [show k + (c + 1 - k) = c + 1 by omega, show ((c + 1 - k : Nat) : Int) = (c : Int) + 1 - (k : Int) by omega] at hz
  have hG1 : c + 1 ≤ grownCap w (c + 1) c 83 := grownCap_ge w _ _ _
  have hG2 : grownCap w (c + 1) c 83 ≤ maxLen := grownCap_le_maxLen w (c + 1) c 83 (by unfold maxLen; omega)
  generalize grownCap w (c + 1) c 83 = G at *
  obtain ⟨ROW, hROW⟩ : ∃ ROW : Array Value, ROW = ((j4 l).take (k * 3)).toArray ++ Builtin.zeroCells (Value.cells (.agg #[.int .i64 0, .pointer none, .slice none 0 0])) (c + 1 - k) ++ Builtin.zeroCells (Value.cells (.agg #[.int .i64 0, .pointer none, .slice none 0 0])) (G - (c + 1)) := ⟨_, rfl⟩
  rw [← hROW] at hz
  have hcz : (Value.cells (.agg #[.int .i64 0, .pointer none, .slice none 0 0])).size = 3 := by decide +kernel
  have hRs : ROW.size = G * 3 := by
    rw [hROW]
    simp only [Array.size_append, List.size_toArray, hkl, Builtin.zeroCells, Array.size_map, Array.size_range, hcz]
    omega
  have hRt : ROW.toList.take (k * 3) = (j4 l).take (k * 3) := by
    rw [hROW]
    simp only [Array.toList_append, List.append_assoc]
    exact List.take_left' hkl
  have hnew : (w.drew.alloc (.cells ROW 83)).heap[w.heap.size]? = some (.cells ROW 83 (0, 0)) := heap_alloc_new w.drew _
  have hsl : (qa0 s).length = 3 := rfl
  have B0 : Below w.heap.size w (w.drew.alloc (.cells ROW 83)) := (Below.refl _ _).drew.alloc (Nat.le_refl _) _
  obtain ⟨bc, _⟩ := j5 B0
  have hA := fun ty dc => qp0 (P := Tryz.prog) (w.drew.alloc (.cells ROW 83)) 62 62 ty 83 3 w.heap.size (k * 3) (c + 1 - k) dc 1 ⟨vb, 0, none⟩ 1 1 ROW _ (qa0 s) Tryz.underlying62 hsz hnew (by simp only [Nat.min_def]; split <;> omega) hsl
    (fun j v hj => by
      rw [qj3, bc vb _ hvl]
      have := World.news_of_block (w := w) (cs := (qa0 s).toArray) (t := 83) (fr := (0, 0)) hv j v (by simpa using hj)
      rw [qj3] at this
      exact this) (by rw [hsl, hRs]; omega) (fun u hu => qh6 [s] u (by simpa [j4] using hu))
  have h6 : ((w.drew.alloc (.cells ROW 83)).setRow w.heap.size (qh3 ROW (k * 3) (qa0 s))).heap[w.heap.size]? = some (.cells (qh3 ROW (k * 3) (qa0 s)) 83 (0, 0)) := setRow_heap _ _ _ _ _ _ hnew
  have hps : (qh3 ROW (k * 3) (qa0 s)).size = G * 3 := by rw [qp8 (by rw [hsl, hRs]; omega), hRs]
  have hB := fun ty dc sc => qp0 (P := Tryz.prog) ((w.drew.alloc (.cells ROW 83)).setRow w.heap.size (qh3 ROW (k * 3) (qa0 s))).drew 62 62 ty 83 3 w.heap.size ((k + 1) * 3) (c - k) dc (c - k) ⟨g, k * 3, none⟩ (c - k) sc (qh3 ROW (k * 3) (qa0 s)) _ ((j4 l).drop (k * 3)) Tryz.underlying62 hsz h6 (by simp only [Nat.min_def]; split <;> omega) hdl
    (fun j v hj => by
      have := sb_src h' (k * 3) j v hj
      rw [qj3] at this ⊢
      show ((w.drew.alloc (.cells ROW 83)).setRow w.heap.size (qh3 ROW (k * 3) (qa0 s))).cell? _ = _
      rw [cell_setRow_other _ _ _ _ (by show g ≠ _; omega), bc g _ hgl]
      exact this) (by rw [hdl, hps]; omega) (fun u hu => qh6 l u (List.mem_of_mem_drop hu))
  refine ⟨w.heap.size, G, _, _, _, hz, hA, hB, hG1, hG2, v6 ?_, v6 ?_, v6 (Nat.le_refl _)⟩
  · show World.ownsRow _ base _ 3 _ (qv8 l k s).length (j4 (qv8 l k s))
    rw [qh1, hn, vy8 (by omega)]
    refine ⟨by simp only [List.length_append, hkl, hdl, hsl]; omega, .inr ⟨w.heap.size, G, _, rfl, hbase, setRow_heap _ _ _ _ _ _ h6, hG1, hG2, ?_, ?_⟩⟩
    · rw [qp8 (by rw [hdl, hps]; omega), hps]
    · have := put_put (cur := ROW) (o := k * 3) (a := qa0 s) (b := (j4 l).drop (k * 3)) (by rw [hsl, hdl, hRs]; omega)
      rw [hsl, hdl, hRt] at this
      rw [show (c + 1) * 3 = k * 3 + 3 + (c - k) * 3 by omega, show (k + 1) * 3 = k * 3 + 3 by omega]
      exact this
  · refine jf9 (g := w.heap.size) (b := w.drew.alloc (.cells ROW 83)) ⟨B0.os, B0.tape, B0.output, B0.size, fun i h1 _ => B0.block i h1⟩ ?_ (Nat.le_refl _)
    have g1 := qg5 (w.drew.alloc (.cells ROW 83)) w.heap.size (qh3 ROW (k * 3) (qa0 s))
    exact qt6 (b := ((w.drew.alloc (.cells ROW 83)).setRow w.heap.size (qh3 ROW (k * 3) (qa0 s))).drew) ⟨g1.os, g1.tape, g1.output, g1.size, g1.block⟩ (qg5 _ _ _)
set_option maxHeartbeats 2000000 in
set_option maxRecDepth 100000 in
theorem jg4 (l : List Sb) (s : Sb) (n k c g : Nat) (hn : l.length = n) (base vb : Nat) (w : World) (h : SbRow w base (.slice (some ⟨g, 0, none⟩) n c) l) (hk : k < n) (hc : c = n) (hn8 : n ≤ 1000) (hv : w.heap[vb]? = some (.cells (qa0 s).toArray 83 (0, 0))) (hbase : base ≤ w.heap.size) :
    Calls Tryz.prog 32 #[.slice (some ⟨g, 0, none⟩) n c, .int .i64 k, .slice (some ⟨vb, 0, none⟩) 1 1] w (qr5 w base (.slice (some ⟨g, 0, none⟩) n c) (qv8 l k s)) := by
  obtain ⟨H, G, w5, w6, w7, hap, hcA, hcB, hG1, hG2, HO, HG, HA⟩ := ins_grow hn h hk hc hn8 hv hbase
  have HE : Hid (qr5 w base (.slice (some ⟨g, 0, none⟩) n c) (qv8 l k s) (.returned (.slice (some ⟨H, 0, none⟩) (n + 1) G)) w7) := v6 (by
    have e : (qv8 l k s).length = n + 1 := by rw [qh1, hn]
    refine ⟨H, G, by rw [e], ?_, q9 HG, .inr (q9 HA)⟩
    have := q9 HO
    rwa [e])
  generalize qr5 w base (.slice (some ⟨g, 0, none⟩) n c) (qv8 l k s) = Q at *
  subst hc
  unfold maxLen at hG2
  have hz2 : ¬ ((k : Int) = (c : Int)) := by omega
  have hz3 : (c : Int) < (c : Int) + 1 := by omega
  have hw1 : IntKind.i64.wrap ((k : Int) + 1) = (k : Int) + 1 := by rw [IntKind.wrap_i64]; omega
  have hw2 : IntKind.i64.wrap ((c : Int) + 1) = (c : Int) + 1 := by rw [IntKind.wrap_i64]; omega
  have hw3 : IntKind.i64.wrap ((c : Int) + 1 - (k : Int)) = (c : Int) + 1 - (k : Int) := by rw [IntKind.wrap_i64]; omega
  have hb0 : (0 : Int) ≤ (k : Int) := by omega
  have hb1 : (0 : Int) ≤ (k : Int) + 1 := by omega
  have hin : k ≤ c := by omega
  have hin2 : (k : Int) ≤ (c : Int) := by omega
  have htn : ((k : Int) + 1).toNat = k + 1 := by omega
  have hGi : ¬ (G = k) := by omega
  have hGim : ¬ (G = k + 1) := by omega
  have hci : ¬ (c = k) := by omega
  clear h HO HG HA hv hn
  go_enter Tryz.func32, Tryz.ntmps32
  go_wp2_with fail
  go_region
  all_goals go_wp2_with fail
  all_goals exact q9 HE
end
section
attribute [local go_sem ↓] qc8
attribute [local go_sem ↓] vy0
theorem jh2 {w : World} {g vb o lb cb cap : Nat} {cur : Array Value} {s : Sb} (hne : vb ≠ g) (hv : w.heap[vb]? = some (.cells (qa0 s).toArray 83 (0, 0))) (hg : w.heap[g]? = some (.cells cur 83 (0, 0))) (hc : cur.size = cap) (hc0 : cap ≠ 0) :
    (callFunc 59 #[.slice (some ⟨vb, 0, none⟩) 1 1, .slice (some ⟨g, o, none⟩) lb cb]).run Tryz.prog w = .ok (.value (.bool false)) w := by
  obtain ⟨i0, hi, hz0, hz1, hz2⟩ := info_parts vd2
  have hz : ∀ w, (Go.sizeOf 83).run Tryz.prog w = .ok 3 w := fun w => by simp [sizeOf, typeInfo, hi, hz1]
  rw [run_callFunc_extern Tryz.func59 (by kernel_rfl) (by kernel_rfl) (by kernel_rfl) (e := Extern.SlicesOverlaps.overlaps #[62, 62] #[4]) (by kernel_rfl),
    Lib.run_overlaps_apart w 62 4 83 Tryz.underlying62 3 hz ⟨vb, 0, none⟩ ⟨g, o, none⟩ 1 1 lb cb hne 83 83 3 cap (by simp [World.shape?, hv, qa0]) (by simp [World.shape?, hg, hc]) hc0 (by simp [World.frozen?, hv]) (by simp [World.frozen?, hv])]
  rfl
theorem ins_room {w : World} {base g n c k vb : Nat} {l : List Sb} {s : Sb} (hn : l.length = n) (h : SbRow w base (.slice (some ⟨g, 0, none⟩) n c) l) (hk : k < n) (hc : n < c) (hne : vb ≠ g) (hv : w.heap[vb]? = some (.cells (qa0 s).toArray 83 (0, 0))) :
    ∃ w6 w7, (∀ o lb cb, (callFunc 59 #[.slice (some ⟨vb, 0, none⟩) 1 1, .slice (some ⟨g, o, none⟩) lb cb]).run Tryz.prog w = .ok (.value (.bool false)) w) ∧
      (∀ ty dc sc, (vh7 #[62, 62] ty #[.slice (some ⟨g, (k + 1) * 3, none⟩) (n - k) dc, .slice (some ⟨g, k * 3, none⟩) (n + 1 - k) sc]).run Tryz.prog w.drew = .ok (goInt ((n - k : Nat) : Int)) w6) ∧
      (∀ ty dc, (vh7 #[62, 62] ty #[.slice (some ⟨g, k * 3, none⟩) (n + 1 - k) dc, .slice (some ⟨vb, 0, none⟩) 1 1]).run Tryz.prog w6 = .ok (goInt 1) w7) ∧
      c ≤ maxLen ∧ Hid (SbRow w7 base (.slice (some ⟨g, 0, none⟩) (n + 1) c) (qv8 l k s)) ∧ Hid (w.grownBy w7 (some g)) := by
  obtain ⟨i0, hi, hz0, hz1, hz2⟩ := info_parts vd2
  have h' : w.ownsRow base 83 3 (.slice (some ⟨g, 0, none⟩) n c) n (j4 l) := by have := h; unfold SbRow at this; rwa [hn] at this
  obtain ⟨hbg, _, hcm, cur, hcur, hcs, hct⟩ := qe1 h'
  have hsz : (Tryz.prog.info? 83).map (·.size) = some 3 := by rw [hi]; simp [hz1]
  have hll := qc6 l
  rw [hn] at hll
  have hkl : ((j4 l).take (k * 3)).length = k * 3 := by rw [List.length_take]; omega
  have hdl : ((j4 l).drop (k * 3)).length = (n - k) * 3 := by rw [List.length_drop, hll]; omega
  have hsl : (qa0 s).length = 3 := rfl
  have hA := fun ty dc sc => qp0 (P := Tryz.prog) w.drew 62 62 ty 83 3 g ((k + 1) * 3) (n - k) dc (n - k) ⟨g, k * 3, none⟩ (n + 1 - k) sc cur _ ((j4 l).drop (k * 3)) Tryz.underlying62 hsz hcur (by simp only [Nat.min_def]; split <;> omega) hdl
    (fun j v hj => sb_src h' (k * 3) j v hj) (by rw [hdl, hcs]; omega) (fun u hu => qh6 l u (List.mem_of_mem_drop hu))
  have h6 : (w.drew.setRow g (qh3 cur ((k + 1) * 3) ((j4 l).drop (k * 3)))).heap[g]? = some (.cells (qh3 cur ((k + 1) * 3) ((j4 l).drop (k * 3))) 83 (0, 0)) := setRow_heap _ _ _ _ _ _ hcur
  have hps : (qh3 cur ((k + 1) * 3) ((j4 l).drop (k * 3))).size = c * 3 := by rw [qp8 (by rw [hdl, hcs]; omega), hcs]
  have hB := fun ty dc => qp0 (P := Tryz.prog) (w.drew.setRow g (qh3 cur ((k + 1) * 3) ((j4 l).drop (k * 3)))) 62 62 ty 83 3 g (k * 3) (n + 1 - k) dc 1 ⟨vb, 0, none⟩ 1 1 (qh3 cur ((k + 1) * 3) ((j4 l).drop (k * 3))) _ (qa0 s) Tryz.underlying62 hsz h6 (by simp only [Nat.min_def]; split <;> omega) hsl
    (fun j v hj => by
      rw [qj3, cell_setRow_other _ _ _ _ (by show vb ≠ g; exact hne)]
      have := World.news_of_block (w := w) (cs := (qa0 s).toArray) (t := 83) (fr := (0, 0)) hv j v (by simpa using hj)
      rw [qj3] at this
      exact this) (by rw [hsl, hps]; omega) (fun u hu => qh6 [s] u (by simpa [j4] using hu))
  refine ⟨_, _, fun o lb cb => jh2 hne hv hcur hcs (by omega), hA, hB, hcm, v6 ?_, v6 ?_⟩
  · show World.ownsRow _ base _ 3 _ (qv8 l k s).length (j4 (qv8 l k s))
    rw [qh1, hn, vy8 (by omega)]
    refine ⟨by simp only [List.length_append, hkl, hdl, hsl]; omega, .inr ⟨g, c, _, rfl, hbg, setRow_heap _ _ _ _ _ _ h6, by omega, hcm, ?_, ?_⟩⟩
    · rw [qp8 (by rw [hsl, hps]; omega), hps]
    · have := put_put' (cur := cur) (o := k * 3) (a := qa0 s) (b := (j4 l).drop (k * 3)) (by rw [hsl, hdl, hcs]; omega)
      have ht : cur.toList.take (k * 3) = (j4 l).take (k * 3) := by
        have := congrArg (List.take (k * 3)) hct
        rw [List.take_take, Nat.min_eq_left (by omega)] at this
        exact this
      rw [hsl, hdl, ht] at this
      rw [show (n + 1) * 3 = k * 3 + 3 + (n - k) * 3 by omega, show (k + 1) * 3 = k * 3 + 3 by omega]
      exact this
  · have g1 := qg5 w g (qh3 cur ((k + 1) * 3) ((j4 l).drop (k * 3)))
    exact qt6 (b := w.drew.setRow g (qh3 cur ((k + 1) * 3) ((j4 l).drop (k * 3)))) ⟨g1.os, g1.tape, g1.output, g1.size, g1.block⟩ (qg5 _ _ _)
set_option maxHeartbeats 2000000 in
set_option maxRecDepth 100000 in
theorem jg5 (l : List Sb) (s : Sb) (n k c g : Nat) (hn : l.length = n) (base vb : Nat) (w : World) (h : SbRow w base (.slice (some ⟨g, 0, none⟩) n c) l) (hk : k < n) (hc : n < c) (hn8 : n ≤ 1000) (hne : vb ≠ g) (hv : w.heap[vb]? = some (.cells (qa0 s).toArray 83 (0, 0))) :
    Calls Tryz.prog 32 #[.slice (some ⟨g, 0, none⟩) n c, .int .i64 k, .slice (some ⟨vb, 0, none⟩) 1 1] w (qr5 w base (.slice (some ⟨g, 0, none⟩) n c) (qv8 l k s)) := by
  obtain ⟨w6, w7, hov, hcA, hcB, hcm, HO, HG⟩ := ins_room hn h hk hc hne hv
  have HE : Hid (qr5 w base (.slice (some ⟨g, 0, none⟩) n c) (qv8 l k s) (.returned (.slice (some ⟨g, 0, none⟩) (n + 1) c)) w7) := v6 (by
    have e : (qv8 l k s).length = n + 1 := by rw [qh1, hn]
    refine ⟨g, c, by rw [e], ?_, q9 HG, .inl rfl⟩
    have := q9 HO
    rwa [e])
  generalize qr5 w base (.slice (some ⟨g, 0, none⟩) n c) (qv8 l k s) = Q at *
  unfold maxLen at hcm
  have hz2 : ¬ ((k : Int) = (n : Int)) := by omega
  have hz3 : ¬ ((c : Int) < (n : Int) + 1) := by omega
  have hz4 : (n : Int) + 1 ≤ (c : Int) := by omega
  have hw1 : IntKind.i64.wrap ((k : Int) + 1) = (k : Int) + 1 := by rw [IntKind.wrap_i64]; omega
  have hw2 : IntKind.i64.wrap ((n : Int) + 1) = (n : Int) + 1 := by rw [IntKind.wrap_i64]; omega
  have hb0 : (0 : Int) ≤ (k : Int) := by omega
  have hb1 : (0 : Int) ≤ (k : Int) + 1 := by omega
  have hb2 : (0 : Int) ≤ (n : Int) + 1 := by omega
  have hin : k ≤ n := by omega
  have hin2 : (k : Int) ≤ (n : Int) := by omega
  have hin3 : (k : Int) ≤ (n : Int) + 1 := by omega
  have htn : ((k : Int) + 1).toNat = k + 1 := by omega
  have htn2 : ((n : Int) + 1).toNat = n + 1 := by omega
  have hci : ¬ (c = k) := by omega
  have hci1 : ¬ (c = k + 1) := by omega
  clear h HO HG hv hn
  go_enter Tryz.func32, Tryz.ntmps32
  go_wp2_with (simp only [hov])
  go_region
  all_goals go_wp2_with fail
  all_goals exact q9 HE
theorem vq2 (l : List Sb) (s : Sb) (k : Nat) (hk : k ≤ l.length) (hn8 : l.length ≤ 1000) (v : Value) (base vb : Nat) (w : World) (h : SbRow w base v l) (hne : v.ownBlock ≠ some vb) (hv : w.heap[vb]? = some (.cells (qa0 s).toArray 83 (0, 0))) (hbase : base ≤ w.heap.size) :
    Calls Tryz.prog 32 #[v, .int .i64 k, .slice (some ⟨vb, 0, none⟩) 1 1] w (qr5 w base v (qv8 l k s)) := by
  by_cases he : k = l.length
  · subst he
    exact jt8 l s hn8 v base vb w h hv hbase
  · rcases qd6 h with ⟨_, h0⟩ | ⟨g, c, rfl⟩
    · omega
    · have hnc := (qe1 h).2.1
      by_cases hc : c = l.length
      · exact jg4 l s l.length k c g rfl base vb w h (by omega) hc hn8 hv hbase
      · exact jg5 l s l.length k c g rfl base vb w h (by omega) (by omega) hn8 (fun e => hne (by rw [e]; rfl)) hv
def vw4 (w : World) (l : List Sb) (e : Ending) (w' : World) : Prop := ∃ v', e = .returned v' ∧ SbRow w' w.heap.size v' l ∧ Below w.heap.size w w'
theorem clone_run {w : World} {base g c : Nat} {l : List Sb} (hn : l.length ≤ 1000) (h : SbRow w base (.slice (some ⟨g, 0, none⟩) l.length c) l) :
    ∃ v' w', (qm1 #[62, 62] 62 #[.slice (some ⟨w.heap.size, 0, none⟩) 0 0, .slice (some ⟨g, 0, none⟩) l.length c]).run Tryz.prog (w.alloc (.cells #[] 83)) = .ok v' w' ∧ Hid (vw4 w l (.returned v') w') := by
  obtain ⟨i0, hi, hz0, hz1, hz2⟩ := info_parts vd2
  have hg : g < w.heap.size := by
    obtain ⟨_, _, _, cur, hcur, _⟩ := qe1 h
    exact (Array.getElem?_eq_some_iff.1 hcur).1
  have hmade := World.ownsRow_made (base := w.heap.size) (e := 83) (size := 3) w #[] 0 (Nat.le_refl _) (Nat.zero_le _) rfl
  have h2 := h.alloc (.cells #[] 83)
  obtain ⟨v', w', hr, ho, hgr, _, _⟩ := run_append_own_at (P := Tryz.prog) (w.alloc (.cells #[] 83)) w.heap.size 62 62 83 i0 _ 3 40 Tryz.underlying62 hi hz0 hz1 hz2 rfl (by omega) _ 0 [] hmade ⟨g, 0, none⟩ l.length c (j4 l) (qc6 l) (fun j u hj => World.ownsRow.cells h2 (g := g) rfl j u hj) (qh6 l) (by unfold maxLen; omega) (by omega) (by simp)
  refine ⟨v', w', hr, v6 ⟨v', rfl, ?_, ?_⟩⟩
  · show World.ownsRow _ _ _ _ _ _ _
    simpa using ho
  · refine ⟨hgr.os, hgr.tape, hgr.output, by have := hgr.size; simp at this; omega, fun k hk => (hgr.block k (by simp; omega) (fun e => ?_)).trans (Below.heap_alloc w _ k hk)⟩
    simp [Value.ownBlock] at e
    omega
set_option maxHeartbeats 2000000 in
set_option maxRecDepth 100000 in
theorem vh3 (l : List Sb) (hn : l.length ≤ 1000) (v : Value) (base : Nat) (w : World) (h : SbRow w base v l) :
    Calls Tryz.prog 33 #[v] w (vw4 w l) := by
  rcases qd6 h with ⟨rfl, h0⟩ | ⟨g, c, rfl⟩
  · have HE : Hid (vw4 w l (.returned (.slice none 0 0)) w) := v6 ⟨_, rfl, by
      have e : l = [] := List.length_eq_zero_iff.1 h0
      subst e
      exact World.ownsRow_nil _ _ _ _, Below.refl _ _⟩
    generalize vw4 w l = Q at *
    have hq := fun w => Lib.run_eql_slice_nil (P := Tryz.prog) w 62 _ none 0 0 0 0 Tryz.underlying62
    simp only [Option.isNone_none] at hq
    clear h
    go_enter Tryz.func33, Tryz.ntmps33
    go_wp2_with fail
    exact q9 HE
  · obtain ⟨v', w', hap, HE⟩ := clone_run hn h
    generalize vw4 w l = Q at *
    generalize l.length = n at *
    have hq := fun w => Lib.run_eql_slice_nil (P := Tryz.prog) w 62 _ (some ⟨g, 0, none⟩) n c 0 0 Tryz.underlying62
    simp only [Option.isNone_some] at hq
    clear h
    go_enter Tryz.func33, Tryz.ntmps33
    go_wp2_with fail
    exact q9 HE
end
section
attribute [local go_sem ↓] qc8
def jk5 (ats : Array TypeId) (ty : TypeId) (args : Array Value) : Sem Value := Builtin.clear_ ats ty args
theorem jr2 (ats : Array TypeId) (ty : TypeId) (args : Array Value) : Builtin.clear_ ats ty args = jk5 ats ty args := rfl
attribute [local go_sem ↓] jr2
def vs8 (l : List Sb) (k : Nat) : List Sb := l.take k ++ l.drop (k + 1)
theorem qt4 {l : List Sb} {k : Nat} (hk : k < l.length) : (vs8 l k).length = l.length - 1 := by simp [vs8]; omega
theorem del_cells {l : List Sb} {k : Nat} (hk : k < l.length) : j4 (vs8 l k) = (j4 l).take (k * 3) ++ (j4 l).drop ((k + 1) * 3) := by
  unfold vs8
  rw [qe2, vb8 l k (by omega), vb7 l (k + 1) (by omega)]
def vr7 (w : World) (base g c : Nat) (l : List Sb) (e : Ending) (w' : World) : Prop := e = .returned (.slice (some ⟨g, 0, none⟩) l.length c) ∧ SbRow w' base (.slice (some ⟨g, 0, none⟩) l.length c) l ∧ w.grownBy w' (some g)
theorem del_run {w : World} {base g c k n : Nat} {l : List Sb} (hn : l.length = n + 1) (h : SbRow w base (.slice (some ⟨g, 0, none⟩) (n + 1) c) l) (hk : k ≤ n) (a : Addr) (ha : k < n → a = ⟨g, (k + 1) * 3, none⟩) (sc : Nat) :
    ∃ w6 w7, (∀ ty, (qm1 #[62, 62] ty #[.slice (some ⟨g, 0, none⟩) k c, .slice (some a) (n - k) sc]).run Tryz.prog w.drew = .ok (.slice (some ⟨g, 0, none⟩) n c) w6) ∧
      (∀ ty dc, (jk5 #[62] ty #[.slice (some ⟨g, n * 3, none⟩) 1 dc]).run Tryz.prog w6 = .ok (.tuple #[]) w7) ∧
      n + 1 ≤ c ∧ c ≤ maxLen ∧ Hid (vr7 w base g c (vs8 l k) (.returned (.slice (some ⟨g, 0, none⟩) n c)) w7) := by
  obtain ⟨i0, hi, hz0, hz1, hz2⟩ := info_parts vd2
  have h' : w.ownsRow base 83 3 (.slice (some ⟨g, 0, none⟩) (n + 1) c) (n + 1) (j4 l) := by have := h; unfold SbRow at this; rwa [hn] at this
  obtain ⟨hbg, hnc, hcm, cur, hcur, hcs, hct⟩ := qe1 h'
  have hll := qc6 l
  rw [hn] at hll
  have hkl : ((j4 l).take (k * 3)).length = k * 3 := by rw [List.length_take]; omega
  have hdl : ((j4 l).drop ((k + 1) * 3)).length = (n - k) * 3 := by rw [List.length_drop, hll]; omega
  have hA := fun ty => vf8 (P := Tryz.prog) w.drew 62 ty 83 i0 3 g k c (n - k) sc a cur _ ((j4 l).drop ((k + 1) * 3)) Tryz.underlying62 hi hz1 hcur hdl (by omega)
    (fun j v hj => by
      by_cases hkn : k < n
      · rw [ha hkn]
        exact sb_src h' ((k + 1) * 3) j v hj
      · rw [List.getElem?_eq_none (by rw [hdl]; omega)] at hj
        cases hj) (by rw [hdl, hcs]; omega) (fun u hu => qh6 l u (List.mem_of_mem_drop hu))
  rw [show k + (n - k) = n by omega] at hA
  have h6 : (w.drew.setRow g (qh3 cur (k * 3) ((j4 l).drop ((k + 1) * 3)))).heap[g]? = some (.cells (qh3 cur (k * 3) ((j4 l).drop ((k + 1) * 3))) 83 (0, 0)) := setRow_heap _ _ _ _ _ _ hcur
  have hps : (qh3 cur (k * 3) ((j4 l).drop ((k + 1) * 3))).size = c * 3 := by rw [qp8 (by rw [hdl, hcs]; omega), hcs]
  have hzv : ∀ w, (zeroValue 83).run Tryz.prog w = .ok (.agg #[.int .i64 0, .pointer none, .slice none 0 0]) w := fun w => by simp [zeroValue, typeInfo, hi, hz0]
  have hz3 : (Value.cells (.agg #[.int .i64 0, .pointer none, .slice none 0 0])).size = 3 := by decide +kernel
  have hB := fun ty dc => jx0 (P := Tryz.prog) (w.drew.setRow g (qh3 cur (k * 3) ((j4 l).drop ((k + 1) * 3)))) 62 83 ty _ 3 g (n * 3) 0 dc _ _ Tryz.underlying62 hzv hz3 (by decide +kernel) h6 (by rw [hps]; omega)
  refine ⟨_, _, hA, hB, hnc, hcm, v6 ⟨by rw [qt4 (by omega), hn]; rfl, ?_, ?_⟩⟩
  · show World.ownsRow _ base _ 3 _ (vs8 l k).length (j4 (vs8 l k))
    rw [qt4 (by omega), hn, del_cells (by omega), show n + 1 - 1 = n by omega]
    have hzl := qv3 (Value.cells (.agg #[.int .i64 0, .pointer none, .slice none 0 0])) (0 + 1)
    rw [hz3] at hzl
    refine ⟨by simp only [List.length_append, hkl, hdl]; omega, .inr ⟨g, c, _, rfl, hbg, setRow_heap _ _ _ _ _ _ h6, by omega, hcm, ?_, ?_⟩⟩
    · rw [qp8 (by rw [hps, hzl]; omega), hps]
    · rw [qj0, List.append_assoc, List.take_append_of_le_length (by rw [List.length_take, Array.length_toList, hps]; omega), List.take_take, Nat.min_self, qj0]
      have ht : cur.toList.take (k * 3) = (j4 l).take (k * 3) := by
        have := congrArg (List.take (k * 3)) hct
        rw [List.take_take, Nat.min_eq_left (by omega)] at this
        exact this
      rw [ht]
      exact List.take_left' (by rw [List.length_append, hkl, hdl]; omega)
  · have g1 := qg5 w g (qh3 cur (k * 3) ((j4 l).drop ((k + 1) * 3)))
    exact qt6 (b := w.drew.setRow g (qh3 cur (k * 3) ((j4 l).drop ((k + 1) * 3)))) ⟨g1.os, g1.tape, g1.output, g1.size, g1.block⟩ (qg5 _ _ _)
set_option maxHeartbeats 2000000 in
set_option maxRecDepth 100000 in
theorem jr7 (l : List Sb) (n k c g : Nat) (hn : l.length = n + 1) (base : Nat) (w : World) (h : SbRow w base (.slice (some ⟨g, 0, none⟩) (n + 1) c) l) (hk : k ≤ n) (hn8 : n ≤ 1000) :
    Calls Tryz.prog 45 #[.slice (some ⟨g, 0, none⟩) (n + 1 : Nat) c, .int .i64 k, .int .i64 ((k : Int) + 1)] w (vr7 w base g c (vs8 l k)) := by
  have hnc := (qe1 (by have := h; unfold SbRow at this; rwa [hn] at this : w.ownsRow base 83 3 (.slice (some ⟨g, 0, none⟩) (n + 1) c) (n + 1) (j4 l))).2.1
  have hb0 : (0 : Int) ≤ (k : Int) := by omega
  have hb1 : (0 : Int) ≤ (k : Int) + 1 := by omega
  have hb2 : (k : Int) ≤ (k : Int) + 1 := by omega
  have hb3 : (k : Int) + 1 ≤ ((n + 1 : Nat) : Int) := by omega
  have hb4 : (k : Int) ≤ (c : Int) := by omega
  have hb5 : ((n + 1 : Nat) : Int) ≤ (c : Int) := by omega
  have hb6 : (n : Int) ≤ ((n + 1 : Nat) : Int) := by omega
  have hb7 : (k : Int) ≤ ((n + 1 : Nat) : Int) := by omega
  have hb8 : (n : Int) ≤ (c : Int) := by omega
  have hz2 : ¬ ((k : Int) = (k : Int) + 1) := by omega
  have htn : ((k : Int) + 1).toNat = k + 1 := by omega
  have hci : ¬ (c = k) := by omega
  have hcn : ¬ (c = n) := by omega
  have hnk : ¬ (n + 1 = k) := by omega
  have hs1 : n + 1 - n = 1 := by omega
  have hs2 : n + 1 - (k + 1) = n - k := by omega
  by_cases hck : c = k + 1
  · obtain rfl : n = k := by omega
    subst hck
    obtain ⟨w6, w7, hap, hcl, _, hcm, HE⟩ := del_run hn h hk ⟨g, 0, none⟩ (fun h => by omega) 0
    rw [Nat.sub_self] at hap
    generalize vr7 w base g (n + 1) (vs8 l n) = Q at *
    unfold maxLen at hcm
    clear h hn
    go_enter Tryz.func45, Tryz.ntmps45
    go_wp2_with fail
    go_region
    all_goals go_wp2_with fail
    all_goals exact q9 HE
  · obtain ⟨w6, w7, hap, hcl, _, hcm, HE⟩ := del_run hn h hk ⟨g, (k + 1) * 3, none⟩ (fun _ => rfl) (c - (k + 1))
    generalize vr7 w base g c (vs8 l k) = Q at *
    unfold maxLen at hcm
    clear h hn
    go_enter Tryz.func45, Tryz.ntmps45
    go_wp2_with fail
    go_region
    all_goals go_wp2_with fail
    all_goals exact q9 HE
end
end Go.Proofs.YtfkcaldjphakpabGreatDoor
