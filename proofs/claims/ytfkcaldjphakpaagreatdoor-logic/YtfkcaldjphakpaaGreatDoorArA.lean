/- A list of properties as an argument of a law. -/
import Derived.Test.YtfkcaldjphakpaaGreatDoorEeB
import Derived.WalkKit
import Derived.ProofKit
import Derived.Deep.Slices
import Derived.Deep.Strs
import Derived.SizedLaws
import Derived.WideKeyArgs
import Derived.Laws.Rows
namespace Go.Proofs.YtfkcaldjphakpaaGreatDoor
open Go.ChangeShapes Go.WideShapes Go.ChangeAt Go.RowKit Go.Deep

theorem cellsProp : Tryz.prog.cellsOf 28 = 4 := by kernel_rfl
theorem cellsVal : Tryz.prog.cellsOf 26 = 3 := by kernel_rfl
theorem cellsStr : Tryz.prog.cellsOf 9 = 1 := by kernel_rfl
theorem cellsInt : Tryz.prog.cellsOf 3 = 1 := by kernel_rfl
theorem cellsI64 : Tryz.prog.cellsOf 2 = 1 := by kernel_rfl
theorem bytesProp : Tryz.prog.bytesOf 28 = 48 := by kernel_rfl

section
variable {H : Type} {enc : TypeId × Value → H}

theorem wf_rng {n : Int} (h : (Lit.int .i64 n).wf = true) : Rng n := by
  simp only [Lit.wf, Bool.and_eq_true, decide_eq_true_eq] at h
  exact ⟨h.1, h.2⟩

set_option maxRecDepth 100000 in
/-- A property, opened. -/
theorem open_prop {W : World} {base : Nat} {sp : Nat → Bool} {n : Nat} {cs : List Value} {x : DataW H × List MemPlace} (h : DataW.trod enc Tryz.prog W base sp true n 28 cs = some x) :
    ∃ (nm st : ByteArray) (k m : Int), cs = [.string nm, .int .i64 k, .int .i64 m, .string st] ∧ x = (.agg [.lit (.string nm.data.toList), .agg [.lit (.int .i64 k), .lit (.int .i64 m), .lit (.string st.data.toList)]], []) ∧ Rng m := by
  obtain ⟨y0, y1, n1, rfl, hl, t0, t1⟩ := trod_struct2 Tryz.underlying28 h
  rw [cellsProp] at hl
  match cs, hl with
  | [c0, c1, c2, c3], _ =>
    simp only [cellsStr, cellsVal, List.drop, List.take] at t0 t1
    obtain ⟨nm, h0, rfl, _⟩ := DataW.trod_string Tryz.underlying9 t0
    obtain ⟨z0, z1, z2, n2, rfl, _, u0, u1, u2⟩ := trod_struct3 Tryz.underlying26 t1
    simp only [cellsInt, cellsI64, cellsStr, List.drop, List.take] at u0 u1 u2
    obtain ⟨k, h1, rfl, _⟩ := DataW.trod_int Tryz.underlying3 u0
    obtain ⟨m, h2, rfl, wm⟩ := DataW.trod_int Tryz.underlying2 u1
    obtain ⟨st, h3, rfl, _⟩ := DataW.trod_string Tryz.underlying9 u2
    simp only [List.cons.injEq, and_true] at h0 h1 h2 h3
    subst h0 h1 h2 h3
    exact ⟨nm, st, k, m, rfl, rfl, wf_rng wm⟩

theorem weights_all {P : Program} {e : TypeId} {d : DataW H} : ∀ {l : List (DataW H)}, d ∈ l → ∀ n ∈ d.weights P e, n ∈ DataW.weightsAll P e l := by
  intro l
  induction l with
  | nil => intro h; cases h
  | cons a r ih =>
    intro h n hn
    rw [DataW.weightsAll]
    rcases List.mem_cons.1 h with rfl | h
    · exact List.mem_append_left _ hn
    · exact List.mem_append_right _ (ih h n hn)

set_option maxRecDepth 100000 in
theorem weights_prop (nm st : List UInt8) (k m : Int) : (DataW.agg [.lit (.string nm), .agg [.lit (.int .i64 k), .lit (.int .i64 m), .lit (.string st)]] : DataW H).weights Tryz.prog 28 = [nm.length, st.length] := by
  rw [DataW.weights, Tryz.underlying28]
  simp only [List.map, DataW.weightsEach, DataW.weights, Tryz.underlying26]
  rfl

set_option maxRecDepth 100000 in
/-- A list of properties, opened. -/
theorem open_event {W : World} {base : Nat} {v : Value} {d : DataW H} {pl : List MemPlace} (hval : Value.okWide Tryz.prog W .any base 29 v) (h : DataW.Trod enc Tryz.prog W 0 (fun _ => true) true 29 v d pl)
    (hw : ∀ n ∈ d.weights Tryz.prog 29, n ≤ reachBytes) : ∃ ps, EvIn W v ps ∧ EvGood ps := by
  obtain ⟨fuel, ht⟩ := h
  obtain ⟨a0, len0, cap0, rfl⟩ := okWide_slice Tryz.underlying29 hval
  rcases open_slice Tryz.underlying29 ht with ⟨hc, hx⟩ | ⟨a, len, cap, m, n, D, Pl, hc, _, hl, hm, hmm, hx, hall⟩
  · simp [Value.cells] at hc
    obtain ⟨rfl, rfl, rfl⟩ := hc
    exact ⟨[], .inl ⟨rfl, none, 0, rfl⟩, ⟨(fun p hp => by cases hp), (fun p hp => by cases hp), Nat.zero_le _⟩⟩
  · simp [Value.cells] at hc
    obtain ⟨rfl, rfl, rfl⟩ := hc
    simp only [if_true] at hmm
    subst hmm
    simp only [Prod.mk.injEq] at hx
    obtain ⟨rfl, rfl⟩ := hx
    rw [cellsProp] at hall
    have each : ∀ i, i < len0 → ∃ p : Pr, (W.cell? (a.add (i * 4)) = some (.string (BS p.name)) ∧ W.cell? (a.add (i * 4 + 1)) = some (.int .i64 p.val.kind) ∧ W.cell? (a.add (i * 4 + 2)) = some (.int .i64 p.val.num) ∧ W.cell? (a.add (i * 4 + 3)) = some (.string (BS p.val.str))) ∧ Rng p.val.num ∧
        D i = .agg [.lit (.string p.name), .agg [.lit (.int .i64 p.val.kind), .lit (.int .i64 p.val.num), .lit (.string p.val.str)]] := by
      intro i hi
      obtain ⟨cs', h1, h2⟩ := hall i (by omega)
      obtain ⟨nm, st, k, mm, rfl, hD, hr⟩ := open_prop h2
      simp only [Prod.mk.injEq] at hD
      obtain ⟨_, _, hcell⟩ := World.cells?_some h1
      have c0 := hcell 0 (by decide)
      have c1 := hcell 1 (by decide)
      have c2 := hcell 2 (by decide)
      have c3 := hcell 3 (by decide)
      rw [add_add] at c0 c1 c2 c3
      exact ⟨⟨nm.data.toList, ⟨k, mm, st.data.toList⟩⟩, ⟨c0, c1, c2, c3⟩, hr, hD.1⟩
    have inh : Inhabited Pr := ⟨⟨[], nV⟩⟩
    obtain ⟨f, hf⟩ := choose_lt each
    have hget : ∀ (k : Nat) (p : Pr), ((List.range len0).map f)[k]? = some p → k < len0 ∧ p = f k := by
      intro k p hk
      rw [List.getElem?_map] at hk
      cases hr : (List.range len0)[k]? with
      | none => rw [hr] at hk; cases hk
      | some j =>
        rw [hr] at hk
        obtain ⟨h1, h2⟩ := List.getElem?_eq_some_iff.1 hr
        rw [List.length_range] at h1
        rw [List.getElem_range] at h2
        subst h2
        exact ⟨h1, by simpa using hk.symm⟩
    have hlen : ((List.range len0).map f).length = len0 := by rw [List.length_map, List.length_range]
    have hmem : ∀ p ∈ (List.range len0).map f, ∃ k, k < len0 ∧ p = f k := by
      intro p hp
      obtain ⟨k, hk⟩ := List.getElem?_of_mem hp
      exact ⟨k, hget k p hk⟩
    have hwt := hw
    rw [DataW.weights, Tryz.underlying29] at hwt
    simp only [List.mem_cons, List.mem_append] at hwt
    refine ⟨(List.range len0).map f, ?_, ⟨?_, ?_, ?_⟩⟩
    · cases len0 with
      | zero => exact .inl ⟨rfl, some a, _, rfl⟩
      | succ l =>
        right
        obtain ⟨b, off, spot⟩ := a
        have hs : spot = none := by
          have := World.cell?_spot (hf 0 (by omega)).1.1
          simpa [Addr.add] using this
        subst hs
        have hadd : ∀ j, (⟨b, off, none⟩ : Addr).add j = ⟨b, off + j, none⟩ := by intro j; simp [Addr.add]
        refine ⟨b, off, _, by rw [hlen], by rw [hlen]; exact hl, ?_, ?_⟩
        · intro k p hk
          obtain ⟨hk1, rfl⟩ := hget k p hk
          obtain ⟨⟨c0, c1, c2, c3⟩, _, _⟩ := hf k hk1
          rw [hadd] at c0 c1 c2 c3
          exact ⟨c0, c1, c2, c3⟩
        · have := (hf 0 (by omega)).1.1
          rw [hadd] at this
          exact block_lt_of_cell this
    · intro p hp
      obtain ⟨k, hk, rfl⟩ := hmem p hp
      have hD := (hf k hk).2.2
      have hin : D k ∈ (List.range len0).map D := List.mem_map.2 ⟨k, List.mem_range.2 hk, rfl⟩
      have h2 := fun n hn => hwt n (.inr (.inl (weights_all hin n hn)))
      rw [hD, weights_prop] at h2
      have e1 := h2 _ (by simp : (f k).name.length ∈ [(f k).name.length, (f k).val.str.length])
      have e2 := h2 _ (by simp : (f k).val.str.length ∈ [(f k).name.length, (f k).val.str.length])
      unfold reachBytes at e1 e2
      exact ⟨by omega, by omega⟩
    · intro p hp
      obtain ⟨k, hk, rfl⟩ := hmem p hp
      exact (hf k hk).2.1
    · have := hwt _ (.inl rfl)
      rw [bytesProp, List.length_map, List.length_range] at this
      rw [hlen]
      unfold reachBytes at this
      omega

end
end Go.Proofs.YtfkcaldjphakpaaGreatDoor
