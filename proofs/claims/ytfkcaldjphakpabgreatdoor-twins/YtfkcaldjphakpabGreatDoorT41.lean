/- Gone: the book covers what there is. Twins: brokers beside one another. -/
import Derived.Test.YtfkcaldjphakpabGreatDoorT40
import Derived.Test.YtfkcaldjphakpabGreatDoorT22
import Derived.Deep.QuietTactic
import Derived.BigQuiet
namespace Go.Proofs.YtfkcaldjphakpabGreatDoor
open Go.RowKit
section
theorem ScrAt.below {w w' : World} {v : Value} {l : List Sc} (h : ScrAt w v l) (hb : Below w.heap.size w w') : ScrAt w' v l := by
  obtain ⟨a, cap, hv, hl, hc, hx⟩ := h
  refine ⟨a, cap, hv, hl, hc, fun i x hi => ?_⟩
  obtain ⟨ok, b, off, ha, hlt, c0, c1, c2, c3⟩ := hx i x hi
  exact ⟨⟨ok.text, ok.id, ok.ev.below hb, ok.good⟩, b, off, ha, Nat.lt_of_lt_of_le hlt hb.size, (hb.cell (p := ⟨b, off + i * 4, none⟩) hlt).trans c0, (hb.cell (p := ⟨b, off + i * 4 + 1, none⟩) hlt).trans c1, (hb.cell (p := ⟨b, off + i * 4 + 2, none⟩) hlt).trans c2, (hb.cell (p := ⟨b, off + i * 4 + 3, none⟩) hlt).trans c3⟩
end
section
set_option maxHeartbeats 800000 in
set_option maxRecDepth 100000 in
theorem sameZ (l : List Int) (va vb : Value) (ba bb : Nat) (w : World) (ha : ZsAt w ba va l) (hb : ZsAt w bb vb l) (h8 : l.length ≤ 1000) :
    Calls Tryz.prog 17 #[va, vb] w fun e w' => e = .returned (.bool true) ∧ Below w.heap.size w w' := by
  have HA : Hid (∀ k x, l[k]? = some x → ∃ g, va.ownBlock = some g ∧ g < w.heap.size ∧ w.cell? ⟨g, k, none⟩ = some (.int .i64 x)) := v6 fun k x hk => by
    obtain ⟨g, c, hv, hc⟩ := ha.cell hk
    have e : va.ownBlock = some g := by rw [hv]; rfl
    exact ⟨g, e, (ha.lt g e).2, hc⟩
  have HB : Hid (∀ k x, l[k]? = some x → ∃ g, vb.ownBlock = some g ∧ g < w.heap.size ∧ w.cell? ⟨g, k, none⟩ = some (.int .i64 x)) := v6 fun k x hk => by
    obtain ⟨g, c, hv, hc⟩ := hb.cell hk
    have e : vb.ownBlock = some g := by rw [hv]; rfl
    exact ⟨g, e, (hb.lt g e).2, hc⟩
  have F0 : ∀ {v : Value} {b : Nat}, ZsAt w b v l → (∃ g c, v = .slice (some ⟨g, 0, none⟩) l.length c) ∨ (v = .slice none 0 0 ∧ l.length = 0) := fun h => by
    rcases qd6 h with h | ⟨g, c, rfl⟩
    · exact .inr h
    · exact .inl ⟨g, c, rfl⟩
  obtain ⟨n, hn⟩ : ∃ n, l.length = n := ⟨_, rfl⟩
  have FA := F0 ha
  have FB := F0 hb
  rw [hn] at h8 FA FB
  have HN := v6 hn
  clear ha hb hn F0
  rcases FA with ⟨ga, ca, rfl⟩ | ⟨rfl, rfl⟩ <;> rcases FB with ⟨gb, cb, rfl⟩ | ⟨rfl, h0⟩
  · go_enter Tryz.func17, Tryz.ntmps17
    go_wp2_with fail
    go_loopw [5] (fun i wr => ∃ k : Nat, k ≤ n ∧ i = .int .i64 k ∧ Hid (Below w.heap.size w wr)) (fun i _ => n - (intOf i).toNat)
    case atStart => exact ⟨0, Nat.zero_le _, rfl, v6 (Below.refl _ _)⟩
    case round =>
      obtain ⟨k, hk, rfl, HW⟩ := hrel
      by_cases hlt : k < n
      · obtain ⟨x, hx⟩ : ∃ x, l[k]? = some x := ⟨_, List.getElem?_eq_getElem (by have := q9 HN; omega)⟩
        obtain ⟨g, e1, glt, t0⟩ := q9 HA k x hx
        obtain ⟨g', e2, glt', t1⟩ := q9 HB k x hx
        simp [Value.ownBlock] at e1 e2
        subst e1 e2
        obtain ⟨hcB, hfB⟩ := j5 (q9 HW)
        rw [← hcB _ k glt] at t0
        rw [← hcB _ k glt'] at t1
        have hk0 : (0 : Int) ≤ (k : Int) := by omega
        have hk1 : (k : Int) < (n : Int) := by omega
        clear hcB hfB hx
        go_wp2_with fail
        go_quiet (fail)
        go_wp2_with fail
        exact ⟨⟨k + 1, by omega, rfl, v6 (Go.below_drewN (q9 HW) _)⟩, by simp [intOf]; omega⟩
      · have : k = n := by omega
        subst this
        go_wp2_with fail
        go_ret
        exact ⟨rfl, q9 HW⟩
  · subst h0
    go_enter Tryz.func17, Tryz.ntmps17
    go_wp2_with fail
    go_loopw [5] (fun i wr => i = .int .i64 0 ∧ wr = w) (fun _ _ => 0)
    case atStart => exact ⟨rfl, rfl⟩
    case round =>
      obtain ⟨rfl, rfl⟩ := hrel
      go_wp2_with fail
      go_ret
      exact ⟨rfl, Below.refl _ _⟩
  · go_enter Tryz.func17, Tryz.ntmps17
    go_wp2_with fail
    go_loopw [5] (fun i wr => i = .int .i64 0 ∧ wr = w) (fun _ _ => 0)
    case atStart => exact ⟨rfl, rfl⟩
    case round =>
      obtain ⟨rfl, rfl⟩ := hrel
      go_wp2_with fail
      go_ret
      exact ⟨rfl, Below.refl _ _⟩
  · go_enter Tryz.func17, Tryz.ntmps17
    go_wp2_with fail
    go_loopw [5] (fun i wr => i = .int .i64 0 ∧ wr = w) (fun _ _ => 0)
    case atStart => exact ⟨rfl, rfl⟩
    case round =>
      obtain ⟨rfl, rfl⟩ := hrel
      go_wp2_with fail
      go_ret
      exact ⟨rfl, Below.refl _ _⟩
theorem ScrAt.one {w : World} {a : Option Addr} {n cap : Nat} {l : List Sc} (h : ScrAt w (.slice a n cap) l) {k : Nat} {x : Sc} (hx : l[k]? = some x) : ∃ b off, a = some ⟨b, off, none⟩ ∧ k + 1 ≤ cap ∧ n = l.length ∧ ScrAt w (.slice (some ⟨b, off + k * 4, none⟩) 1 (cap - k)) [x] := by
  obtain ⟨a', cap', hv, hl, hc, hi⟩ := h
  simp at hv
  obtain ⟨rfl, rfl, rfl⟩ := hv
  obtain ⟨ok, b, off, ha, hlt, c0, c1, c2, c3⟩ := hi k x hx
  have hkl := (List.getElem?_eq_some_iff.1 hx).1
  refine ⟨b, off, ha, by omega, rfl, some ⟨b, off + k * 4, none⟩, cap - k, rfl, by show 1 ≤ _; decide, by show 1 ≤ _; omega, fun i y hy => ?_⟩
  have e : i = 0 ∧ y = x := by
    cases i with
    | zero => simp at hy; exact ⟨rfl, hy.symm⟩
    | succ i => simp at hy
  obtain ⟨rfl, rfl⟩ := e
  exact ⟨ok, b, off + k * 4, rfl, hlt, by simpa using c0, by simpa using c1, by simpa using c2, by simpa using c3⟩
theorem jd6 (L : List Su) (last : Int) (bk bk' : List Lv) (x : Sc) : (qj9 (L, last, bk) x).1 = (qj9 (L, last, bk') x).1 ∧ (qj9 (L, last, bk) x).2.1 = (qj9 (L, last, bk') x).2.1 := by
  have h : (qk1 (L, last, bk) x).1 = (qk1 (L, last, bk') x).1 := by unfold qk1; split <;> rfl
  unfold qj9
  split
  · exact ⟨by simp only [h], by simp only [h]⟩
  · exact ⟨by simp only [h], rfl⟩
def twS (l : List Sc) (k : Nat) : List Su × Int := ((doK l ([], 0, []) k).1, (doK l ([], 0, []) k).2.1)
theorem jp6 {l : List Sc} {k : Nat} {x : Sc} (h : l[k]? = some x) : twS l (k + 1) = ((doR [x] ((twS l k).1, (twS l k).2, [])).1, (doR [x] ((twS l k).1, (twS l k).2, [])).2.1) := by
  unfold twS
  rw [vt0 l _ k x h]
  obtain ⟨L, last, bk⟩ := doK l ([], 0, []) k
  have := jd6 L last bk [] x
  show ((qj9 (L, last, bk) x).1, (qj9 (L, last, bk) x).2.1) = ((qj9 (L, last, []) x).1, (qj9 (L, last, []) x).2.1)
  rw [this.1, this.2]
theorem twS_all (l : List Sc) : twS l l.length = ((doR l ([], 0, [])).1, (doR l ([], 0, [])).2.1) := by unfold twS doR doK; rw [List.take_length]
theorem HasB.beside {w0 : World} {F G : Nat → Prop} {w w' : World} {bb : Nat} {last : Int} {L : List Su} (h : HasB w0 F w bb last L) (hg : Grow G w w') (hn : ∀ k, G k → w0.heap.size ≤ k) (hd : ∀ k, F k → ¬ G k) : HasB w0 F w' bb last L :=
  ⟨h.br.frame hg.size fun k hk => hg.block k (h.br.1 k hk) (hd k hk), h.good, h.new, hg.since hn h.below⟩
end
end Go.Proofs.YtfkcaldjphakpabGreatDoor
