/- The contract of events.Valid of lists that are no event. -/
import Derived.Test.YtfkcaldjphakpaaGreatDoorEvA
import Derived.RegionTactic
import Derived.Deep.RegionHeld3
namespace Go.Proofs.YtfkcaldjphakpaaGreatDoor
open Go.RowKit

set_option maxHeartbeats 1000000 in
theorem valid_long (a : Option Addr) (n cap : Nat) (h8 : 8 < n) (hbig : n ≤ 140737488355328) (w : World) :
    Calls Tryz.prog 37 #[.slice a n cap] w fun e w' => e = .returned (.bool false) ∧ Below w.heap.size w w' := by
  go_enter Tryz.func37, Tryz.ntmps37
  go_wp2_with fail
  go_ret
  exact ⟨rfl, Below.refl _ _⟩

set_option maxHeartbeats 4000000 in
theorem valid_bad (b off cap : Nat) (ps : List Pr) (w : World) (hcap : ps.length ≤ cap) (hbig : ps.length ≤ 140737488355328) (hsh : Short ps) (hw : EvAt w b off ps) (hlt : b < w.heap.size) (h8 : ps.length ≤ 8) (hok : evOk ps = false) :
    Calls Tryz.prog 37 #[.slice (some ⟨b, off, none⟩) ps.length cap] w fun e w' => e = .returned (.bool false) ∧ Below w.heap.size w w' := by
  have HNO := hide hok
  clear hok
  go_enter Tryz.func37, Tryz.ntmps37
  go_wp2_with fail
  go_loopw [3, 4, 10] (fun _ _ i wr => ∃ k : Nat, k ≤ ps.length ∧ i = .int .i64 k ∧ Hid (∀ j, j < k → okAt ps j = true) ∧ Below w.heap.size w wr) (fun _ _ i _ => ps.length - (intOf i).toNat)
  case atStart => exact ⟨0, Nat.zero_le _, rfl, hide (fun j hj => absurd hj (by omega)), Below.refl _ _⟩
  case round =>
    obtain ⟨k, hk, rfl, hh, hb⟩ := hrel
    by_cases hlt2 : k < ps.length
    · obtain ⟨p, hp⟩ : ∃ p, ps[k]? = some p := ⟨_, List.getElem?_eq_getElem hlt2⟩
      have hwr := hw.below hb hlt
      have hltr : b < wr.heap.size := Nat.lt_of_lt_of_le hlt hb.size
      obtain ⟨h1, h2, h3, h4⟩ := hwr k p hp
      obtain ⟨hs1, hs2⟩ := hsh p (List.mem_of_getElem? hp)
      have hok : okAt ps k = (nameOk p.name && valOk p.val && !hasB (ps.take k) p.name) := by unfold okAt; rw [hp]
      have htl : (ps.take k).length = k := by rw [List.length_take]; omega
      have HTK := hide (hwr.take k)
      have HL := hide htl
      clear hp hwr htl
      cases hn : nameOk p.name with
      | false =>
        have HN := hide hn
        clear hn hok
        go_wp2_with fail
        first | go_region_with (first | (go_at_call 58; refine (validName_any _ (by exact hs1) _).mono ?_; rintro e w1 ⟨rfl, hb1⟩; rw [show nameOk (BS p.name).data.toList = false from unhide HN]; obtain ⟨hc1, hf1⟩ := bcell hb1; have hz1 : wr.heap.size < w1.heap.size := (by have := hb1.size; simp at this; omega); have hB1 : Below w.heap.size w w1 := below_any (below_alloc hb _).drew hb1)) | fail "no region"
        all_goals (go_wp2_with fail)
        all_goals (go_ret; exact ⟨rfl, hB1⟩)
      | true =>
        have HN := hide hn
        cases hv : valOk p.val with
        | false =>
          have HV := hide hv
          clear hn hv hok
          go_wp2_with fail
          first | go_region_with (first | (go_at_call 58; refine (validName_any _ (by exact hs1) _).mono ?_; rintro e w1 ⟨rfl, hb1⟩; rw [show nameOk (BS p.name).data.toList = true from unhide HN]; obtain ⟨hc1, hf1⟩ := bcell hb1; have hz1 : wr.heap.size < w1.heap.size := (by have := hb1.size; simp at this; omega); have hB1 : Below w.heap.size w w1 := below_any (below_alloc hb _).drew hb1) | (go_at_call 59; refine (validValue_any p.val hs2 _).mono ?_; rintro e w2 ⟨rfl, hb2⟩; rw [unhide HV]; obtain ⟨hc2, hf2⟩ := bcell hb2; have hz2 : wr.heap.size < w2.heap.size := (by have := hb2.size; omega); have hB2 : Below w.heap.size w w2 := below_any hB1 hb2)) | fail "no region"
          all_goals (go_wp2_with fail)
          all_goals (go_ret; exact ⟨rfl, hB2⟩)
        | true =>
          have HV := hide hv
          cases hx : hasB (ps.take k) p.name with
          | true =>
            have HH := hide hx
            clear hn hv hx hok
            go_wp2_with fail
            first | go_region_with (first | (go_at_call 58; refine (validName_any _ (by exact hs1) _).mono ?_; rintro e w1 ⟨rfl, hb1⟩; rw [show nameOk (BS p.name).data.toList = true from unhide HN]; obtain ⟨hc1, hf1⟩ := bcell hb1; have hz1 : wr.heap.size < w1.heap.size := (by have := hb1.size; simp at this; omega); have hB1 : Below w.heap.size w w1 := below_any (below_alloc hb _).drew hb1) | (go_at_call 59; refine (validValue_any p.val hs2 _).mono ?_; rintro e w2 ⟨rfl, hb2⟩; rw [unhide HV]; obtain ⟨hc2, hf2⟩ := bcell hb2; have hz2 : wr.heap.size < w2.heap.size := (by have := hb2.size; omega); have hB2 : Below w.heap.size w w2 := below_any hB1 hb2) | (go_at_call 60; refine (has_k (unhide HL) cap (BS p.name) _ (by omega) (by exact (unhide HTK).later rfl hltr hb1 hb2) (by omega)).mono ?_; rintro e w3 ⟨rfl, hb3⟩; rw [show hasB (ps.take k) (BS p.name).data.toList = true from unhide HH]; have hB3 : Below w.heap.size w w3 := below_any hB2 hb3)) | fail "no region"
            all_goals (go_wp2_with fail)
            all_goals (go_ret; exact ⟨rfl, hB3⟩)
          | false =>
            have HH := hide hx
            have HOK : Hid (∀ j, j < k + 1 → okAt ps j = true) := hide (fun j hj => by
              by_cases hjk : j < k
              · exact unhide hh j hjk
              · have : j = k := by omega
                rw [this, hok, hn, hv, hx]; rfl)
            clear hn hv hx hok
            go_wp2_with fail
            first | go_region_with (first | (go_at_call 58; refine (validName_any _ (by exact hs1) _).mono ?_; rintro e w1 ⟨rfl, hb1⟩; rw [show nameOk (BS p.name).data.toList = true from unhide HN]; obtain ⟨hc1, hf1⟩ := bcell hb1; have hz1 : wr.heap.size < w1.heap.size := (by have := hb1.size; simp at this; omega); have hB1 : Below w.heap.size w w1 := below_any (below_alloc hb _).drew hb1) | (go_at_call 59; refine (validValue_any p.val hs2 _).mono ?_; rintro e w2 ⟨rfl, hb2⟩; rw [unhide HV]; obtain ⟨hc2, hf2⟩ := bcell hb2; have hz2 : wr.heap.size < w2.heap.size := (by have := hb2.size; omega); have hB2 : Below w.heap.size w w2 := below_any hB1 hb2) | (go_at_call 60; refine (has_k (unhide HL) cap (BS p.name) _ (by omega) (by exact (unhide HTK).later rfl hltr hb1 hb2) (by omega)).mono ?_; rintro e w3 ⟨rfl, hb3⟩; rw [show hasB (ps.take k) (BS p.name).data.toList = false from unhide HH]; have hB3 : Below w.heap.size w w3 := below_any hB2 hb3)) | fail "no region"
            all_goals (go_wp2_with fail)
            all_goals exact ⟨⟨k + 1, by omega, by go_num, HOK, hB3⟩, by simp [intOf]; omega⟩
    · have hkn : k = ps.length := by omega
      have := evOk_good h8 (fun j hj => unhide hh j (by omega))
      rw [unhide HNO] at this
      cases this

/-- What Valid says of a list of properties, wherever it lies. -/
theorem evValid_any (b off cap : Nat) (ps : List Pr) (w : World) (hcap : ps.length ≤ cap) (hbig : ps.length ≤ 140737488355328) (hsh : Short ps) (hw : EvAt w b off ps) (hlt : b < w.heap.size) :
    Calls Tryz.prog 37 #[.slice (some ⟨b, off, none⟩) ps.length cap] w fun e w' => e = .returned (.bool (evOk ps)) ∧ Below w.heap.size w w' := by
  cases hok : evOk ps with
  | true => exact valid_good b off cap ps w hcap hbig hsh hw hlt hok
  | false =>
    by_cases h8 : ps.length ≤ 8
    · exact valid_bad b off cap ps w hcap hbig hsh hw hlt h8 hok
    · exact valid_long _ _ cap (by omega) hbig w

set_option maxHeartbeats 1000000 in
theorem valid_empty (a : Option Addr) (cap : Nat) (w : World) :
    Calls Tryz.prog 37 #[.slice a 0 cap] w fun e w' => e = .returned (.bool true) ∧ Below w.heap.size w w' := by
  go_enter Tryz.func37, Tryz.ntmps37
  go_wp2_with fail
  go_loopw [3, 4, 10] (fun _ _ i wr => i = .int .i64 0 ∧ wr = w) (fun _ _ _ _ => 0)
  case atStart => exact ⟨rfl, rfl⟩
  case round =>
    obtain ⟨rfl, rfl⟩ := hrel
    go_wp2_with fail
    go_ret
    exact ⟨rfl, Below.refl _ _⟩

end Go.Proofs.YtfkcaldjphakpaaGreatDoor
