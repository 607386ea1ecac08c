/- digits. Contracts of package events: validName, validValue. The contract of events.Valid. The contract of events.Valid of lists that are no event. -/
import Derived.Test.YtfkcaldjphakpabGreatDoorXLex9
import Derived.Laws.IdiomStrings
import Derived.Laws.Concat
import Derived.Test.YtfkcaldjphakpabGreatDoorM09
import Derived.Deep.RegionWith
import Derived.RegionTactic
import Derived.Deep.RegionHeld3
namespace Go.Proofs.YtfkcaldjphakpabGreatDoor
open Go.RowKit

section
/-- A number in base ten. -/
def dig (n : Nat) : UInt8 := UInt8.ofNat (48 + n % 10)
theorem BS_add (a b : List UInt8) : BS a ++ BS b = BS (a ++ b) := by
  apply ByteArray.ext
  show (BS a ++ BS b).data = _
  rw [ByteArray.data_append]
  simp [BS]
end

section
set_option maxHeartbeats 400000 in
theorem validName_any (s : ByteArray) (hs : s.size ≤ 140737488355328) (w : World) :
    Calls Tryz.prog 64 #[.string s] w fun e w' => e = .returned (.bool (nameOk s.data.toList)) ∧ Below w.heap.size w w' := by
  unfold nameOk
  rw [data_len]
  obtain ⟨nb, hn⟩ : ∃ nb, nameB s.data.toList = nb := ⟨_, rfl⟩
  rw [hn]
  have HN := hide hn
  clear hn
  by_cases h : s.size ≤ 16
  · go_enter Tryz.func64, Tryz.ntmps64
    go_wp2_with (go_at_call 97; refine (isName_any _ hs _).mono ?_; rintro e w' ⟨rfl, hb⟩; rw [unhide HN])
    all_goals (go_ret; exact ⟨ret_bool (by simp_all), by assumption⟩)
  · go_enter Tryz.func64, Tryz.ntmps64
    go_wp2_with fail
    go_ret
    exact ⟨ret_bool (by simp <;> omega), Below.refl _ _⟩

theorem BS_empty (l : List UInt8) : (BS l).toList.isEmpty = l.isEmpty := by rw [BS_toList]

set_option maxHeartbeats 400000 in
theorem validValue_any (v : V) (hv : v.str.length ≤ 140737488355328) (w : World) :
    Calls Tryz.prog 65 #[vV v] w fun e w' => e = .returned (.bool (valOk v)) ∧ Below w.heap.size w w' := by
  have he := BS_empty v.str
  have hz := BS_size v.str
  unfold valOk
  obtain ⟨em, hem⟩ : ∃ em, v.str.isEmpty = em := ⟨_, rfl⟩
  rw [hem] at he ⊢
  clear hem
  conv => arg 3; simp only [vV]
  cases h0 : (v.kind == 0)
  · cases h1 : (v.kind == 1)
    · cases h2 : (v.kind == 2)
      · cases h3 : (v.kind == 3)
        · simp only [Bool.false_eq_true, if_false]
          go_enter Tryz.func65, Tryz.ntmps65
          go_wp2_with fail
          go_ret
          exact ⟨rfl, (Below.refl _ _).alloc (Nat.le_refl _) _⟩
        · simp only [Bool.false_eq_true, if_false, if_true]
          go_enter Tryz.func65, Tryz.ntmps65
          go_wp2_with fail
          all_goals (go_ret; exact ⟨ret_bool (by simp_all <;> omega), (Below.refl _ _).alloc (Nat.le_refl _) _⟩)
      · simp only [Bool.false_eq_true, if_false, if_true]
        go_enter Tryz.func65, Tryz.ntmps65
        go_wp2_with fail
        all_goals (go_ret; exact ⟨ret_bool (by simp_all <;> omega), (Below.refl _ _).alloc (Nat.le_refl _) _⟩)
    · simp only [Bool.false_eq_true, if_false, if_true]
      go_enter Tryz.func65, Tryz.ntmps65
      go_wp2_with fail
      all_goals (go_ret; exact ⟨ret_bool (by simp_all <;> omega), (Below.refl _ _).alloc (Nat.le_refl _) _⟩)
  · simp only [if_true]
    go_enter Tryz.func65, Tryz.ntmps65
    go_wp2_with fail
    all_goals (go_ret; exact ⟨ret_bool (by simp_all <;> omega), (Below.refl _ _).alloc (Nat.le_refl _) _⟩)
end

section
def okAt (ps : List Pr) (k : Nat) : Bool := match ps[k]? with
  | some p => nameOk p.name && valOk p.val && !hasB (ps.take k) p.name
  | none => true
def evOk (ps : List Pr) : Bool := decide (ps.length ≤ 8) && (List.range ps.length).all (okAt ps)

theorem evOk_long {ps : List Pr} (h : ¬ ps.length ≤ 8) : evOk ps = false := by unfold evOk; rw [decide_eq_false h]; rfl
theorem evOk_good {ps : List Pr} (h8 : ps.length ≤ 8) (h : ∀ j, j < ps.length → okAt ps j = true) : evOk ps = true := by
  unfold evOk
  rw [decide_eq_true h8, Bool.true_and, List.all_eq_true]
  exact fun j hj => h j (List.mem_range.1 hj)

theorem EvAt.take {w : World} {b off : Nat} {ps : List Pr} (h : EvAt w b off ps) (k : Nat) : EvAt w b off (ps.take k) := by
  intro j p hj
  rw [List.getElem?_take] at hj
  split at hj
  · exact h j p hj
  · cases hj

/-- Every text of the properties is short enough for any machine. -/
def Short (ps : List Pr) : Prop := ∀ p ∈ ps, p.name.length ≤ 140737488355328 ∧ p.val.str.length ≤ 140737488355328

theorem has_k {qs : List Pr} {k : Nat} (hq : qs.length = k) (cap : Nat) {b off : Nat} (s : ByteArray) (w : World) (hk : k ≤ 8) (hw : EvAt w b off qs) (hlt : b < w.heap.size) :
    Calls Tryz.prog 66 #[.slice (some ⟨b, off, none⟩) k cap, .string s] w fun e w' => e = .returned (.bool (hasB qs s.data.toList)) ∧ Below w.heap.size w w' := by
  subst hq; exact has_any b off cap qs s w hk hw hlt

theorem EvAt.later {w W w1 w2 : World} {b off : Nat} {ps : List Pr} {o : Obj} (h : EvAt w b off ps) (hW : W = (w.alloc o).drew) (hlt : b < w.heap.size) (hb1 : Below W.heap.size W w1) (hb2 : Below w1.heap.size w1 w2) : EvAt w2 b off ps := by
  subst hW
  have h1 : EvAt (w.alloc o).drew b off ps := h.below ((Below.refl _ _).alloc (Nat.le_refl _) o).drew hlt
  have hlt1 : b < (w.alloc o).drew.heap.size := by show b < (w.alloc o).heap.size; simp; omega
  exact (h1.below hb1 hlt1).below hb2 (Nat.lt_of_lt_of_le hlt1 hb1.size)

set_option maxHeartbeats 1000000 in
theorem valid_good (b off cap : Nat) (ps : List Pr) (w : World) (hcap : ps.length ≤ cap) (hbig : ps.length ≤ 140737488355328) (hsh : Short ps) (hw : EvAt w b off ps) (hlt : b < w.heap.size) (hok : evOk ps = true) :
    Calls Tryz.prog 40 #[.slice (some ⟨b, off, none⟩) ps.length cap] w fun e w' => e = .returned (.bool true) ∧ Below w.heap.size w w' := by
  obtain ⟨h8, hg⟩ : ps.length ≤ 8 ∧ ∀ j, j < ps.length → okAt ps j = true := by
    unfold evOk at hok
    rw [Bool.and_eq_true, decide_eq_true_eq, List.all_eq_true] at hok
    exact ⟨hok.1, fun j hj => hok.2 j (List.mem_range.2 hj)⟩
  have HG := hide hg
  clear hg hok
  go_enter Tryz.func40, Tryz.ntmps40
  go_wp2_with fail
  go_loopw [3, 4, 10] (fun _ _ i wr => ∃ k : Nat, k ≤ ps.length ∧ i = .int .i64 k ∧ Hid (∀ j, j < k → okAt ps j = true) ∧ Below w.heap.size w wr) (fun _ _ i _ => ps.length - (intOf i).toNat)
  case atStart => exact ⟨0, Nat.zero_le _, rfl, hide (fun j hj => absurd hj (by omega)), Below.refl _ _⟩
  case round =>
    obtain ⟨k, hk, rfl, hh, hb⟩ := hrel
    by_cases hlt2 : k < ps.length
    · obtain ⟨p, hp⟩ : ∃ p, ps[k]? = some p := ⟨_, List.getElem?_eq_getElem hlt2⟩
      have hwr := hw.below hb hlt
      have hltr : b < wr.heap.size := Nat.lt_of_lt_of_le hlt hb.size
      obtain ⟨h1, h2, h3, h4⟩ := hwr k p hp
      obtain ⟨hs1, hs2⟩ := hsh p (List.mem_of_getElem? hp)
      have hok : okAt ps k = (nameOk p.name && valOk p.val && !hasB (ps.take k) p.name) := by unfold okAt; rw [hp]
      have htl : (ps.take k).length = k := by rw [List.length_take]; omega
      have HTK := hide (hwr.take k)
      have HL := hide htl
      clear hp hwr htl
      have hall := unhide HG k hlt2
      rw [hok] at hall
      simp only [Bool.and_eq_true, Bool.not_eq_true'] at hall
      obtain ⟨⟨hn, hv⟩, hx⟩ := hall
      have HN := hide hn
      have HV := hide hv
      have HOK : Hid (∀ j, j < k + 1 → okAt ps j = true) := hide (fun j hj => by
        by_cases hjk : j < k
        · exact unhide hh j hjk
        · have : j = k := by omega
          rw [this, hok, hn, hv, hx]; rfl)
      have HH := hide hx
      clear hn hok hv hx
      go_wp2_with fail
      go_region_with (first | (go_at_call 64; refine (validName_any _ (by exact hs1) _).mono ?_; rintro e w1 ⟨rfl, hb1⟩; rw [show nameOk (BS p.name).data.toList = true from unhide HN]; obtain ⟨hc1, hf1⟩ := bcell hb1; have hz1 : wr.heap.size < w1.heap.size := (by have := hb1.size; simp at this; omega); have hB1 : Below w.heap.size w w1 := below_any (below_alloc hb _).drew hb1) | (go_at_call 65; refine (validValue_any p.val hs2 _).mono ?_; rintro e w2 ⟨rfl, hb2⟩; rw [unhide HV]; obtain ⟨hc2, hf2⟩ := bcell hb2; have hz2 : wr.heap.size < w2.heap.size := (by have := hb2.size; omega); have hB2 : Below w.heap.size w w2 := below_any hB1 hb2) | (go_at_call 66; refine (has_k (unhide HL) cap (BS p.name) _ (by omega) (by exact (unhide HTK).later rfl hltr hb1 hb2) (by omega)).mono ?_; rintro e w3 ⟨rfl, hb3⟩; rw [show hasB (ps.take k) (BS p.name).data.toList = false from unhide HH]; have hB3 : Below w.heap.size w w3 := below_any hB2 hb3))
      all_goals (go_wp2_with fail)
      all_goals exact ⟨⟨k + 1, by omega, by go_num, HOK, hB3⟩, by simp [intOf]; omega⟩
    · clear hh
      go_wp2_with fail
      go_ret
      exact ⟨rfl, hb⟩
end

section
set_option maxHeartbeats 1000000 in
theorem valid_long (a : Option Addr) (n cap : Nat) (h8 : 8 < n) (hbig : n ≤ 140737488355328) (w : World) :
    Calls Tryz.prog 40 #[.slice a n cap] w fun e w' => e = .returned (.bool false) ∧ Below w.heap.size w w' := by
  go_enter Tryz.func40, Tryz.ntmps40
  go_wp2_with fail
  go_ret
  exact ⟨rfl, Below.refl _ _⟩

set_option maxHeartbeats 4000000 in
theorem valid_bad (b off cap : Nat) (ps : List Pr) (w : World) (hcap : ps.length ≤ cap) (hbig : ps.length ≤ 140737488355328) (hsh : Short ps) (hw : EvAt w b off ps) (hlt : b < w.heap.size) (h8 : ps.length ≤ 8) (hok : evOk ps = false) :
    Calls Tryz.prog 40 #[.slice (some ⟨b, off, none⟩) ps.length cap] w fun e w' => e = .returned (.bool false) ∧ Below w.heap.size w w' := by
  have HNO := hide hok
  clear hok
  go_enter Tryz.func40, Tryz.ntmps40
  go_wp2_with fail
  go_loopw [3, 4, 10] (fun _ _ i wr => ∃ k : Nat, k ≤ ps.length ∧ i = .int .i64 k ∧ Hid (∀ j, j < k → okAt ps j = true) ∧ Below w.heap.size w wr) (fun _ _ i _ => ps.length - (intOf i).toNat)
  case atStart => exact ⟨0, Nat.zero_le _, rfl, hide (fun j hj => absurd hj (by omega)), Below.refl _ _⟩
  case round =>
    obtain ⟨k, hk, rfl, hh, hb⟩ := hrel
    by_cases hlt2 : k < ps.length
    · obtain ⟨p, hp⟩ : ∃ p, ps[k]? = some p := ⟨_, List.getElem?_eq_getElem hlt2⟩
      have hwr := hw.below hb hlt
      have hltr : b < wr.heap.size := Nat.lt_of_lt_of_le hlt hb.size
      obtain ⟨h1, h2, h3, h4⟩ := hwr k p hp
      obtain ⟨hs1, hs2⟩ := hsh p (List.mem_of_getElem? hp)
      have hok : okAt ps k = (nameOk p.name && valOk p.val && !hasB (ps.take k) p.name) := by unfold okAt; rw [hp]
      have htl : (ps.take k).length = k := by rw [List.length_take]; omega
      have HTK := hide (hwr.take k)
      have HL := hide htl
      clear hp hwr htl
      cases hn : nameOk p.name with
      | false =>
        have HN := hide hn
        clear hn hok
        go_wp2_with fail
        first | go_region_with (first | (go_at_call 64; refine (validName_any _ (by exact hs1) _).mono ?_; rintro e w1 ⟨rfl, hb1⟩; rw [show nameOk (BS p.name).data.toList = false from unhide HN]; obtain ⟨hc1, hf1⟩ := bcell hb1; have hz1 : wr.heap.size < w1.heap.size := (by have := hb1.size; simp at this; omega); have hB1 : Below w.heap.size w w1 := below_any (below_alloc hb _).drew hb1)) | fail "no region"
        all_goals (go_wp2_with fail)
        all_goals (go_ret; exact ⟨rfl, hB1⟩)
      | true =>
        have HN := hide hn
        cases hv : valOk p.val with
        | false =>
          have HV := hide hv
          clear hn hv hok
          go_wp2_with fail
          first | go_region_with (first | (go_at_call 64; refine (validName_any _ (by exact hs1) _).mono ?_; rintro e w1 ⟨rfl, hb1⟩; rw [show nameOk (BS p.name).data.toList = true from unhide HN]; obtain ⟨hc1, hf1⟩ := bcell hb1; have hz1 : wr.heap.size < w1.heap.size := (by have := hb1.size; simp at this; omega); have hB1 : Below w.heap.size w w1 := below_any (below_alloc hb _).drew hb1) | (go_at_call 65; refine (validValue_any p.val hs2 _).mono ?_; rintro e w2 ⟨rfl, hb2⟩; rw [unhide HV]; obtain ⟨hc2, hf2⟩ := bcell hb2; have hz2 : wr.heap.size < w2.heap.size := (by have := hb2.size; omega); have hB2 : Below w.heap.size w w2 := below_any hB1 hb2)) | fail "no region"
          all_goals (go_wp2_with fail)
          all_goals (go_ret; exact ⟨rfl, hB2⟩)
        | true =>
          have HV := hide hv
          cases hx : hasB (ps.take k) p.name with
          | true =>
            have HH := hide hx
            clear hn hv hx hok
            go_wp2_with fail
            first | go_region_with (first | (go_at_call 64; refine (validName_any _ (by exact hs1) _).mono ?_; rintro e w1 ⟨rfl, hb1⟩; rw [show nameOk (BS p.name).data.toList = true from unhide HN]; obtain ⟨hc1, hf1⟩ := bcell hb1; have hz1 : wr.heap.size < w1.heap.size := (by have := hb1.size; simp at this; omega); have hB1 : Below w.heap.size w w1 := below_any (below_alloc hb _).drew hb1) | (go_at_call 65; refine (validValue_any p.val hs2 _).mono ?_; rintro e w2 ⟨rfl, hb2⟩; rw [unhide HV]; obtain ⟨hc2, hf2⟩ := bcell hb2; have hz2 : wr.heap.size < w2.heap.size := (by have := hb2.size; omega); have hB2 : Below w.heap.size w w2 := below_any hB1 hb2) | (go_at_call 66; refine (has_k (unhide HL) cap (BS p.name) _ (by omega) (by exact (unhide HTK).later rfl hltr hb1 hb2) (by omega)).mono ?_; rintro e w3 ⟨rfl, hb3⟩; rw [show hasB (ps.take k) (BS p.name).data.toList = true from unhide HH]; have hB3 : Below w.heap.size w w3 := below_any hB2 hb3)) | fail "no region"
            all_goals (go_wp2_with fail)
            all_goals (go_ret; exact ⟨rfl, hB3⟩)
          | false =>
            have HH := hide hx
            have HOK : Hid (∀ j, j < k + 1 → okAt ps j = true) := hide (fun j hj => by
              by_cases hjk : j < k
              · exact unhide hh j hjk
              · have : j = k := by omega
                rw [this, hok, hn, hv, hx]; rfl)
            clear hn hv hx hok
            go_wp2_with fail
            first | go_region_with (first | (go_at_call 64; refine (validName_any _ (by exact hs1) _).mono ?_; rintro e w1 ⟨rfl, hb1⟩; rw [show nameOk (BS p.name).data.toList = true from unhide HN]; obtain ⟨hc1, hf1⟩ := bcell hb1; have hz1 : wr.heap.size < w1.heap.size := (by have := hb1.size; simp at this; omega); have hB1 : Below w.heap.size w w1 := below_any (below_alloc hb _).drew hb1) | (go_at_call 65; refine (validValue_any p.val hs2 _).mono ?_; rintro e w2 ⟨rfl, hb2⟩; rw [unhide HV]; obtain ⟨hc2, hf2⟩ := bcell hb2; have hz2 : wr.heap.size < w2.heap.size := (by have := hb2.size; omega); have hB2 : Below w.heap.size w w2 := below_any hB1 hb2) | (go_at_call 66; refine (has_k (unhide HL) cap (BS p.name) _ (by omega) (by exact (unhide HTK).later rfl hltr hb1 hb2) (by omega)).mono ?_; rintro e w3 ⟨rfl, hb3⟩; rw [show hasB (ps.take k) (BS p.name).data.toList = false from unhide HH]; have hB3 : Below w.heap.size w w3 := below_any hB2 hb3)) | fail "no region"
            all_goals (go_wp2_with fail)
            all_goals exact ⟨⟨k + 1, by omega, by go_num, HOK, hB3⟩, by simp [intOf]; omega⟩
    · have hkn : k = ps.length := by omega
      have := evOk_good h8 (fun j hj => unhide hh j (by omega))
      rw [unhide HNO] at this
      cases this

/-- What Valid says of a list of properties, wherever it lies. -/
theorem evValid_any (b off cap : Nat) (ps : List Pr) (w : World) (hcap : ps.length ≤ cap) (hbig : ps.length ≤ 140737488355328) (hsh : Short ps) (hw : EvAt w b off ps) (hlt : b < w.heap.size) :
    Calls Tryz.prog 40 #[.slice (some ⟨b, off, none⟩) ps.length cap] w fun e w' => e = .returned (.bool (evOk ps)) ∧ Below w.heap.size w w' := by
  cases hok : evOk ps with
  | true => exact valid_good b off cap ps w hcap hbig hsh hw hlt hok
  | false =>
    by_cases h8 : ps.length ≤ 8
    · exact valid_bad b off cap ps w hcap hbig hsh hw hlt h8 hok
    · exact valid_long _ _ cap (by omega) hbig w

set_option maxHeartbeats 1000000 in
theorem valid_empty (a : Option Addr) (cap : Nat) (w : World) :
    Calls Tryz.prog 40 #[.slice a 0 cap] w fun e w' => e = .returned (.bool true) ∧ Below w.heap.size w w' := by
  go_enter Tryz.func40, Tryz.ntmps40
  go_wp2_with fail
  go_loopw [3, 4, 10] (fun _ _ i wr => i = .int .i64 0 ∧ wr = w) (fun _ _ _ _ => 0)
  case atStart => exact ⟨rfl, rfl⟩
  case round =>
    obtain ⟨rfl, rfl⟩ := hrel
    go_wp2_with fail
    go_ret
    exact ⟨rfl, Below.refl _ _⟩
end

end Go.Proofs.YtfkcaldjphakpabGreatDoor
