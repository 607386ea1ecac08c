/- Contracts of package events: has, Find. Contracts of package events: validName, validValue. The contract of events.Valid. -/
import Derived.Test.YtfkcaldjphakpaaGreatDoorLexB
import Derived.Test.YtfkcaldjphakpaaGreatDoorValA
import Derived.Deep.RegionWith
namespace Go.Proofs.YtfkcaldjphakpaaGreatDoor
open Go.RowKit

section
/-- A property: its name and its value. -/
structure Pr where
  name : List UInt8
  val : V

/-- The properties lie at a place. -/
def EvAt (w : World) (b off : Nat) (ps : List Pr) : Prop := ∀ (k : Nat) (p : Pr), ps[k]? = some p →
  w.cell? ⟨b, off + k * 4, none⟩ = some (.string (BS p.name)) ∧ w.cell? ⟨b, off + k * 4 + 1, none⟩ = some (.int .i64 p.val.kind) ∧
  w.cell? ⟨b, off + k * 4 + 2, none⟩ = some (.int .i64 p.val.num) ∧ w.cell? ⟨b, off + k * 4 + 3, none⟩ = some (.string (BS p.val.str))

def hasB (ps : List Pr) (n : List UInt8) : Bool := ps.any fun p => p.name == n

theorem below_alloc {a w : World} (h : Below a.heap.size a w) (o : Obj) : Below a.heap.size a (w.alloc o) := h.alloc h.size o

theorem EvAt.below {w w' : World} {b off : Nat} {ps : List Pr} (h : EvAt w b off ps) (hb : Below w.heap.size w w') (hlt : b < w.heap.size) : EvAt w' b off ps := by
  intro k p hk
  obtain ⟨h1, h2, h3, h4⟩ := h k p hk
  exact ⟨(hb.cell hlt).trans h1, (hb.cell hlt).trans h2, (hb.cell hlt).trans h3, (hb.cell hlt).trans h4⟩

theorem EvAt.belowB {B : Nat} {w w' : World} {b off : Nat} {ps : List Pr} (h : EvAt w b off ps) (hb : Below B w w') (hlt : b < B) : EvAt w' b off ps := by
  intro k p hk
  obtain ⟨h1, h2, h3, h4⟩ := h k p hk
  exact ⟨(hb.cell hlt).trans h1, (hb.cell hlt).trans h2, (hb.cell hlt).trans h3, (hb.cell hlt).trans h4⟩

theorem any_drop {ps : List Pr} {n : List UInt8} {k : Nat} {p : Pr} (h : ps[k]? = some p) : hasB (ps.drop k) n = (p.name == n || hasB (ps.drop (k + 1)) n) := by
  obtain ⟨hk, he⟩ := List.getElem?_eq_some_iff.1 h
  unfold hasB
  rw [List.drop_eq_getElem_cons hk, List.any_cons, he]

set_option maxHeartbeats 400000 in
theorem has_any (b off cap : Nat) (ps : List Pr) (s : ByteArray) (w : World) (hps : ps.length ≤ 8) (hw : EvAt w b off ps) (hlt : b < w.heap.size) :
    Calls Tryz.prog 60 #[.slice (some ⟨b, off, none⟩) ps.length cap, .string s] w fun e w' => e = .returned (.bool (hasB ps s.data.toList)) ∧ Below w.heap.size w w' := by
  go_enter Tryz.func60, Tryz.ntmps60
  go_wp2_with fail
  go_loopw [6, 9] (fun _ i wr => ∃ k : Nat, k ≤ ps.length ∧ i = .int .i64 k ∧ Hid (hasB ps s.data.toList = hasB (ps.drop k) s.data.toList) ∧ Below w.heap.size w wr) (fun _ i _ => ps.length - (intOf i).toNat)
  case atStart => exact ⟨0, Nat.zero_le _, rfl, hide (by rw [List.drop_zero]), Below.refl _ _⟩
  case round =>
    obtain ⟨k, hk, rfl, hh, hb⟩ := hrel
    by_cases hlt2 : k < ps.length
    · obtain ⟨p, hp⟩ : ∃ p, ps[k]? = some p := ⟨_, List.getElem?_eq_getElem hlt2⟩
      obtain ⟨h1, h2, h3, h4⟩ := (hw.below hb hlt) k p hp
      have hA := any_drop (n := s.data.toList) hp
      have hst : ((BS p.name).toList == s.toList) = (p.name == s.data.toList) := by rw [BS_toList, Lib.toList_data]
      cases he : (p.name == s.data.toList) with
      | true =>
        rw [he, Bool.true_or] at hA
        rw [he] at hst
        have HT : Hid (hasB ps s.data.toList = true) := hide (by rw [unhide hh, hA])
        clear hA hp he hh
        go_wp2_with fail
        go_ret
        exact ⟨ret_bool (by rw [unhide HT]), below_alloc hb _⟩
      | false =>
        rw [he, Bool.false_or] at hA
        rw [he] at hst
        have HT : Hid (hasB ps s.data.toList = hasB (ps.drop (k + 1)) s.data.toList) := hide (by rw [unhide hh, hA])
        clear hA hp he hh
        go_wp2_with fail
        exact ⟨⟨k + 1, by omega, by go_num, HT, below_alloc hb _⟩, by simp [intOf]; omega⟩
    · have HT : Hid (hasB ps s.data.toList = false) := hide (by rw [unhide hh, List.drop_of_length_le (by omega)]; rfl)
      clear hh
      go_wp2_with fail
      go_ret
      exact ⟨ret_bool (by rw [unhide HT]), hb⟩

/-- A slice of no element, nil too. -/
theorem has_empty (a : Option Addr) (cap : Nat) (s : ByteArray) (w : World) :
    Calls Tryz.prog 60 #[.slice a 0 cap, .string s] w fun e w' => e = .returned (.bool false) ∧ Below w.heap.size w w' := by
  go_enter Tryz.func60, Tryz.ntmps60
  go_wp2_with fail
  refine wp_loop_rounds 1 ?_
  rw [rounds_succ]
  go_wp2_with fail
  go_ret
  exact ⟨rfl, Below.refl _ _⟩

/-- What the property of a name is. -/
def findV (ps : List Pr) (n : List UInt8) : V := match ps.find? fun p => p.name == n with
  | some p => p.val
  | none => nV

theorem find_drop {ps : List Pr} {n : List UInt8} {k : Nat} {p : Pr} (h : ps[k]? = some p) : findV (ps.drop k) n = if p.name == n then p.val else findV (ps.drop (k + 1)) n := by
  obtain ⟨hk, he⟩ := List.getElem?_eq_some_iff.1 h
  unfold findV
  rw [List.drop_eq_getElem_cons hk, he, List.find?_cons]
  cases p.name == n <;> rfl

set_option maxHeartbeats 400000 in
theorem find_any (b off cap : Nat) (ps : List Pr) (s : ByteArray) (w : World) (hps : ps.length ≤ 8) (hw : EvAt w b off ps) (hlt : b < w.heap.size) :
    Calls Tryz.prog 61 #[.slice (some ⟨b, off, none⟩) ps.length cap, .string s] w fun e w' => e = .returned (vV (findV ps s.data.toList)) ∧ Below w.heap.size w w' := by
  obtain ⟨F, hF⟩ : ∃ f, findV ps s.data.toList = f := ⟨_, rfl⟩
  rw [hF]
  have HF := hide hF
  clear hF
  go_enter Tryz.func61, Tryz.ntmps61
  go_wp2_with fail
  go_loopw [6, 9] (fun _ i wr => ∃ k : Nat, k ≤ ps.length ∧ i = .int .i64 k ∧ Hid (F = findV (ps.drop k) s.data.toList) ∧ Below (w.heap.size + 1) (w.alloc (.cells #[.int .i64 0, .int .i64 0, .string ⟨#[]⟩] 26)) wr) (fun _ i _ => ps.length - (intOf i).toNat)
  case atStart => exact ⟨0, Nat.zero_le _, rfl, hide (by rw [List.drop_zero, unhide HF]), Below.refl _ _⟩
  case round =>
    obtain ⟨k, hk, rfl, hh, hb⟩ := hrel
    have hb' : Below (w.alloc (.cells #[.int .i64 0, .int .i64 0, .string ⟨#[]⟩] 26)).heap.size (w.alloc (.cells #[.int .i64 0, .int .i64 0, .string ⟨#[]⟩] 26)) wr := by simpa using hb
    have hbw := below_step hb'
    obtain ⟨hc0, hf0⟩ := bcell hb'
    have hz0 : w.heap.size < wr.heap.size := by have := hb'.size; simp at this; omega
    by_cases hlt2 : k < ps.length
    · obtain ⟨p, hp⟩ : ∃ p, ps[k]? = some p := ⟨_, List.getElem?_eq_getElem hlt2⟩
      obtain ⟨h1, h2, h3, h4⟩ := hw k p hp
      have hA := find_drop (n := s.data.toList) hp
      have hst : ((BS p.name).toList == s.toList) = (p.name == s.data.toList) := by rw [BS_toList, Lib.toList_data]
      cases he : (p.name == s.data.toList) with
      | true =>
        rw [he, if_pos rfl] at hA
        rw [he] at hst
        have HT : Hid (F = p.val) := hide (by rw [unhide hh, hA])
        clear hA hp he hh
        go_wp2_with fail
        refine bodyPost_ret (by simp [results, Tryz.results61, go_sem, hc0, hz0] <;> rfl) rfl ⟨?_, ?_⟩
        · rw [unhide HT]; rfl
        · exact below_alloc (((hbw.setCell (by simp) _).setCell (by simp) _).setCell (by simp) _) _
      | false =>
        rw [he, if_neg (by simp)] at hA
        rw [he] at hst
        have HT : Hid (F = findV (ps.drop (k + 1)) s.data.toList) := hide (by rw [unhide hh, hA])
        clear hA hp he hh
        go_wp2_with fail
        exact ⟨⟨k + 1, by omega, by go_num, HT, hb.alloc (by omega) _⟩, by simp [intOf]; omega⟩
    · have HT : Hid (F = nV) := hide (by rw [unhide hh, List.drop_of_length_le (by omega)]; rfl)
      clear hh
      go_wp2_with fail
      refine bodyPost_ret (by simp [results, Tryz.results61, go_sem, hc0] <;> rfl) rfl ⟨?_, ?_⟩
      · rw [unhide HT]; rfl
      · exact ((hbw.setCell (by simp) _).setCell (by simp) _).setCell (by simp) _

/-- No property at all, nil too. -/
theorem find_empty (a : Option Addr) (cap : Nat) (s : ByteArray) (w : World) :
    Calls Tryz.prog 61 #[.slice a 0 cap, .string s] w fun e w' => e = .returned (vV nV) ∧ Below w.heap.size w w' := by
  go_enter Tryz.func61, Tryz.ntmps61
  go_wp2_with fail
  refine wp_loop_rounds 1 ?_
  rw [rounds_succ]
  go_wp2_with fail
  refine bodyPost_ret (by simp [results, Tryz.results61, go_sem] <;> rfl) rfl ⟨rfl, (Below.refl _ _).alloc (Nat.le_refl _) _⟩

def nameOk (n : List UInt8) : Bool := decide (n.length ≤ 16) && nameB n
def valOk (v : V) : Bool :=
  if v.kind == 0 then v.num == 0 && v.str.isEmpty
  else if v.kind == 1 then (v.num == 0 || v.num == 1) && v.str.isEmpty
  else if v.kind == 2 then v.str.isEmpty
  else if v.kind == 3 then v.num == 0 && decide (v.str.length ≤ 20)
  else false
end

section
set_option maxHeartbeats 400000 in
theorem validName_any (s : ByteArray) (hs : s.size ≤ 140737488355328) (w : World) :
    Calls Tryz.prog 58 #[.string s] w fun e w' => e = .returned (.bool (nameOk s.data.toList)) ∧ Below w.heap.size w w' := by
  unfold nameOk
  rw [data_len]
  obtain ⟨nb, hn⟩ : ∃ nb, nameB s.data.toList = nb := ⟨_, rfl⟩
  rw [hn]
  have HN := hide hn
  clear hn
  by_cases h : s.size ≤ 16
  · go_enter Tryz.func58, Tryz.ntmps58
    go_wp2_with (go_at_call 105; refine (isName_any _ hs _).mono ?_; rintro e w' ⟨rfl, hb⟩; rw [unhide HN])
    all_goals (go_ret; exact ⟨ret_bool (by simp_all), by assumption⟩)
  · go_enter Tryz.func58, Tryz.ntmps58
    go_wp2_with fail
    go_ret
    exact ⟨ret_bool (by simp <;> omega), Below.refl _ _⟩

theorem BS_empty (l : List UInt8) : (BS l).toList.isEmpty = l.isEmpty := by rw [BS_toList]

set_option maxHeartbeats 400000 in
theorem validValue_any (v : V) (hv : v.str.length ≤ 140737488355328) (w : World) :
    Calls Tryz.prog 59 #[vV v] w fun e w' => e = .returned (.bool (valOk v)) ∧ Below w.heap.size w w' := by
  have he := BS_empty v.str
  have hz := BS_size v.str
  unfold valOk
  obtain ⟨em, hem⟩ : ∃ em, v.str.isEmpty = em := ⟨_, rfl⟩
  rw [hem] at he ⊢
  clear hem
  conv => arg 3; simp only [vV]
  cases h0 : (v.kind == 0)
  · cases h1 : (v.kind == 1)
    · cases h2 : (v.kind == 2)
      · cases h3 : (v.kind == 3)
        · simp only [Bool.false_eq_true, if_false]
          go_enter Tryz.func59, Tryz.ntmps59
          go_wp2_with fail
          go_ret
          exact ⟨rfl, (Below.refl _ _).alloc (Nat.le_refl _) _⟩
        · simp only [Bool.false_eq_true, if_false, if_true]
          go_enter Tryz.func59, Tryz.ntmps59
          go_wp2_with fail
          all_goals (go_ret; exact ⟨ret_bool (by simp_all <;> omega), (Below.refl _ _).alloc (Nat.le_refl _) _⟩)
      · simp only [Bool.false_eq_true, if_false, if_true]
        go_enter Tryz.func59, Tryz.ntmps59
        go_wp2_with fail
        all_goals (go_ret; exact ⟨ret_bool (by simp_all <;> omega), (Below.refl _ _).alloc (Nat.le_refl _) _⟩)
    · simp only [Bool.false_eq_true, if_false, if_true]
      go_enter Tryz.func59, Tryz.ntmps59
      go_wp2_with fail
      all_goals (go_ret; exact ⟨ret_bool (by simp_all <;> omega), (Below.refl _ _).alloc (Nat.le_refl _) _⟩)
  · simp only [if_true]
    go_enter Tryz.func59, Tryz.ntmps59
    go_wp2_with fail
    all_goals (go_ret; exact ⟨ret_bool (by simp_all <;> omega), (Below.refl _ _).alloc (Nat.le_refl _) _⟩)
end

section
def okAt (ps : List Pr) (k : Nat) : Bool := match ps[k]? with
  | some p => nameOk p.name && valOk p.val && !hasB (ps.take k) p.name
  | none => true
def evOk (ps : List Pr) : Bool := decide (ps.length ≤ 8) && (List.range ps.length).all (okAt ps)

theorem evOk_long {ps : List Pr} (h : ¬ ps.length ≤ 8) : evOk ps = false := by unfold evOk; rw [decide_eq_false h]; rfl
theorem evOk_bad {ps : List Pr} {k : Nat} (hk : k < ps.length) (h : okAt ps k = false) : evOk ps = false := by
  unfold evOk
  rw [Bool.and_eq_false_iff]; right
  rw [List.all_eq_false]
  exact ⟨k, List.mem_range.2 hk, by rw [h]; simp⟩
theorem evOk_good {ps : List Pr} (h8 : ps.length ≤ 8) (h : ∀ j, j < ps.length → okAt ps j = true) : evOk ps = true := by
  unfold evOk
  rw [decide_eq_true h8, Bool.true_and, List.all_eq_true]
  exact fun j hj => h j (List.mem_range.1 hj)

theorem EvAt.take {w : World} {b off : Nat} {ps : List Pr} (h : EvAt w b off ps) (k : Nat) : EvAt w b off (ps.take k) := by
  intro j p hj
  rw [List.getElem?_take] at hj
  split at hj
  · exact h j p hj
  · cases hj

/-- Every text of the properties is short enough for any machine. -/
def Short (ps : List Pr) : Prop := ∀ p ∈ ps, p.name.length ≤ 140737488355328 ∧ p.val.str.length ≤ 140737488355328

theorem has_k {qs : List Pr} {k : Nat} (hq : qs.length = k) (cap : Nat) {b off : Nat} (s : ByteArray) (w : World) (hk : k ≤ 8) (hw : EvAt w b off qs) (hlt : b < w.heap.size) :
    Calls Tryz.prog 60 #[.slice (some ⟨b, off, none⟩) k cap, .string s] w fun e w' => e = .returned (.bool (hasB qs s.data.toList)) ∧ Below w.heap.size w w' := by
  subst hq; exact has_any b off cap qs s w hk hw hlt

theorem EvAt.later {w W w1 w2 : World} {b off : Nat} {ps : List Pr} {o : Obj} (h : EvAt w b off ps) (hW : W = (w.alloc o).drew) (hlt : b < w.heap.size) (hb1 : Below W.heap.size W w1) (hb2 : Below w1.heap.size w1 w2) : EvAt w2 b off ps := by
  subst hW
  have h1 : EvAt (w.alloc o).drew b off ps := h.below ((Below.refl _ _).alloc (Nat.le_refl _) o).drew hlt
  have hlt1 : b < (w.alloc o).drew.heap.size := by show b < (w.alloc o).heap.size; simp; omega
  exact (h1.below hb1 hlt1).below hb2 (Nat.lt_of_lt_of_le hlt1 hb1.size)

set_option maxHeartbeats 1000000 in
theorem valid_good (b off cap : Nat) (ps : List Pr) (w : World) (hcap : ps.length ≤ cap) (hbig : ps.length ≤ 140737488355328) (hsh : Short ps) (hw : EvAt w b off ps) (hlt : b < w.heap.size) (hok : evOk ps = true) :
    Calls Tryz.prog 37 #[.slice (some ⟨b, off, none⟩) ps.length cap] w fun e w' => e = .returned (.bool true) ∧ Below w.heap.size w w' := by
  obtain ⟨h8, hg⟩ : ps.length ≤ 8 ∧ ∀ j, j < ps.length → okAt ps j = true := by
    unfold evOk at hok
    rw [Bool.and_eq_true, decide_eq_true_eq, List.all_eq_true] at hok
    exact ⟨hok.1, fun j hj => hok.2 j (List.mem_range.2 hj)⟩
  have HG := hide hg
  clear hg hok
  go_enter Tryz.func37, Tryz.ntmps37
  go_wp2_with fail
  go_loopw [3, 4, 10] (fun _ _ i wr => ∃ k : Nat, k ≤ ps.length ∧ i = .int .i64 k ∧ Hid (∀ j, j < k → okAt ps j = true) ∧ Below w.heap.size w wr) (fun _ _ i _ => ps.length - (intOf i).toNat)
  case atStart => exact ⟨0, Nat.zero_le _, rfl, hide (fun j hj => absurd hj (by omega)), Below.refl _ _⟩
  case round =>
    obtain ⟨k, hk, rfl, hh, hb⟩ := hrel
    by_cases hlt2 : k < ps.length
    · obtain ⟨p, hp⟩ : ∃ p, ps[k]? = some p := ⟨_, List.getElem?_eq_getElem hlt2⟩
      have hwr := hw.below hb hlt
      have hltr : b < wr.heap.size := Nat.lt_of_lt_of_le hlt hb.size
      obtain ⟨h1, h2, h3, h4⟩ := hwr k p hp
      obtain ⟨hs1, hs2⟩ := hsh p (List.mem_of_getElem? hp)
      have hok : okAt ps k = (nameOk p.name && valOk p.val && !hasB (ps.take k) p.name) := by unfold okAt; rw [hp]
      have htl : (ps.take k).length = k := by rw [List.length_take]; omega
      have HTK := hide (hwr.take k)
      have HL := hide htl
      clear hp hwr htl
      have hall := unhide HG k hlt2
      rw [hok] at hall
      simp only [Bool.and_eq_true, Bool.not_eq_true'] at hall
      obtain ⟨⟨hn, hv⟩, hx⟩ := hall
      have HN := hide hn
      have HV := hide hv
      have HOK : Hid (∀ j, j < k + 1 → okAt ps j = true) := hide (fun j hj => by
        by_cases hjk : j < k
        · exact unhide hh j hjk
        · have : j = k := by omega
          rw [this, hok, hn, hv, hx]; rfl)
      have HH := hide hx
      clear hn hok hv hx
      go_wp2_with fail
      go_region_with (first | (go_at_call 58; refine (validName_any _ (by exact hs1) _).mono ?_; rintro e w1 ⟨rfl, hb1⟩; rw [show nameOk (BS p.name).data.toList = true from unhide HN]; obtain ⟨hc1, hf1⟩ := bcell hb1; have hz1 : wr.heap.size < w1.heap.size := (by have := hb1.size; simp at this; omega); have hB1 : Below w.heap.size w w1 := below_any (below_alloc hb _).drew hb1) | (go_at_call 59; refine (validValue_any p.val hs2 _).mono ?_; rintro e w2 ⟨rfl, hb2⟩; rw [unhide HV]; obtain ⟨hc2, hf2⟩ := bcell hb2; have hz2 : wr.heap.size < w2.heap.size := (by have := hb2.size; omega); have hB2 : Below w.heap.size w w2 := below_any hB1 hb2) | (go_at_call 60; refine (has_k (unhide HL) cap (BS p.name) _ (by omega) (by exact (unhide HTK).later rfl hltr hb1 hb2) (by omega)).mono ?_; rintro e w3 ⟨rfl, hb3⟩; rw [show hasB (ps.take k) (BS p.name).data.toList = false from unhide HH]; have hB3 : Below w.heap.size w w3 := below_any hB2 hb3))
      all_goals (go_wp2_with fail)
      all_goals exact ⟨⟨k + 1, by omega, by go_num, HOK, hB3⟩, by simp [intOf]; omega⟩
    · clear hh
      go_wp2_with fail
      go_ret
      exact ⟨rfl, hb⟩
end

end Go.Proofs.YtfkcaldjphakpaaGreatDoor
