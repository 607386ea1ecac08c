/- Contracts of lex.markKind and lex.mark. Contracts of lex.wordKind and lex.word. The contract of lex.number. The contract of lex.quoted. -/
import Derived.Test.YtfkcaldjphakpabGreatDoorP00
import Derived.Deep.Light
import Derived.Lib.IndexBytes
import Derived.Test.YtfkcaldjphakpabGreatDoorShelf
import Derived.Lib.AtoiErrMem
import Derived.Laws.IdiomStrings
namespace Go.Proofs.YtfkcaldjphakpabGreatDoor
open Go.RowKit
section
def BS (l : List UInt8) : ByteArray := ⟨l.toArray⟩
theorem qq8 (l : List UInt8) : (BS l).data.toList = l := rfl
theorem BS_of (s : ByteArray) : BS s.data.toList = s := rfl
theorem qn4 (l : List UInt8) : (BS l).toList = l := by rw [Lib.toList_data]; rfl
theorem qc1 (l : List UInt8) : (BS l).size = l.length := rfl
def markK (l : List UInt8) : Int :=
  if l == [61] then 16 else if l == [60] then 18 else if l == [60, 61] then 19 else if l == [62] then 20 else if l == [62, 61] then 21
  else if l == [43] then 22 else if l == [45] then 23 else if l == [42] then 24 else if l == [47] then 25 else if l == [40] then 26
  else if l == [41] then 27 else if l == [44] then 28 else 1
set_option maxHeartbeats 400000 in
theorem vg1 (s : ByteArray) (w : World) :
    Calls Tryz.prog 213 #[.string s] w fun e w' => e = .returned (.int .i64 (markK s.data.toList)) ∧ w' = w := by
  go_enter Tryz.func213, Tryz.ntmps213
  go_wp2_with fail
  all_goals (go_ret; refine ⟨qt5 ?_, rfl⟩; simp only [Lib.toList_data] at *; simp only [markK, *, if_true, Bool.false_eq_true, if_false])
structure Tk where
  kind : Int
  num : Int
  str : List UInt8
def tkV (t : Tk) (place : Int) : Value := .agg #[.int .i64 t.kind, .int .i64 place, .int .i64 t.num, .string (BS t.str)]
def z7 (k : Int) : Tk := ⟨k, 0, []⟩
def ve1 (l : List UInt8) : Nat :=
  match l with
  | [] => 1
  | [_] => 1
  | a :: b :: _ => if a == 60 && b == 62 || (a == 60 || a == 62) && b == 61 then 2 else 1
def ve2 (l : List UInt8) : Int := if l.take 2 == [60, 62] then 17 else markK (l.take (ve1 l))
theorem vi7 (c d : UInt8) : ((c.toNat : Int) == (d.toNat : Int)) = (c == d) := by
  rw [Bool.eq_iff_iff]; simp [← UInt8.toNat_inj]; omega
theorem u8_39 (c : UInt8) : ((c.toNat : Int) == 39) = (c == 39) := vi7 c 39
theorem u8_60 (c : UInt8) : ((c.toNat : Int) == 60) = (c == 60) := vi7 c 60
theorem u8_61 (c : UInt8) : ((c.toNat : Int) == 61) = (c == 61) := vi7 c 61
theorem u8_62 (c : UInt8) : ((c.toNat : Int) == 62) = (c == 62) := vi7 c 62
theorem tok_ret {k k' z z' : Int} (hk : k = k') (hz : z = z') :
    Ending.returned (.tuple #[.agg #[.int .i64 k, .int .i64 0, .int .i64 0, .string ⟨#[]⟩], .int .i64 z]) = .returned (.tuple #[tkV (z7 k') 0, .int .i64 z']) := by
  rw [hk, hz]; rfl
theorem one_byte (s : ByteArray) (h : s.size = 1) : s.data.toList = [s[0]] := by
  have hl := qb3 s
  have e := List.drop_eq_getElem_cons (l := s.data.toList) (i := 0) (by omega)
  rw [List.drop_zero, qc7 s 0 (by omega), List.drop_of_length_le (by omega)] at e
  exact e
set_option maxHeartbeats 400000 in
theorem mark_any (s : ByteArray) (h0 : 0 < s.size) (hs : s.size ≤ maxLen) (w : World) :
    Calls Tryz.prog 180 #[.string s] w fun e w' => e = .returned (.tuple #[tkV (z7 (ve2 s.data.toList)) 0, .int .i64 (ve1 s.data.toList)]) ∧ Below w.heap.size w w' := by
  unfold maxLen at hs
  by_cases h1 : 1 < s.size
  · obtain ⟨t, ht⟩ := Lib.two_bytes s h1
    have HT := v6 ht
    clear ht
    go_enter Tryz.func180, Tryz.ntmps180
    go_wp2_with (go_at_call 213; refine (vg1 _ _).mono ?_; rintro e w' ⟨rfl, rfl⟩)
    all_goals
      refine bodyPost_ret (by simp [results, Tryz.results180, go_sem]; rfl) rfl ⟨?_, ?_⟩
      case refine_2 => exact (Below.refl _ _).alloc (Nat.le_refl _) _
    all_goals (go_light; rw [q9 HT]; simp only [u8_60, u8_61, u8_62] at *; refine tok_ret ?_ ?_ <;> simp_all [ve2, ve1])
  · have ht := one_byte s (by omega)
    have HT := v6 ht
    clear ht
    go_enter Tryz.func180, Tryz.ntmps180
    go_wp2_with (go_at_call 213; refine (vg1 _ _).mono ?_; rintro e w' ⟨rfl, rfl⟩)
    all_goals
      refine bodyPost_ret (by simp [results, Tryz.results180, go_sem]; rfl) rfl ⟨?_, ?_⟩
      case refine_2 => exact (Below.refl _ _).alloc (Nat.le_refl _) _
    all_goals (go_light; rw [q9 HT]; refine tok_ret ?_ ?_ <;> simp [ve2, ve1])
end
section
def kwK (l : List UInt8) : Int :=
  if l == [65, 78, 68] then 5 else if l == [79, 82] then 6 else if l == [78, 79, 84] then 7 else if l == [84, 82, 85, 69] then 8
  else if l == [70, 65, 76, 83, 69] then 9 else if l == [66, 69, 84, 87, 69, 69, 78] then 10 else if l == [73, 78] then 11
  else if l == [76, 73, 75, 69] then 12 else if l == [69, 83, 67, 65, 80, 69] then 13 else if l == [73, 83] then 14
  else if l == [78, 85, 76, 76] then 15 else 2
def vn1 (l : List UInt8) : Int := kwK (Lib.toUpperA l)
theorem asciiAt {l : List UInt8} (h : ∀ c ∈ l, c.toNat < 128) : ∀ (j : Nat) (b : UInt8), l[j]? = some b → b.toNat < 128 :=
  fun _ _ hj => h _ (List.mem_of_getElem? hj)
set_option maxHeartbeats 400000 in
theorem qx1 (s : ByteArray) (hs : s.size ≤ 140737488355328) (ha : ∀ c ∈ s.data.toList, c.toNat < 128) (w : World) :
    Calls Tryz.prog 144 #[.string s] w fun e w' => e = .returned (.int .i64 (vn1 s.data.toList)) ∧ Below w.heap.size w w' := by
  have Ha := v6 (asciiAt ha)
  clear ha
  unfold vn1
  obtain ⟨u, hu⟩ : ∃ u, Lib.toUpperA s.data.toList = u := ⟨_, rfl⟩
  rw [hu]
  have Hu := v6 hu
  clear hu
  go_enter Tryz.func144, Tryz.ntmps144
  go_wp2_with (go_at_call 194; refine (Tryz.strings_ToUpper_ascii _ _ hs (q9 Ha)).mono ?_; rintro e w' ⟨rfl, hb⟩; rw [q9 Hu])
  all_goals (go_ret; refine ⟨qt5 ?_, by assumption⟩; go_light; simp only [kwK, *, if_true, Bool.false_eq_true, if_false])
theorem goe_ascii {c : UInt8} (h : vr6 c = true) : c.toNat < 128 := by
  simp [vr6, goeB, za8, za6] at h; omega
theorem beg_ascii {c : UInt8} (h : vp9 c = true) : c.toNat < 128 := by
  simp [vp9, za8] at h; omega
theorem vr9 (p : UInt8 → Bool) (l : List UInt8) : ∀ c ∈ l.take (x8 p l), p c = true := by
  induction l with
  | nil => simp [x8]
  | cons d t ih =>
    intro c hc
    by_cases hd : p d = true
    · simp only [x8, hd, if_true, List.take_succ_cons, List.mem_cons] at hc
      rcases hc with rfl | hc
      · exact hd
      · exact ih c hc
    · simp [x8, hd] at hc
theorem va4 (l : List UInt8) : qa3 l ≤ l.length := by
  cases l with
  | nil => simp [qa3]
  | cons c t => have := qx4 vr6 t; simp only [qa3]; split <;> simp <;> omega
theorem vr2 (l : List UInt8) : ∀ c ∈ l.take (qa3 l), c.toNat < 128 := by
  cases l with
  | nil => simp
  | cons d t =>
    intro c hc
    by_cases hd : vp9 d = true
    · simp only [qa3, hd, if_true, List.take_succ_cons, List.mem_cons] at hc
      rcases hc with rfl | hc
      · exact beg_ascii hd
      · exact goe_ascii (vr9 vr6 t c hc)
    · simp [qa3, hd] at hc
def qv4 (l : List UInt8) : Tk := if vn1 (l.take (qa3 l)) = 2 then ⟨2, 0, l.take (qa3 l)⟩ else z7 (vn1 (l.take (qa3 l)))
theorem qu8 {w : Tk} {k n : Int} {b : ByteArray} {z z' : Int} (hk : k = w.kind) (hn : n = w.num) (hs : b = BS w.str) (hz : z = z') :
    Ending.returned (.tuple #[.agg #[.int .i64 k, .int .i64 0, .int .i64 n, .string b], .int .i64 z]) = .returned (.tuple #[tkV w 0, .int .i64 z']) := by
  rw [hk, hn, hs, hz]; rfl
set_option maxHeartbeats 400000 in
theorem vz1 (s : ByteArray) (w : World) (hs : s.size ≤ 281474976710656) :
    Calls Tryz.prog 162 #[.string s] w fun e w' => e = .returned (.string s) ∧ Below w.heap.size w w' := by
  go_enter Tryz.func162, Tryz.ntmps162
  go_wp2_with (go_at_call 200; refine (Tryz.stringslite_Clone s _ hs).mono ?_; rintro e w1 ⟨rfl, hb1⟩)
  go_ret
  exact ⟨rfl, hb1⟩
set_option maxHeartbeats 400000 in
theorem word_any (s : ByteArray) (hs : s.size ≤ 140737488355328) (w : World) :
    Calls Tryz.prog 176 #[.string s] w fun e w' => e = .returned (.tuple #[tkV (qv4 s.data.toList) 0, .int .i64 (qa3 s.data.toList)]) ∧ Below w.heap.size w w' := by
  have hle := va4 s.data.toList
  rw [qb3] at hle
  have hx : (s.extract 0 (qa3 s.data.toList)).data.toList = s.data.toList.take (qa3 s.data.toList) := by rw [Lib.extract_data]; simp
  have hm : s.size ≤ maxLen := by unfold maxLen; omega
  have Ha := v6 (vr2 s.data.toList)
  obtain ⟨z, hz⟩ : ∃ z, qa3 s.data.toList = z := ⟨_, rfl⟩
  have Hk : Hid (qv4 s.data.toList = if vn1 (s.data.toList.take z) = 2 then ⟨2, 0, s.data.toList.take z⟩ else z7 (vn1 (s.data.toList.take z))) := by rw [← hz]; exact v6 rfl
  rw [hz] at hle hx Ha ⊢
  have Hx := v6 hx
  have Hz := v6 hz
  clear hx hz
  obtain ⟨k, hk⟩ : ∃ k, vn1 (s.data.toList.take z) = k := ⟨_, rfl⟩
  have Hkk := v6 hk
  clear hk
  by_cases h2 : k = 2
  · have h2'' : (k != 2) = false := by simp [h2]
    have H2 := v6 h2
    clear h2
    go_enter Tryz.func176, Tryz.ntmps176
    go_wp2_with (first | (go_at_call 143; refine (qm7 _ hm _).mono ?_; rintro e w' ⟨rfl, rfl⟩; rw [q9 Hz]) | (go_at_call 144; refine (qx1 _ (by simp; omega) (by rw [q9 Hx]; exact q9 Ha) _).mono ?_; rintro e w' ⟨rfl, hb⟩; obtain ⟨hc, hf⟩ := j6 hb; have hz := hb.size; rw [q9 Hx, q9 Hkk]) | (go_at_call 162; refine (vz1 _ _ (by simp; omega)).mono ?_; rintro e w2 ⟨rfl, hb2⟩; have hz1 : w.heap.size < w'.heap.size := (by simp at hz; omega); have hz2 : w.heap.size < w2.heap.size := (by have := hb2.size; omega); have c0 : w2.cell? ⟨w.heap.size, 0, none⟩ = some (.int .i64 0) := ((j6 hb2).1 _ 0 hz1).trans ((hc _ 0 (by simp)).trans (by simp)); have c1 : w2.cell? ⟨w.heap.size, 1, none⟩ = some (.int .i64 0) := ((j6 hb2).1 _ 1 hz1).trans ((hc _ 1 (by simp)).trans (by simp)); have c2 : w2.cell? ⟨w.heap.size, 2, none⟩ = some (.int .i64 0) := ((j6 hb2).1 _ 2 hz1).trans ((hc _ 2 (by simp)).trans (by simp)); have c3 : w2.cell? ⟨w.heap.size, 3, none⟩ = some (.string ⟨#[]⟩) := ((j6 hb2).1 _ 3 hz1).trans ((hc _ 3 (by simp)).trans (by simp)); have z0 : ∀ j, w2.frozen? ⟨w.heap.size, j, none⟩ = false := (fun j => ((j6 hb2).2 _ j hz1).trans ((hf _ j (by simp)).trans (by simp))); have hB := v6 (hb.trans (hb2.mono hb.size)); clear hb hb2 hc hf hz))
    refine bodyPost_ret (by simp [results, Tryz.results176, go_sem, c0, c1, c2, c3]; rfl) rfl ⟨?_, ?_⟩
    all_goals go_light
    · exact qu8 (by rw [q9 Hk, q9 Hkk, if_pos (q9 H2)]) (by rw [q9 Hk, q9 Hkk, if_pos (q9 H2)]) (by rw [q9 Hk, q9 Hkk, if_pos (q9 H2), ← q9 Hx]; rfl) rfl
    · exact ((((qc4 (q9 hB)).setCell (by simp) _).setCell (by simp) _).setCell (by simp) _).setCell (by simp) _
  · have h2'' : (k != 2) = true := by simp [h2]
    have H2 := v6 h2
    clear h2
    go_enter Tryz.func176, Tryz.ntmps176
    go_wp2_with (first | (go_at_call 143; refine (qm7 _ hm _).mono ?_; rintro e w' ⟨rfl, rfl⟩; rw [q9 Hz]) | (go_at_call 144; refine (qx1 _ (by simp; omega) (by rw [q9 Hx]; exact q9 Ha) _).mono ?_; rintro e w' ⟨rfl, hb⟩; obtain ⟨hc, hf⟩ := j6 hb; have hz := hb.size; rw [q9 Hx, q9 Hkk]))
    refine bodyPost_ret (by simp [results, Tryz.results176, go_sem, hc]; rfl) rfl ⟨?_, ?_⟩
    all_goals go_light
    · exact qu8 (by rw [q9 Hk, q9 Hkk, if_neg (q9 H2)]; rfl) (by rw [q9 Hk, q9 Hkk, if_neg (q9 H2)]; rfl) (by rw [q9 Hk, q9 Hkk, if_neg (q9 H2)]; rfl) rfl
    · exact ((((qc4 hb).setCell (by simp) _).setCell (by simp) _).setCell (by simp) _).setCell (by simp) _
end
section
def vh0 (l : List UInt8) : Tk := if qn3 0 (l.take (x8 qt3 l)) ≤ 9223372036854775807 then ⟨3, qn3 0 (l.take (x8 qt3 l)), []⟩ else z7 1
theorem digs_of (l : List UInt8) : ∀ c ∈ l.take (x8 qt3 l), 48 ≤ c.toNat ∧ c.toNat ≤ 57 := by
  intro c hc
  have := vr9 qt3 l c hc
  simp [qt3, za6] at this; omega
theorem parse_ok (s : ByteArray) (hs : s.size ≤ 140737488355328) (v : Int) (h : Lib.parseIntB 64 s.data.toList = .ok v) (w : World) :
    Calls Tryz.prog 212 #[.string s, .int .i64 10, .int .i64 64] w fun e w' => e = .returned (.tuple #[.int .i64 v, .nilIface]) ∧ Below w.heap.size w w' := by
  refine (Tryz.strconv_ParseInt_10_at64_ok s (by omega) v h w).mono ?_
  rintro e w' ⟨rfl, rfl | ⟨t, rfl⟩⟩
  · exact ⟨rfl, Below.refl _ _⟩
  · exact ⟨rfl, Lib.bytesWorld_below _ _ _⟩
theorem jk4 (s : ByteArray) (hs : s.size ≤ 140737488355328) (h : Lib.parseIntB 64 s.data.toList = .range) (w : World) (hE : ErrOk w) :
    Calls Tryz.prog 212 #[.string s, .int .i64 10, .int .i64 64] w fun e w' => (∃ x t p, e = .returned (.tuple #[.int .i64 x, .iface t p])) ∧ Below w.heap.size w w' := by
  obtain ⟨_, ev, h2, h3⟩ := hE
  refine (Tryz.strconv_ParseInt_10_at64_range s (by omega) h ev w h2 h3).mono ?_
  rintro e w' ⟨N, rfl, _, _, hb⟩
  exact ⟨⟨_, _, _, rfl⟩, hb⟩
theorem jw4 (p : UInt8 → Bool) (s : ByteArray) (h : 0 < s.size) (hp : p s[0] = true) : x8 p s.data.toList = x8 p (s.data.toList.drop 1) + 1 := by
  have := qj0 p s.data.toList 0 (by rw [qb3]; exact h) hp
  rwa [List.drop_zero] at this
set_option maxHeartbeats 400000 in
theorem jr5 (s : ByteArray) (h0 : 0 < s.size) (hs : s.size ≤ 140737488355328) (hd : qt3 s[0] = true) (w : World) (hE : ErrOk w) :
    Calls Tryz.prog 178 #[.string s] w fun e w' => e = .returned (.tuple #[tkV (vh0 s.data.toList) 0, .int .i64 (x8 qt3 s.data.toList)]) ∧ Below w.heap.size w w' := by
  have hl := qb3 s
  have hp := jw4 qt3 s h0 hd
  have hle := qx4 qt3 s.data.toList
  have hdg := digs_of s.data.toList
  have HD : Hid (qt3 s[0] = true) := hd
  clear hd
  obtain ⟨z, hz⟩ : ∃ z, x8 qt3 s.data.toList = z := ⟨_, rfl⟩
  have hz1 : 1 ≤ z := by omega
  have hzl : z ≤ s.size := by omega
  have hxx : (s.extract 0 z).data.toList = s.data.toList.take z := by rw [Lib.extract_data]; simp
  have hpi := vg8 (s.data.toList.take z) (by intro h; have := congrArg List.length h; rw [List.length_take, List.length_nil] at this; omega) (by rw [← hz]; exact hdg)
  have HK : Hid (vh0 s.data.toList = if qn3 0 (s.data.toList.take z) ≤ 9223372036854775807 then ⟨3, qn3 0 (s.data.toList.take z), []⟩ else z7 1) := by rw [← hz]; exact v6 rfl
  rw [hz] at hp ⊢
  have HP := v6 hp
  have HX := v6 hxx
  have HI := v6 hpi
  have hEa := fun o => hE.alloc o
  have HE := v6 hEa
  clear hdg hle hz hp hxx hpi hE hEa
  obtain ⟨v, hv⟩ : ∃ v, qn3 0 (s.data.toList.take z) = v := ⟨_, rfl⟩
  rw [hv] at HK HI
  have HV := v6 hv
  clear hv
  go_enter Tryz.func178, Tryz.ntmps178
  go_wp2_with fail
  go_loop [4] (fun i => ∃ k : Nat, 1 ≤ k ∧ k ≤ s.size ∧ i = .int .i64 k ∧ Hid (z = x8 qt3 (s.data.toList.drop k) + k)) (fun i => s.size - (intOf i).toNat)
  case atStart => exact ⟨1, Nat.le_refl _, by omega, rfl, HP⟩
  case round =>
    obtain ⟨k, hk1, hk, rfl, hr⟩ := hrel
    have more : ∀ hlt : k < s.size, qt3 s[k] = true → Hid (z = x8 qt3 (s.data.toList.drop (k + 1)) + (k + 1)) := fun hlt hg => v6 (by
      have := qj0 qt3 s.data.toList k (by omega) hg; rw [q9 hr, this]; omega)
    have done1 : ∀ hlt : k < s.size, qt3 s[k] = false → z = k := fun hlt hg => by
      have := qp3 qt3 s.data.toList k (by omega) hg; rw [q9 hr, this]; omega
    have done2 : ¬ k < s.size → z = k := fun hlt => by
      have := qq5 qt3 s.data.toList k (by omega); rw [q9 hr, this]; omega
    clear hr
    by_cases hgo : ∃ hlt : k < s.size, qt3 s[k] = true
    · obtain ⟨hlt, hg⟩ := hgo
      have HR := more hlt hg
      have Hg := v6 hg
      clear more done1 done2 hg
      go_wp2_with (go_at_call 177; refine (qj2 _ _).mono ?_; rintro e w' ⟨rfl, rfl⟩; rw [show za6 (s[k].toNat : Int) = true from q9 Hg])
      go_round
      case rel => exact ⟨k + 1, by omega, by omega, by go_num, HR⟩
      case measure => simp [intOf]; omega
    · have hzk : z = k := by
        by_cases hlt : k < s.size
        · exact done1 hlt (by cases hg : qt3 s[k] with | false => rfl | true => exact absurd ⟨hlt, hg⟩ hgo)
        · exact done2 hlt
      have Hg : Hid (∀ hlt : k < s.size, qt3 s[k] = false) := v6 fun hlt => by cases hg : qt3 s[k] with | false => rfl | true => exact absurd ⟨hlt, hg⟩ hgo
      clear more done1 done2 hgo
      subst hzk
      by_cases hv : v ≤ 9223372036854775807
      · rw [if_pos hv] at HK HI
        have HVV := v6 hv
        clear hv
        by_cases hlt : z < s.size
        all_goals
          go_wp2_with (first | (go_at_call 177; refine (qj2 _ _).mono ?_; rintro e w' ⟨rfl, rfl⟩; rw [show za6 (s[z].toNat : Int) = false from q9 Hg hlt]) | (go_at_call 212; refine (parse_ok _ (by simp; omega) v (by rw [q9 HX]; exact q9 HI) _).mono ?_; rintro e w' ⟨rfl, hb⟩; obtain ⟨hc, hf⟩ := j6 hb; have hz := hb.size))
          refine bodyPost_ret (by simp [results, Tryz.results178, go_sem, hc]; rfl) rfl ⟨?_, ?_⟩
          all_goals go_light
          · exact qu8 (by rw [q9 HK]) (by rw [q9 HK]) (by rw [q9 HK]; rfl) rfl
          · exact ((((qc4 hb).setCell (by simp) _).setCell (by simp) _).setCell (by simp) _).setCell (by simp) _
      · rw [if_neg hv] at HK HI
        clear hv
        by_cases hlt : z < s.size
        all_goals
          go_wp2_with (first | (go_at_call 177; refine (qj2 _ _).mono ?_; rintro e w' ⟨rfl, rfl⟩; rw [show za6 (s[z].toNat : Int) = false from q9 Hg hlt]) | (go_at_call 212; refine (jk4 _ (by simp; omega) (by rw [q9 HX]; exact q9 HI) _ (q9 HE _)).mono ?_; rintro e w' ⟨⟨x, t, p, rfl⟩, hb⟩; obtain ⟨hc, hf⟩ := j6 hb; have hz := hb.size))
          refine bodyPost_ret (by simp [results, Tryz.results178, go_sem, hc]; rfl) rfl ⟨?_, ?_⟩
          all_goals go_light
          · exact qu8 (by rw [q9 HK]; rfl) (by rw [q9 HK]; rfl) (by rw [q9 HK]; rfl) rfl
          · exact ((((qc4 hb).setCell (by simp) _).setCell (by simp) _).setCell (by simp) _).setCell (by simp) _
end
section
def qe5 : List UInt8 → Option (List UInt8 × Nat)
  | [] => none
  | [c] => if c == 39 then some ([], 1) else none
  | c :: d :: t =>
    if c == 39 then (if d == 39 then (qe5 t).map fun r => (39 :: r.1, r.2 + 2) else some ([], 1))
    else (qe5 (d :: t)).map fun r => (c :: r.1, r.2 + 1)
def qn0 (l : List UInt8) : Tk := match qe5 (l.drop 1) with
  | some r => ⟨4, 0, r.1⟩
  | none => z7 1
def vb1 (l : List UInt8) : Nat := match qe5 (l.drop 1) with
  | some r => r.2 + 1
  | none => l.length
def QAt (l : List UInt8) (k : Nat) (xs : List UInt8) : Prop := qe5 (l.drop 1) = (qe5 (l.drop k)).map fun r => (xs ++ r.1, r.2 + (k - 1))
theorem drop2 (l : List UInt8) (k : Nat) (h : k + 1 < l.length) : l.drop k = l[k] :: l[k + 1] :: l.drop (k + 2) := by
  rw [List.drop_eq_getElem_cons (by omega), List.drop_eq_getElem_cons (by omega)]
theorem drop1 (l : List UInt8) (k : Nat) (h : k + 1 = l.length) : l.drop k = [l[k]] := by
  rw [List.drop_eq_getElem_cons (by omega), List.drop_of_length_le (by omega)]
theorem QAt.start (l : List UInt8) : QAt l 1 [] := by
  unfold QAt
  cases qe5 (l.drop 1) <;> simp
theorem QAt.over {l : List UInt8} {k : Nat} {xs : List UInt8} (h : QAt l k xs) (hk : l.length ≤ k) : qe5 (l.drop 1) = none := by
  unfold QAt at h; rw [h, List.drop_of_length_le hk]; rfl
theorem QAt.close {l : List UInt8} {k : Nat} {xs : List UInt8} (h : QAt l k xs) (h1 : 1 ≤ k) (hk : k < l.length) (hc : l[k] = 39) (hn : ∀ h : k + 1 < l.length, l[k + 1] ≠ 39) :
    qe5 (l.drop 1) = some (xs, k) := by
  unfold QAt at h
  rw [h]
  by_cases h2 : k + 1 < l.length
  · have := hn h2
    rw [drop2 l k h2, qe5, if_pos (by simp [hc]), if_neg (by simpa using this)]; simp; omega
  · rw [drop1 l k (by omega), qe5, if_pos (by simp [hc])]; simp; omega
theorem QAt.two {l : List UInt8} {k : Nat} {xs : List UInt8} (h : QAt l k xs) (h1 : 1 ≤ k) (hk : k + 1 < l.length) (hc : l[k] = 39) (hd : l[k + 1] = 39) : QAt l (k + 2) (xs ++ [39]) := by
  unfold QAt at h ⊢
  rw [h, drop2 l k hk, qe5, if_pos (by simp [hc]), if_pos (by simp [hd])]
  cases qe5 (l.drop (k + 2)) with
  | none => rfl
  | some r => simp; omega
theorem QAt.one {l : List UInt8} {k : Nat} {xs : List UInt8} (h : QAt l k xs) (h1 : 1 ≤ k) (hk : k < l.length) (hc : l[k] ≠ 39) : QAt l (k + 1) (xs ++ [l[k]]) := by
  unfold QAt at h ⊢
  rw [h]
  by_cases h2 : k + 1 < l.length
  · rw [drop2 l k h2, qe5, if_neg (by simpa using hc), List.drop_eq_getElem_cons h2]
    cases qe5 (l[k + 1] :: l.drop (k + 1 + 1)) with
    | none => rfl
    | some r => simp; omega
  · rw [drop1 l k (by omega), qe5, if_neg (by simpa using hc), List.drop_of_length_le (by omega)]; rfl
theorem Tryz.info5u : (Tryz.prog.info? 5).map (fun i => (i.zero, i.size, i.bytes)) = some (some (.int .u8 0), 1, 1) := by kernel_rfl
theorem conv_own {w : World} {base : Nat} {v : Value} {l : List UInt8} (h : w.ownsRow base 5 1 v l.length (l.map fun c => .int .u8 (c.toNat : Int))) :
    (convert 36 9 v).run Tryz.prog w = .ok (.string (BS l)) w := by
  have h' := h
  obtain ⟨_, ⟨rfl, hn⟩ | ⟨g, cap, cur, rfl, _⟩⟩ := h
  · have : l = [] := List.eq_nil_of_length_eq_zero hn
    subst this
    rw [run_convert_bytes_string w 36 9 5 none 0 0 Tryz.underlying36 Tryz.underlying5 Tryz.underlying9]
    simp [Conv.bytesToString]
    rfl
  · refine run_convert_bytes_back w 36 9 5 ⟨g, 0, none⟩ cap l Tryz.underlying36 Tryz.underlying5 Tryz.underlying9 fun j hj => ?_
    exact h'.cells rfl j _ (by simp [List.getElem?_eq_getElem hj])
end
end Go.Proofs.YtfkcaldjphakpabGreatDoor
