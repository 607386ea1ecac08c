/- Contracts of lex.wordKind and lex.word. The contract of lex.number. -/
import Derived.Test.YtfkcaldjphakpabGreatDoorYLex3
import Derived.Test.YtfkcaldjphakpabGreatDoorShelf
import Derived.Test.YtfkcaldjphakpabGreatDoorT00
import Derived.Lib.AtoiErrMem
namespace Go.Proofs.YtfkcaldjphakpabGreatDoor
open Go.RowKit
section
def kwK (l : List UInt8) : Int :=
  if l == [65, 78, 68] then 5 else if l == [79, 82] then 6 else if l == [78, 79, 84] then 7 else if l == [84, 82, 85, 69] then 8
  else if l == [70, 65, 76, 83, 69] then 9 else if l == [66, 69, 84, 87, 69, 69, 78] then 10 else if l == [73, 78] then 11
  else if l == [76, 73, 75, 69] then 12 else if l == [69, 83, 67, 65, 80, 69] then 13 else if l == [73, 83] then 14
  else if l == [78, 85, 76, 76] then 15 else 2
def vm8 (l : List UInt8) : Int := kwK (Lib.toUpperA l)
theorem asciiAt {l : List UInt8} (h : ∀ c ∈ l, c.toNat < 128) : ∀ (j : Nat) (b : UInt8), l[j]? = some b → b.toNat < 128 :=
  fun _ _ hj => h _ (List.mem_of_getElem? hj)
set_option maxHeartbeats 400000 in
theorem qx2 (s : ByteArray) (hs : s.size ≤ 140737488355328) (ha : ∀ c ∈ s.data.toList, c.toNat < 128) (w : World) :
    Calls Tryz.prog 144 #[.string s] w fun e w' => e = .returned (.int .i64 (vm8 s.data.toList)) ∧ Below w.heap.size w w' := by
  have Ha := v6 (asciiAt ha)
  clear ha
  unfold vm8
  obtain ⟨u, hu⟩ : ∃ u, Lib.toUpperA s.data.toList = u := ⟨_, rfl⟩
  rw [hu]
  have Hu := v6 hu
  clear hu
  go_enter Tryz.func144, Tryz.ntmps144
  go_wp2_with (go_at_call 194; refine (Tryz.strings_ToUpper_ascii _ _ hs (q9 Ha)).mono ?_; rintro e w' ⟨rfl, hb⟩; rw [q9 Hu])
  all_goals (go_ret; refine ⟨qu2 ?_, by assumption⟩; go_light; simp only [kwK, *, if_true, Bool.false_eq_true, if_false])
theorem goe_ascii {c : UInt8} (h : vy6 c = true) : c.toNat < 128 := by
  simp [vy6, goeB, jy7, jy9] at h; omega
theorem beg_ascii {c : UInt8} (h : jq4 c = true) : c.toNat < 128 := by
  simp [jq4, jy7] at h; omega
theorem vq8 (p : UInt8 → Bool) (l : List UInt8) : ∀ c ∈ l.take (qb8 p l), p c = true := by
  induction l with
  | nil => simp [qb8]
  | cons d t ih =>
    intro c hc
    by_cases hd : p d = true
    · simp only [qb8, hd, if_true, List.take_succ_cons, List.mem_cons] at hc
      rcases hc with rfl | hc
      · exact hd
      · exact ih c hc
    · simp [qb8, hd] at hc
theorem vm9 (l : List UInt8) : qb4 l ≤ l.length := by
  cases l with
  | nil => simp [qb4]
  | cons c t => have := vb5 vy6 t; simp only [qb4]; split <;> simp <;> omega
theorem vr6 (l : List UInt8) : ∀ c ∈ l.take (qb4 l), c.toNat < 128 := by
  cases l with
  | nil => simp
  | cons d t =>
    intro c hc
    by_cases hd : jq4 d = true
    · simp only [qb4, hd, if_true, List.take_succ_cons, List.mem_cons] at hc
      rcases hc with rfl | hc
      · exact beg_ascii hd
      · exact goe_ascii (vq8 vy6 t c hc)
    · simp [qb4, hd] at hc
def vc5 (l : List UInt8) : Tk := if vm8 (l.take (qb4 l)) = 2 then ⟨2, 0, l.take (qb4 l)⟩ else qd5 (vm8 (l.take (qb4 l)))
theorem qu6 {w : Tk} {k n : Int} {b : ByteArray} {z z' : Int} (hk : k = w.kind) (hn : n = w.num) (hs : b = BS w.str) (hz : z = z') :
    Ending.returned (.tuple #[.agg #[.int .i64 k, .int .i64 0, .int .i64 n, .string b], .int .i64 z]) = .returned (.tuple #[tkV w 0, .int .i64 z']) := by
  rw [hk, hn, hs, hz]; rfl
set_option maxHeartbeats 400000 in
theorem vx8 (s : ByteArray) (w : World) (hs : s.size ≤ 281474976710656) :
    Calls Tryz.prog 162 #[.string s] w fun e w' => e = .returned (.string s) ∧ Below w.heap.size w w' := by
  go_enter Tryz.func162, Tryz.ntmps162
  go_wp2_with (go_at_call 200; refine (Tryz.stringslite_Clone s _ hs).mono ?_; rintro e w1 ⟨rfl, hb1⟩)
  go_ret
  exact ⟨rfl, hb1⟩
set_option maxHeartbeats 400000 in
theorem word_any (s : ByteArray) (hs : s.size ≤ 140737488355328) (w : World) :
    Calls Tryz.prog 176 #[.string s] w fun e w' => e = .returned (.tuple #[tkV (vc5 s.data.toList) 0, .int .i64 (qb4 s.data.toList)]) ∧ Below w.heap.size w w' := by
  have hle := vm9 s.data.toList
  rw [qa9] at hle
  have hx : (s.extract 0 (qb4 s.data.toList)).data.toList = s.data.toList.take (qb4 s.data.toList) := by rw [Lib.extract_data]; simp
  have hm : s.size ≤ maxLen := by unfold maxLen; omega
  have Ha := v6 (vr6 s.data.toList)
  obtain ⟨z, hz⟩ : ∃ z, qb4 s.data.toList = z := ⟨_, rfl⟩
  have Hk : Hid (vc5 s.data.toList = if vm8 (s.data.toList.take z) = 2 then ⟨2, 0, s.data.toList.take z⟩ else qd5 (vm8 (s.data.toList.take z))) := by rw [← hz]; exact v6 rfl
  rw [hz] at hle hx Ha ⊢
  have Hx := v6 hx
  have Hz := v6 hz
  clear hx hz
  obtain ⟨k, hk⟩ : ∃ k, vm8 (s.data.toList.take z) = k := ⟨_, rfl⟩
  have Hkk := v6 hk
  clear hk
  by_cases h2 : k = 2
  · have h2'' : (k != 2) = false := by simp [h2]
    have H2 := v6 h2
    clear h2
    go_enter Tryz.func176, Tryz.ntmps176
    go_wp2_with (first | (go_at_call 143; refine (qn0 _ hm _).mono ?_; rintro e w' ⟨rfl, rfl⟩; rw [q9 Hz]) | (go_at_call 144; refine (qx2 _ (by simp; omega) (by rw [q9 Hx]; exact q9 Ha) _).mono ?_; rintro e w' ⟨rfl, hb⟩; obtain ⟨hc, hf⟩ := j5 hb; have hz := hb.size; rw [q9 Hx, q9 Hkk]) | (go_at_call 162; refine (vx8 _ _ (by simp; omega)).mono ?_; rintro e w2 ⟨rfl, hb2⟩; have hz1 : w.heap.size < w'.heap.size := (by simp at hz; omega); have hz2 : w.heap.size < w2.heap.size := (by have := hb2.size; omega); have c0 : w2.cell? ⟨w.heap.size, 0, none⟩ = some (.int .i64 0) := ((j5 hb2).1 _ 0 hz1).trans ((hc _ 0 (by simp)).trans (by simp)); have c1 : w2.cell? ⟨w.heap.size, 1, none⟩ = some (.int .i64 0) := ((j5 hb2).1 _ 1 hz1).trans ((hc _ 1 (by simp)).trans (by simp)); have c2 : w2.cell? ⟨w.heap.size, 2, none⟩ = some (.int .i64 0) := ((j5 hb2).1 _ 2 hz1).trans ((hc _ 2 (by simp)).trans (by simp)); have c3 : w2.cell? ⟨w.heap.size, 3, none⟩ = some (.string ⟨#[]⟩) := ((j5 hb2).1 _ 3 hz1).trans ((hc _ 3 (by simp)).trans (by simp)); have z0 : ∀ j, w2.frozen? ⟨w.heap.size, j, none⟩ = false := (fun j => ((j5 hb2).2 _ j hz1).trans ((hf _ j (by simp)).trans (by simp))); have hB := v6 (hb.trans (hb2.mono hb.size)); clear hb hb2 hc hf hz))
    refine bodyPost_ret (by simp [results, Tryz.results176, go_sem, c0, c1, c2, c3]; rfl) rfl ⟨?_, ?_⟩
    all_goals go_light
    · exact qu6 (by rw [q9 Hk, q9 Hkk, if_pos (q9 H2)]) (by rw [q9 Hk, q9 Hkk, if_pos (q9 H2)]) (by rw [q9 Hk, q9 Hkk, if_pos (q9 H2), ← q9 Hx]; rfl) rfl
    · exact ((((qc1 (q9 hB)).setCell (by simp) _).setCell (by simp) _).setCell (by simp) _).setCell (by simp) _
  · have h2'' : (k != 2) = true := by simp [h2]
    have H2 := v6 h2
    clear h2
    go_enter Tryz.func176, Tryz.ntmps176
    go_wp2_with (first | (go_at_call 143; refine (qn0 _ hm _).mono ?_; rintro e w' ⟨rfl, rfl⟩; rw [q9 Hz]) | (go_at_call 144; refine (qx2 _ (by simp; omega) (by rw [q9 Hx]; exact q9 Ha) _).mono ?_; rintro e w' ⟨rfl, hb⟩; obtain ⟨hc, hf⟩ := j5 hb; have hz := hb.size; rw [q9 Hx, q9 Hkk]))
    refine bodyPost_ret (by simp [results, Tryz.results176, go_sem, hc]; rfl) rfl ⟨?_, ?_⟩
    all_goals go_light
    · exact qu6 (by rw [q9 Hk, q9 Hkk, if_neg (q9 H2)]; rfl) (by rw [q9 Hk, q9 Hkk, if_neg (q9 H2)]; rfl) (by rw [q9 Hk, q9 Hkk, if_neg (q9 H2)]; rfl) rfl
    · exact ((((qc1 hb).setCell (by simp) _).setCell (by simp) _).setCell (by simp) _).setCell (by simp) _
end
section
def vu1 (l : List UInt8) : Tk := if qm2 0 (l.take (qb8 qx9 l)) ≤ 9223372036854775807 then ⟨3, qm2 0 (l.take (qb8 qx9 l)), []⟩ else qd5 1
theorem digs_of (l : List UInt8) : ∀ c ∈ l.take (qb8 qx9 l), 48 ≤ c.toNat ∧ c.toNat ≤ 57 := by
  intro c hc
  have := vq8 qx9 l c hc
  simp [qx9, jy9] at this; omega
theorem parse_ok (s : ByteArray) (hs : s.size ≤ 140737488355328) (v : Int) (h : Lib.parseIntB 64 s.data.toList = .ok v) (w : World) :
    Calls Tryz.prog 212 #[.string s, .int .i64 10, .int .i64 64] w fun e w' => e = .returned (.tuple #[.int .i64 v, .nilIface]) ∧ Below w.heap.size w w' := by
  refine (Tryz.strconv_ParseInt_10_at64_ok s (by omega) v h w).mono ?_
  rintro e w' ⟨rfl, rfl | ⟨t, rfl⟩⟩
  · exact ⟨rfl, Below.refl _ _⟩
  · exact ⟨rfl, Lib.bytesWorld_below _ _ _⟩
theorem jh4 (s : ByteArray) (hs : s.size ≤ 140737488355328) (h : Lib.parseIntB 64 s.data.toList = .range) (w : World) (hE : ErrOk w) :
    Calls Tryz.prog 212 #[.string s, .int .i64 10, .int .i64 64] w fun e w' => (∃ x t p, e = .returned (.tuple #[.int .i64 x, .iface t p])) ∧ Below w.heap.size w w' := by
  obtain ⟨_, ev, h2, h3⟩ := hE
  refine (Tryz.strconv_ParseInt_10_at64_range s (by omega) h ev w h2 h3).mono ?_
  rintro e w' ⟨N, rfl, _, _, hb⟩
  exact ⟨⟨_, _, _, rfl⟩, hb⟩
theorem jw9 (p : UInt8 → Bool) (s : ByteArray) (h : 0 < s.size) (hp : p s[0] = true) : qb8 p s.data.toList = qb8 p (s.data.toList.drop 1) + 1 := by
  have := qi4 p s.data.toList 0 (by rw [qa9]; exact h) hp
  rwa [List.drop_zero] at this
set_option maxHeartbeats 400000 in
theorem ju8 (s : ByteArray) (h0 : 0 < s.size) (hs : s.size ≤ 140737488355328) (hd : qx9 s[0] = true) (w : World) (hE : ErrOk w) :
    Calls Tryz.prog 178 #[.string s] w fun e w' => e = .returned (.tuple #[tkV (vu1 s.data.toList) 0, .int .i64 (qb8 qx9 s.data.toList)]) ∧ Below w.heap.size w w' := by
  have hl := qa9 s
  have hp := jw9 qx9 s h0 hd
  have hle := vb5 qx9 s.data.toList
  have hdg := digs_of s.data.toList
  have HD : Hid (qx9 s[0] = true) := hd
  clear hd
  obtain ⟨z, hz⟩ : ∃ z, qb8 qx9 s.data.toList = z := ⟨_, rfl⟩
  have hz1 : 1 ≤ z := by omega
  have hzl : z ≤ s.size := by omega
  have hxx : (s.extract 0 z).data.toList = s.data.toList.take z := by rw [Lib.extract_data]; simp
  have hpi := vf6 (s.data.toList.take z) (by intro h; have := congrArg List.length h; rw [List.length_take, List.length_nil] at this; omega) (by rw [← hz]; exact hdg)
  have HK : Hid (vu1 s.data.toList = if qm2 0 (s.data.toList.take z) ≤ 9223372036854775807 then ⟨3, qm2 0 (s.data.toList.take z), []⟩ else qd5 1) := by rw [← hz]; exact v6 rfl
  rw [hz] at hp ⊢
  have HP := v6 hp
  have HX := v6 hxx
  have HI := v6 hpi
  have hEa := fun o => hE.alloc o
  have HE := v6 hEa
  clear hdg hle hz hp hxx hpi hE hEa
  obtain ⟨v, hv⟩ : ∃ v, qm2 0 (s.data.toList.take z) = v := ⟨_, rfl⟩
  rw [hv] at HK HI
  have HV := v6 hv
  clear hv
  go_enter Tryz.func178, Tryz.ntmps178
  go_wp2_with fail
  go_loop [4] (fun i => ∃ k : Nat, 1 ≤ k ∧ k ≤ s.size ∧ i = .int .i64 k ∧ Hid (z = qb8 qx9 (s.data.toList.drop k) + k)) (fun i => s.size - (intOf i).toNat)
  case atStart => exact ⟨1, Nat.le_refl _, by omega, rfl, HP⟩
  case round =>
    obtain ⟨k, hk1, hk, rfl, hr⟩ := hrel
    have more : ∀ hlt : k < s.size, qx9 s[k] = true → Hid (z = qb8 qx9 (s.data.toList.drop (k + 1)) + (k + 1)) := fun hlt hg => v6 (by
      have := qi4 qx9 s.data.toList k (by omega) hg; rw [q9 hr, this]; omega)
    have done1 : ∀ hlt : k < s.size, qx9 s[k] = false → z = k := fun hlt hg => by
      have := qn6 qx9 s.data.toList k (by omega) hg; rw [q9 hr, this]; omega
    have done2 : ¬ k < s.size → z = k := fun hlt => by
      have := qq6 qx9 s.data.toList k (by omega); rw [q9 hr, this]; omega
    clear hr
    by_cases hgo : ∃ hlt : k < s.size, qx9 s[k] = true
    · obtain ⟨hlt, hg⟩ := hgo
      have HR := more hlt hg
      have Hg := v6 hg
      clear more done1 done2 hg
      go_wp2_with (go_at_call 177; refine (qi6 _ _).mono ?_; rintro e w' ⟨rfl, rfl⟩; rw [show jy9 (s[k].toNat : Int) = true from q9 Hg])
      go_round
      case rel => exact ⟨k + 1, by omega, by omega, by go_num, HR⟩
      case measure => simp [intOf]; omega
    · have hzk : z = k := by
        by_cases hlt : k < s.size
        · exact done1 hlt (by cases hg : qx9 s[k] with | false => rfl | true => exact absurd ⟨hlt, hg⟩ hgo)
        · exact done2 hlt
      have Hg : Hid (∀ hlt : k < s.size, qx9 s[k] = false) := v6 fun hlt => by cases hg : qx9 s[k] with | false => rfl | true => exact absurd ⟨hlt, hg⟩ hgo
      clear more done1 done2 hgo
      subst hzk
      by_cases hv : v ≤ 9223372036854775807
      · rw [if_pos hv] at HK HI
        have HVV := v6 hv
        clear hv
        by_cases hlt : z < s.size
        all_goals
          go_wp2_with (first | (go_at_call 177; refine (qi6 _ _).mono ?_; rintro e w' ⟨rfl, rfl⟩; rw [show jy9 (s[z].toNat : Int) = false from q9 Hg hlt]) | (go_at_call 212; refine (parse_ok _ (by simp; omega) v (by rw [q9 HX]; exact q9 HI) _).mono ?_; rintro e w' ⟨rfl, hb⟩; obtain ⟨hc, hf⟩ := j5 hb; have hz := hb.size))
          refine bodyPost_ret (by simp [results, Tryz.results178, go_sem, hc]; rfl) rfl ⟨?_, ?_⟩
          all_goals go_light
          · exact qu6 (by rw [q9 HK]) (by rw [q9 HK]) (by rw [q9 HK]; rfl) rfl
          · exact ((((qc1 hb).setCell (by simp) _).setCell (by simp) _).setCell (by simp) _).setCell (by simp) _
      · rw [if_neg hv] at HK HI
        clear hv
        by_cases hlt : z < s.size
        all_goals
          go_wp2_with (first | (go_at_call 177; refine (qi6 _ _).mono ?_; rintro e w' ⟨rfl, rfl⟩; rw [show jy9 (s[z].toNat : Int) = false from q9 Hg hlt]) | (go_at_call 212; refine (jh4 _ (by simp; omega) (by rw [q9 HX]; exact q9 HI) _ (q9 HE _)).mono ?_; rintro e w' ⟨⟨x, t, p, rfl⟩, hb⟩; obtain ⟨hc, hf⟩ := j5 hb; have hz := hb.size))
          refine bodyPost_ret (by simp [results, Tryz.results178, go_sem, hc]; rfl) rfl ⟨?_, ?_⟩
          all_goals go_light
          · exact qu6 (by rw [q9 HK]; rfl) (by rw [q9 HK]; rfl) (by rw [q9 HK]; rfl) rfl
          · exact ((((qc1 hb).setCell (by simp) _).setCell (by simp) _).setCell (by simp) _).setCell (by simp) _
end
end Go.Proofs.YtfkcaldjphakpabGreatDoor
