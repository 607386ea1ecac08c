/- Likes. Likes. -/
import Derived.Test.YtfkcaldjphakpaaGreatDoorLiA
namespace Go.Proofs.YtfkcaldjphakpaaGreatDoor
open Go.RowKit

section
set_option maxHeartbeats 4000000 in
set_option maxRecDepth 100000 in
theorem likes_cn (s T : ByteArray) (hs : s.size ≤ maxLen) (ht : T.size ≤ maxLen) (hcs : 20 < s.size) (hct : ¬ 20 < T.size) (w : World) (hE : ErrOk w) :
    Calls Tryz.prog 6 #[.string s, .string T] w fun e w' => e = .returned (.bool true) ∧ Below w.heap.size w w' := by
  have HE := hide hE
  clear hE
  unfold maxLen at hs ht
  go_enter Tryz.func6, Tryz.ntmps6
  go_wp2_with fail
  have zs0 : (s.extract 0 20).size = 20 := by simp; omega
  generalize s.extract 0 20 = S at zs0 ⊢
  have zS : S.size ≤ 20 := by omega
  have zT : T.size ≤ 20 := by omega
  clear hcs hct hs ht zs0
  have lT := data_len T
  go_loop [5, 6, 7] (fun p sm i => ∃ k : Nat, k ≤ T.size ∧ i = .int .i64 k ∧ p = .string (BS (escL (T.data.toList.take k))) ∧ sm = .string (BS (List.replicate k 95))) (fun _ _ i => T.size - (intOf i).toNat)
  case atStart => exact ⟨0, Nat.zero_le _, rfl, rfl, rfl⟩
  case round =>
    obtain ⟨k, hk, rfl, rfl, rfl⟩ := hrel
    by_cases hlt : k < T.size
    · obtain ⟨P, hP⟩ : ∃ P, BS (escL (T.data.toList.take k)) = P := ⟨_, rfl⟩
      obtain ⟨M, hM⟩ : ∃ M, BS (List.replicate k 95) = M := ⟨_, rfl⟩
      have hz := escL_len (T.data.toList.take k)
      rw [List.length_take, lT] at hz
      have zP : P.size ≤ 40 := by rw [← hP, BS_size]; omega
      have zM : M.size ≤ 20 := by rw [← hM, BS_size, List.length_replicate]; omega
      have hX := extract_one T k hlt
      have zX : (T.extract k (k + 1)).size ≤ 1 := by rw [hX, BS_size]; exact Nat.le_refl _
      have hT := take_one T k hlt
      obtain ⟨M2, eM2, zM2, aM2⟩ := add_run M ⟨#[95]⟩ 20 1 zM (Nat.le_refl _) (by decide)
      have HM : Hid (M2 = BS (List.replicate (k + 1) 95)) := hide (by rw [eM2, ← hM, show (⟨#[95]⟩ : ByteArray) = BS [95] from rfl, BS_add, List.replicate_succ'])
      obtain ⟨P2, eP2, zP2, aP2⟩ := add_run P ⟨#[33]⟩ 40 1 zP (Nat.le_refl _) (by decide)
      obtain ⟨P3, eP3, zP3, aP3⟩ := add_run P2 (T.extract k (k + 1)) 41 1 zP2 zX (by decide)
      obtain ⟨P4, eP4, zP4, aP4⟩ := add_run P (T.extract k (k + 1)) 40 1 zP zX (by decide)
      have H3 : Hid (escB T[k] = true → P3 = BS (escL (T.data.toList.take (k + 1)))) := hide (fun h => by
        rw [eP3, eP2, ← hP, hX, show (⟨#[33]⟩ : ByteArray) = BS [33] from rfl, BS_add, BS_add, hT, escL_snoc, if_pos h, List.append_assoc]
        rfl)
      have H4 : Hid (escB T[k] = false → P4 = BS (escL (T.data.toList.take (k + 1)))) := hide (fun h => by
        rw [eP4, ← hP, hX, BS_add, hT, escL_snoc, if_neg (by rw [h]; decide)])
      rw [hP, hM]
      clear hP hM hz zP zM hX zX hT eM2 zM2 eP2 zP2 eP3 zP3 eP4 zP4
      cases h1 : (T[k] == 37)
      · cases h2 : (T[k] == 95)
        · cases h3 : (T[k] == 33)
          · have g1 : ((T[k].toNat : Int) == 37) = false := by rw [show (37 : Int) = ((37 : UInt8).toNat : Int) from rfl, u8_beq]; exact h1
            have g2 : ((T[k].toNat : Int) == 95) = false := by rw [show (95 : Int) = ((95 : UInt8).toNat : Int) from rfl, u8_beq]; exact h2
            have g3 : ((T[k].toNat : Int) == 33) = false := by rw [show (33 : Int) = ((33 : UInt8).toNat : Int) from rfl, u8_beq]; exact h3
            have HP := hide (unhide H4 (by unfold escB; rw [h1, h2, h3]; rfl))
            clear H3 H4 h1 h2 h3
            go_wp2_with fail
            go_round
            case rel => exact ⟨k + 1, by omega, by go_num, by rw [unhide HP], by rw [unhide HM]⟩
            case measure => simp [intOf]; omega
          · have g1 : ((T[k].toNat : Int) == 37) = false := by rw [show (37 : Int) = ((37 : UInt8).toNat : Int) from rfl, u8_beq]; exact h1
            have g2 : ((T[k].toNat : Int) == 95) = false := by rw [show (95 : Int) = ((95 : UInt8).toNat : Int) from rfl, u8_beq]; exact h2
            have g3 : ((T[k].toNat : Int) == 33) = true := by rw [show (33 : Int) = ((33 : UInt8).toNat : Int) from rfl, u8_beq]; exact h3
            have HP := hide (unhide H3 (by unfold escB; rw [h1, h2, h3]; rfl))
            clear H3 H4 h1 h2 h3
            go_wp2_with fail
            go_round
            case rel => exact ⟨k + 1, by omega, by go_num, by rw [unhide HP], by rw [unhide HM]⟩
            case measure => simp [intOf]; omega
        · have g1 : ((T[k].toNat : Int) == 37) = false := by rw [show (37 : Int) = ((37 : UInt8).toNat : Int) from rfl, u8_beq]; exact h1
          have g2 : ((T[k].toNat : Int) == 95) = true := by rw [show (95 : Int) = ((95 : UInt8).toNat : Int) from rfl, u8_beq]; exact h2
          have HP := hide (unhide H3 (by unfold escB; rw [h1, h2]; rfl))
          clear H3 H4 h1 h2
          go_wp2_with fail
          go_round
          case rel => exact ⟨k + 1, by omega, by go_num, by rw [unhide HP], by rw [unhide HM]⟩
          case measure => simp [intOf]; omega
      · have g1 : ((T[k].toNat : Int) == 37) = true := by rw [show (37 : Int) = ((37 : UInt8).toNat : Int) from rfl, u8_beq]; exact h1
        have HP := hide (unhide H3 (by unfold escB; rw [h1]; rfl))
        clear H3 H4 h1
        go_wp2_with fail
        go_round
        case rel => exact ⟨k + 1, by omega, by go_num, by rw [unhide HP], by rw [unhide HM]⟩
        case measure => simp [intOf]; omega
    · obtain rfl : k = T.size := by omega
      obtain ⟨P, hP⟩ : ∃ P, BS (escL (T.data.toList.take T.size)) = P := ⟨_, rfl⟩
      obtain ⟨M, hM⟩ : ∃ M, BS (List.replicate T.size 95) = M := ⟨_, rfl⟩
      rw [hP, hM]
      have HP0 : Hid (P = BS (escL T.data.toList)) := hide (by rw [← hP, List.take_of_length_le (by rw [lT]; exact Nat.le_refl _)])
      have HM0 : Hid (M = BS (List.replicate T.size 95)) := hide hM.symm
      clear hP hM
      go_wp2_with fail
      go_loop [8, 9] (fun wi i => ∃ k : Nat, k ≤ S.size + 1 ∧ i = .int .i64 k ∧ wi = .bool (anyAt S.data.toList T.data.toList k)) (fun _ i => S.size + 1 - (intOf i).toNat)
      case atStart => exact ⟨0, Nat.zero_le _, rfl, rfl⟩
      case round =>
        obtain ⟨k, hk, rfl, rfl⟩ := hrel
        by_cases hlt : k < S.size + 1
        · have HA := hide (anyAt_succ S.data.toList T.data.toList k)
          obtain ⟨b1, hb1⟩ : ∃ b, anyAt S.data.toList T.data.toList k = b := ⟨_, rfl⟩
          obtain ⟨b2, hb2⟩ : ∃ b, standsAt S.data.toList T.data.toList k = b := ⟨_, rfl⟩
          rw [hb1, hb2] at HA
          rw [hb1]
          have HB2 := hide hb2
          clear hb1 hb2
          cases b1 <;> cases b2
          all_goals
            go_wp2_with (go_at_call 20; refine (starts_any S T k zS zT (by omega) _).mono ?_; rintro e sw ⟨rfl, rfl⟩; rw [unhide HB2])
            go_round
            case rel => exact ⟨k + 1, by omega, by go_num, by rw [unhide HA]; rfl⟩
            case measure => simp [intOf]; omega
        · obtain rfl : k = S.size + 1 := by omega
          obtain ⟨IN, hIN⟩ : ∃ b, anyAt S.data.toList T.data.toList (S.size + 1) = b := ⟨_, rfl⟩
          rw [hIN]
          have HIN := hide hIN
          clear hIN
          have hE := unhide HE
          have zE := escL_len T.data.toList
          rw [lT] at zE
          have zP : P.size ≤ 40 := by rw [unhide HP0, BS_size]; omega
          obtain ⟨P1, p1, y1, b1⟩ := add_run P ⟨#[37]⟩ 40 1 zP (Nat.le_refl _) (by decide)
          obtain ⟨P2, p2, y2, b2⟩ := add_run ⟨#[37]⟩ P 1 40 (Nat.le_refl _) zP (by decide)
          obtain ⟨P3, p3, y3, b3⟩ := add_run P2 ⟨#[37]⟩ 41 1 y2 (Nat.le_refl _) (by decide)
          have r1 : P1 = BS (escL T.data.toList ++ [37]) := by rw [p1, unhide HP0, show (⟨#[37]⟩ : ByteArray) = BS [37] from rfl, BS_add]
          have r3 : P3 = BS (37 :: (escL T.data.toList ++ [37])) := by
            rw [p3, p2, unhide HP0, show (⟨#[37]⟩ : ByteArray) = BS [37] from rfl, BS_add, BS_add]
            rfl
          obtain ⟨K1, k1, Q1⟩ := quoted_of P (escL T.data.toList) (unhide HP0) (by omega)
          obtain ⟨K2, k2, Q2⟩ := quoted_of P1 (escL T.data.toList ++ [37]) r1 (by simp; omega)
          obtain ⟨K3, k3, Q3⟩ := quoted_of P3 (37 :: (escL T.data.toList ++ [37])) r3 (by simp; omega)
          obtain ⟨K4, k4, Q4⟩ := quoted_of M (List.replicate T.size 95) (unhide HM0) (by simp; omega)
          obtain ⟨K5, k5, Q5⟩ := quoted_of T T.data.toList (BS_self T).symm (by omega)
          obtain ⟨A1, A2, a11, a12, IS1⟩ := text_like w hE S zS (escL T.data.toList) (by omega) (cut_esc _) K1 k1 (S.toList == T.toList) (by rw [fits_same, eqS])
          obtain ⟨B1, B2, a21, a22, IS2⟩ := text_like w hE S zS (escL T.data.toList ++ [37]) (by simp; omega) (cut_esc2 _) K2 k2 (standsAt S.data.toList T.data.toList 0) (fits_begins _ _)
          obtain ⟨C1, C2, a31, a32, IS3⟩ := text_not w hE S zS (37 :: (escL T.data.toList ++ [37])) (by simp; omega) (cut_esc3 _) K3 k3 (!IN) (by rw [anyAt_fits, data_len, unhide HIN])
          obtain ⟨D1, a41, IS4⟩ := text_plain w hE S zS (List.replicate T.size 95) (by simp; omega) K4 k4 ((S.size : Int) == (T.size : Int)) (by rw [fits_ones, eqZ])
          obtain ⟨E1, E2, a51, a52, IS5⟩ := text_in w hE S zS T.data.toList (by omega) K5 k5 (S.toList == T.toList) (eqS S T).symm
          have hB : Hid (Below (w.heap.size + 1) (eventedN w S) (eventedN w S)) := hide (Below.refl _ _)
          have BE : Hid (∀ w', Below (w.heap.size + 1) (eventedN w S) w' → Below w.heap.size w w') := hide (fun w' h => ((Below.refl w.heap.size w).alloc (Nat.le_refl _) _).trans (h.mono (by omega)))
          have hz0 : (eventedN w S).heap.size = w.heap.size + 1 := by simp [eventedN]
          clear HE hE zE zP p1 y1 p2 y2 p3 y3 r1 r3 k1 k2 k3 k4 k5 HP0 HM0 HIN lT hk
          go_wp2_with (first | (go_at_call_of 21 (Value.string P); refine (unhide Q1 _).mono ?_; rintro e qw1 ⟨rfl, hqw⟩; subst qw1) | (go_at_call_of 21 (Value.string P1); refine (unhide Q2 _).mono ?_; rintro e qw2 ⟨rfl, hqw⟩; subst qw2) | (go_at_call_of 21 (Value.string P3); refine (unhide Q3 _).mono ?_; rintro e qw3 ⟨rfl, hqw⟩; subst qw3) | (go_at_call_of 21 (Value.string M); refine (unhide Q4 _).mono ?_; rintro e qw4 ⟨rfl, hqw⟩; subst qw4) | (go_at_call_of 21 (Value.string T); refine (unhide Q5 _).mono ?_; rintro e qw5 ⟨rfl, hqw⟩; subst qw5) | (go_at_call 18; refine (truth_any _ _).mono ?_; rintro e tw ⟨rfl, hbi⟩; have hzt := hbi.size; (try simp at hzt); have hB := hide (Below.trans (show Below (w.heap.size + 1) (eventedN w S) _ from (by first | exact unhide hB | exact (unhide hB).alloc (by first | omega | (simp <;> omega)) _ | exact (((unhide hB).setCell (by first | omega | (simp <;> omega)) _).setCell (by first | omega | (simp <;> omega)) _).setCell (by first | omega | (simp <;> omega)) _ | exact ((((unhide hB).setCell (by first | omega | (simp <;> omega)) _).setCell (by first | omega | (simp <;> omega)) _).setCell (by first | omega | (simp <;> omega)) _).alloc (by first | omega | (simp <;> omega)) _)) (hbi.mono (by first | omega | (simp <;> omega)))); clear hbi) | (go_at_call_of 17 (Value.string A2); refine (unhide IS1 _ (by first | exact unhide hB | exact (unhide hB).alloc (by first | omega | (simp <;> omega)) _ | exact (((unhide hB).setCell (by first | omega | (simp <;> omega)) _).setCell (by first | omega | (simp <;> omega)) _).setCell (by first | omega | (simp <;> omega)) _ | exact ((((unhide hB).setCell (by first | omega | (simp <;> omega)) _).setCell (by first | omega | (simp <;> omega)) _).setCell (by first | omega | (simp <;> omega)) _).alloc (by first | omega | (simp <;> omega)) _)).mono ?_; rintro e iw1 ⟨rfl, hbi⟩; have hzi1 := hbi.size; (try simp at hzi1); have hB := hide (Below.trans (show Below (w.heap.size + 1) (eventedN w S) _ from (by first | exact unhide hB | exact (unhide hB).alloc (by first | omega | (simp <;> omega)) _ | exact (((unhide hB).setCell (by first | omega | (simp <;> omega)) _).setCell (by first | omega | (simp <;> omega)) _).setCell (by first | omega | (simp <;> omega)) _ | exact ((((unhide hB).setCell (by first | omega | (simp <;> omega)) _).setCell (by first | omega | (simp <;> omega)) _).setCell (by first | omega | (simp <;> omega)) _).alloc (by first | omega | (simp <;> omega)) _)) (hbi.mono (by first | omega | (simp <;> omega)))); clear hbi) | (go_at_call_of 17 (Value.string B2); refine (unhide IS2 _ (by first | exact unhide hB | exact (unhide hB).alloc (by first | omega | (simp <;> omega)) _ | exact (((unhide hB).setCell (by first | omega | (simp <;> omega)) _).setCell (by first | omega | (simp <;> omega)) _).setCell (by first | omega | (simp <;> omega)) _ | exact ((((unhide hB).setCell (by first | omega | (simp <;> omega)) _).setCell (by first | omega | (simp <;> omega)) _).setCell (by first | omega | (simp <;> omega)) _).alloc (by first | omega | (simp <;> omega)) _)).mono ?_; rintro e iw2 ⟨rfl, hbi⟩; have hzi2 := hbi.size; (try simp at hzi2); have hB := hide (Below.trans (show Below (w.heap.size + 1) (eventedN w S) _ from (by first | exact unhide hB | exact (unhide hB).alloc (by first | omega | (simp <;> omega)) _ | exact (((unhide hB).setCell (by first | omega | (simp <;> omega)) _).setCell (by first | omega | (simp <;> omega)) _).setCell (by first | omega | (simp <;> omega)) _ | exact ((((unhide hB).setCell (by first | omega | (simp <;> omega)) _).setCell (by first | omega | (simp <;> omega)) _).setCell (by first | omega | (simp <;> omega)) _).alloc (by first | omega | (simp <;> omega)) _)) (hbi.mono (by first | omega | (simp <;> omega)))); clear hbi) | (go_at_call_of 17 (Value.string C2); refine (unhide IS3 _ (by first | exact unhide hB | exact (unhide hB).alloc (by first | omega | (simp <;> omega)) _ | exact (((unhide hB).setCell (by first | omega | (simp <;> omega)) _).setCell (by first | omega | (simp <;> omega)) _).setCell (by first | omega | (simp <;> omega)) _ | exact ((((unhide hB).setCell (by first | omega | (simp <;> omega)) _).setCell (by first | omega | (simp <;> omega)) _).setCell (by first | omega | (simp <;> omega)) _).alloc (by first | omega | (simp <;> omega)) _)).mono ?_; rintro e iw3 ⟨rfl, hbi⟩; have hzi3 := hbi.size; (try simp at hzi3); have hB := hide (Below.trans (show Below (w.heap.size + 1) (eventedN w S) _ from (by first | exact unhide hB | exact (unhide hB).alloc (by first | omega | (simp <;> omega)) _ | exact (((unhide hB).setCell (by first | omega | (simp <;> omega)) _).setCell (by first | omega | (simp <;> omega)) _).setCell (by first | omega | (simp <;> omega)) _ | exact ((((unhide hB).setCell (by first | omega | (simp <;> omega)) _).setCell (by first | omega | (simp <;> omega)) _).setCell (by first | omega | (simp <;> omega)) _).alloc (by first | omega | (simp <;> omega)) _)) (hbi.mono (by first | omega | (simp <;> omega)))); clear hbi) | (go_at_call_of 17 (Value.string D1); refine (unhide IS4 _ (by first | exact unhide hB | exact (unhide hB).alloc (by first | omega | (simp <;> omega)) _ | exact (((unhide hB).setCell (by first | omega | (simp <;> omega)) _).setCell (by first | omega | (simp <;> omega)) _).setCell (by first | omega | (simp <;> omega)) _ | exact ((((unhide hB).setCell (by first | omega | (simp <;> omega)) _).setCell (by first | omega | (simp <;> omega)) _).setCell (by first | omega | (simp <;> omega)) _).alloc (by first | omega | (simp <;> omega)) _)).mono ?_; rintro e iw4 ⟨rfl, hbi⟩; have hzi4 := hbi.size; (try simp at hzi4); have hB := hide (Below.trans (show Below (w.heap.size + 1) (eventedN w S) _ from (by first | exact unhide hB | exact (unhide hB).alloc (by first | omega | (simp <;> omega)) _ | exact (((unhide hB).setCell (by first | omega | (simp <;> omega)) _).setCell (by first | omega | (simp <;> omega)) _).setCell (by first | omega | (simp <;> omega)) _ | exact ((((unhide hB).setCell (by first | omega | (simp <;> omega)) _).setCell (by first | omega | (simp <;> omega)) _).setCell (by first | omega | (simp <;> omega)) _).alloc (by first | omega | (simp <;> omega)) _)) (hbi.mono (by first | omega | (simp <;> omega)))); clear hbi) | (go_at_call_of 17 (Value.string E2); refine (unhide IS5 _ (by first | exact unhide hB | exact (unhide hB).alloc (by first | omega | (simp <;> omega)) _ | exact (((unhide hB).setCell (by first | omega | (simp <;> omega)) _).setCell (by first | omega | (simp <;> omega)) _).setCell (by first | omega | (simp <;> omega)) _ | exact ((((unhide hB).setCell (by first | omega | (simp <;> omega)) _).setCell (by first | omega | (simp <;> omega)) _).setCell (by first | omega | (simp <;> omega)) _).alloc (by first | omega | (simp <;> omega)) _)).mono ?_; rintro e iw5 ⟨rfl, hbi⟩; have hzi5 := hbi.size; (try simp at hzi5); have hB := hide (Below.trans (show Below (w.heap.size + 1) (eventedN w S) _ from (by first | exact unhide hB | exact (unhide hB).alloc (by first | omega | (simp <;> omega)) _ | exact (((unhide hB).setCell (by first | omega | (simp <;> omega)) _).setCell (by first | omega | (simp <;> omega)) _).setCell (by first | omega | (simp <;> omega)) _ | exact ((((unhide hB).setCell (by first | omega | (simp <;> omega)) _).setCell (by first | omega | (simp <;> omega)) _).setCell (by first | omega | (simp <;> omega)) _).alloc (by first | omega | (simp <;> omega)) _)) (hbi.mono (by first | omega | (simp <;> omega)))); clear hbi) | (go_at_call 20; refine (starts_any S T 0 zS zT (by omega) _).mono ?_; rintro e sw ⟨rfl, hsw⟩; subst sw))
          go_ret
          exact ⟨rfl, unhide BE _ (unhide hB)⟩
end

section
set_option maxHeartbeats 4000000 in
set_option maxRecDepth 100000 in
theorem likes_cc (s t : ByteArray) (hs : s.size ≤ maxLen) (ht : t.size ≤ maxLen) (hcs : 20 < s.size) (hct : 20 < t.size) (w : World) (hE : ErrOk w) :
    Calls Tryz.prog 6 #[.string s, .string t] w fun e w' => e = .returned (.bool true) ∧ Below w.heap.size w w' := by
  have HE := hide hE
  clear hE
  unfold maxLen at hs ht
  go_enter Tryz.func6, Tryz.ntmps6
  go_wp2_with fail
  have zs0 : (s.extract 0 20).size = 20 := by simp; omega
  generalize s.extract 0 20 = S at zs0 ⊢
  have zS : S.size ≤ 20 := by omega
  have zt0 : (t.extract 0 20).size = 20 := by simp; omega
  generalize t.extract 0 20 = T at zt0 ⊢
  have zT : T.size ≤ 20 := by omega
  clear hcs hct hs ht zs0 zt0
  have lT := data_len T
  go_loop [5, 6, 7] (fun p sm i => ∃ k : Nat, k ≤ T.size ∧ i = .int .i64 k ∧ p = .string (BS (escL (T.data.toList.take k))) ∧ sm = .string (BS (List.replicate k 95))) (fun _ _ i => T.size - (intOf i).toNat)
  case atStart => exact ⟨0, Nat.zero_le _, rfl, rfl, rfl⟩
  case round =>
    obtain ⟨k, hk, rfl, rfl, rfl⟩ := hrel
    by_cases hlt : k < T.size
    · obtain ⟨P, hP⟩ : ∃ P, BS (escL (T.data.toList.take k)) = P := ⟨_, rfl⟩
      obtain ⟨M, hM⟩ : ∃ M, BS (List.replicate k 95) = M := ⟨_, rfl⟩
      have hz := escL_len (T.data.toList.take k)
      rw [List.length_take, lT] at hz
      have zP : P.size ≤ 40 := by rw [← hP, BS_size]; omega
      have zM : M.size ≤ 20 := by rw [← hM, BS_size, List.length_replicate]; omega
      have hX := extract_one T k hlt
      have zX : (T.extract k (k + 1)).size ≤ 1 := by rw [hX, BS_size]; exact Nat.le_refl _
      have hT := take_one T k hlt
      obtain ⟨M2, eM2, zM2, aM2⟩ := add_run M ⟨#[95]⟩ 20 1 zM (Nat.le_refl _) (by decide)
      have HM : Hid (M2 = BS (List.replicate (k + 1) 95)) := hide (by rw [eM2, ← hM, show (⟨#[95]⟩ : ByteArray) = BS [95] from rfl, BS_add, List.replicate_succ'])
      obtain ⟨P2, eP2, zP2, aP2⟩ := add_run P ⟨#[33]⟩ 40 1 zP (Nat.le_refl _) (by decide)
      obtain ⟨P3, eP3, zP3, aP3⟩ := add_run P2 (T.extract k (k + 1)) 41 1 zP2 zX (by decide)
      obtain ⟨P4, eP4, zP4, aP4⟩ := add_run P (T.extract k (k + 1)) 40 1 zP zX (by decide)
      have H3 : Hid (escB T[k] = true → P3 = BS (escL (T.data.toList.take (k + 1)))) := hide (fun h => by
        rw [eP3, eP2, ← hP, hX, show (⟨#[33]⟩ : ByteArray) = BS [33] from rfl, BS_add, BS_add, hT, escL_snoc, if_pos h, List.append_assoc]
        rfl)
      have H4 : Hid (escB T[k] = false → P4 = BS (escL (T.data.toList.take (k + 1)))) := hide (fun h => by
        rw [eP4, ← hP, hX, BS_add, hT, escL_snoc, if_neg (by rw [h]; decide)])
      rw [hP, hM]
      clear hP hM hz zP zM hX zX hT eM2 zM2 eP2 zP2 eP3 zP3 eP4 zP4
      cases h1 : (T[k] == 37)
      · cases h2 : (T[k] == 95)
        · cases h3 : (T[k] == 33)
          · have g1 : ((T[k].toNat : Int) == 37) = false := by rw [show (37 : Int) = ((37 : UInt8).toNat : Int) from rfl, u8_beq]; exact h1
            have g2 : ((T[k].toNat : Int) == 95) = false := by rw [show (95 : Int) = ((95 : UInt8).toNat : Int) from rfl, u8_beq]; exact h2
            have g3 : ((T[k].toNat : Int) == 33) = false := by rw [show (33 : Int) = ((33 : UInt8).toNat : Int) from rfl, u8_beq]; exact h3
            have HP := hide (unhide H4 (by unfold escB; rw [h1, h2, h3]; rfl))
            clear H3 H4 h1 h2 h3
            go_wp2_with fail
            go_round
            case rel => exact ⟨k + 1, by omega, by go_num, by rw [unhide HP], by rw [unhide HM]⟩
            case measure => simp [intOf]; omega
          · have g1 : ((T[k].toNat : Int) == 37) = false := by rw [show (37 : Int) = ((37 : UInt8).toNat : Int) from rfl, u8_beq]; exact h1
            have g2 : ((T[k].toNat : Int) == 95) = false := by rw [show (95 : Int) = ((95 : UInt8).toNat : Int) from rfl, u8_beq]; exact h2
            have g3 : ((T[k].toNat : Int) == 33) = true := by rw [show (33 : Int) = ((33 : UInt8).toNat : Int) from rfl, u8_beq]; exact h3
            have HP := hide (unhide H3 (by unfold escB; rw [h1, h2, h3]; rfl))
            clear H3 H4 h1 h2 h3
            go_wp2_with fail
            go_round
            case rel => exact ⟨k + 1, by omega, by go_num, by rw [unhide HP], by rw [unhide HM]⟩
            case measure => simp [intOf]; omega
        · have g1 : ((T[k].toNat : Int) == 37) = false := by rw [show (37 : Int) = ((37 : UInt8).toNat : Int) from rfl, u8_beq]; exact h1
          have g2 : ((T[k].toNat : Int) == 95) = true := by rw [show (95 : Int) = ((95 : UInt8).toNat : Int) from rfl, u8_beq]; exact h2
          have HP := hide (unhide H3 (by unfold escB; rw [h1, h2]; rfl))
          clear H3 H4 h1 h2
          go_wp2_with fail
          go_round
          case rel => exact ⟨k + 1, by omega, by go_num, by rw [unhide HP], by rw [unhide HM]⟩
          case measure => simp [intOf]; omega
      · have g1 : ((T[k].toNat : Int) == 37) = true := by rw [show (37 : Int) = ((37 : UInt8).toNat : Int) from rfl, u8_beq]; exact h1
        have HP := hide (unhide H3 (by unfold escB; rw [h1]; rfl))
        clear H3 H4 h1
        go_wp2_with fail
        go_round
        case rel => exact ⟨k + 1, by omega, by go_num, by rw [unhide HP], by rw [unhide HM]⟩
        case measure => simp [intOf]; omega
    · obtain rfl : k = T.size := by omega
      obtain ⟨P, hP⟩ : ∃ P, BS (escL (T.data.toList.take T.size)) = P := ⟨_, rfl⟩
      obtain ⟨M, hM⟩ : ∃ M, BS (List.replicate T.size 95) = M := ⟨_, rfl⟩
      rw [hP, hM]
      have HP0 : Hid (P = BS (escL T.data.toList)) := hide (by rw [← hP, List.take_of_length_le (by rw [lT]; exact Nat.le_refl _)])
      have HM0 : Hid (M = BS (List.replicate T.size 95)) := hide hM.symm
      clear hP hM
      go_wp2_with fail
      go_loop [8, 9] (fun wi i => ∃ k : Nat, k ≤ S.size + 1 ∧ i = .int .i64 k ∧ wi = .bool (anyAt S.data.toList T.data.toList k)) (fun _ i => S.size + 1 - (intOf i).toNat)
      case atStart => exact ⟨0, Nat.zero_le _, rfl, rfl⟩
      case round =>
        obtain ⟨k, hk, rfl, rfl⟩ := hrel
        by_cases hlt : k < S.size + 1
        · have HA := hide (anyAt_succ S.data.toList T.data.toList k)
          obtain ⟨b1, hb1⟩ : ∃ b, anyAt S.data.toList T.data.toList k = b := ⟨_, rfl⟩
          obtain ⟨b2, hb2⟩ : ∃ b, standsAt S.data.toList T.data.toList k = b := ⟨_, rfl⟩
          rw [hb1, hb2] at HA
          rw [hb1]
          have HB2 := hide hb2
          clear hb1 hb2
          cases b1 <;> cases b2
          all_goals
            go_wp2_with (go_at_call 20; refine (starts_any S T k zS zT (by omega) _).mono ?_; rintro e sw ⟨rfl, rfl⟩; rw [unhide HB2])
            go_round
            case rel => exact ⟨k + 1, by omega, by go_num, by rw [unhide HA]; rfl⟩
            case measure => simp [intOf]; omega
        · obtain rfl : k = S.size + 1 := by omega
          obtain ⟨IN, hIN⟩ : ∃ b, anyAt S.data.toList T.data.toList (S.size + 1) = b := ⟨_, rfl⟩
          rw [hIN]
          have HIN := hide hIN
          clear hIN
          have hE := unhide HE
          have zE := escL_len T.data.toList
          rw [lT] at zE
          have zP : P.size ≤ 40 := by rw [unhide HP0, BS_size]; omega
          obtain ⟨P1, p1, y1, b1⟩ := add_run P ⟨#[37]⟩ 40 1 zP (Nat.le_refl _) (by decide)
          obtain ⟨P2, p2, y2, b2⟩ := add_run ⟨#[37]⟩ P 1 40 (Nat.le_refl _) zP (by decide)
          obtain ⟨P3, p3, y3, b3⟩ := add_run P2 ⟨#[37]⟩ 41 1 y2 (Nat.le_refl _) (by decide)
          have r1 : P1 = BS (escL T.data.toList ++ [37]) := by rw [p1, unhide HP0, show (⟨#[37]⟩ : ByteArray) = BS [37] from rfl, BS_add]
          have r3 : P3 = BS (37 :: (escL T.data.toList ++ [37])) := by
            rw [p3, p2, unhide HP0, show (⟨#[37]⟩ : ByteArray) = BS [37] from rfl, BS_add, BS_add]
            rfl
          obtain ⟨K1, k1, Q1⟩ := quoted_of P (escL T.data.toList) (unhide HP0) (by omega)
          obtain ⟨K2, k2, Q2⟩ := quoted_of P1 (escL T.data.toList ++ [37]) r1 (by simp; omega)
          obtain ⟨K3, k3, Q3⟩ := quoted_of P3 (37 :: (escL T.data.toList ++ [37])) r3 (by simp; omega)
          obtain ⟨K4, k4, Q4⟩ := quoted_of M (List.replicate T.size 95) (unhide HM0) (by simp; omega)
          obtain ⟨K5, k5, Q5⟩ := quoted_of T T.data.toList (BS_self T).symm (by omega)
          obtain ⟨A1, A2, a11, a12, IS1⟩ := text_like w hE S zS (escL T.data.toList) (by omega) (cut_esc _) K1 k1 (S.toList == T.toList) (by rw [fits_same, eqS])
          obtain ⟨B1, B2, a21, a22, IS2⟩ := text_like w hE S zS (escL T.data.toList ++ [37]) (by simp; omega) (cut_esc2 _) K2 k2 (standsAt S.data.toList T.data.toList 0) (fits_begins _ _)
          obtain ⟨C1, C2, a31, a32, IS3⟩ := text_not w hE S zS (37 :: (escL T.data.toList ++ [37])) (by simp; omega) (cut_esc3 _) K3 k3 (!IN) (by rw [anyAt_fits, data_len, unhide HIN])
          obtain ⟨D1, a41, IS4⟩ := text_plain w hE S zS (List.replicate T.size 95) (by simp; omega) K4 k4 ((S.size : Int) == (T.size : Int)) (by rw [fits_ones, eqZ])
          obtain ⟨E1, E2, a51, a52, IS5⟩ := text_in w hE S zS T.data.toList (by omega) K5 k5 (S.toList == T.toList) (eqS S T).symm
          have hB : Hid (Below (w.heap.size + 1) (eventedN w S) (eventedN w S)) := hide (Below.refl _ _)
          have BE : Hid (∀ w', Below (w.heap.size + 1) (eventedN w S) w' → Below w.heap.size w w') := hide (fun w' h => ((Below.refl w.heap.size w).alloc (Nat.le_refl _) _).trans (h.mono (by omega)))
          have hz0 : (eventedN w S).heap.size = w.heap.size + 1 := by simp [eventedN]
          clear HE hE zE zP p1 y1 p2 y2 p3 y3 r1 r3 k1 k2 k3 k4 k5 HP0 HM0 HIN lT hk
          go_wp2_with (first | (go_at_call_of 21 (Value.string P); refine (unhide Q1 _).mono ?_; rintro e qw1 ⟨rfl, hqw⟩; subst qw1) | (go_at_call_of 21 (Value.string P1); refine (unhide Q2 _).mono ?_; rintro e qw2 ⟨rfl, hqw⟩; subst qw2) | (go_at_call_of 21 (Value.string P3); refine (unhide Q3 _).mono ?_; rintro e qw3 ⟨rfl, hqw⟩; subst qw3) | (go_at_call_of 21 (Value.string M); refine (unhide Q4 _).mono ?_; rintro e qw4 ⟨rfl, hqw⟩; subst qw4) | (go_at_call_of 21 (Value.string T); refine (unhide Q5 _).mono ?_; rintro e qw5 ⟨rfl, hqw⟩; subst qw5) | (go_at_call 18; refine (truth_any _ _).mono ?_; rintro e tw ⟨rfl, hbi⟩; have hzt := hbi.size; (try simp at hzt); have hB := hide (Below.trans (show Below (w.heap.size + 1) (eventedN w S) _ from (by first | exact unhide hB | exact (unhide hB).alloc (by first | omega | (simp <;> omega)) _ | exact (((unhide hB).setCell (by first | omega | (simp <;> omega)) _).setCell (by first | omega | (simp <;> omega)) _).setCell (by first | omega | (simp <;> omega)) _ | exact ((((unhide hB).setCell (by first | omega | (simp <;> omega)) _).setCell (by first | omega | (simp <;> omega)) _).setCell (by first | omega | (simp <;> omega)) _).alloc (by first | omega | (simp <;> omega)) _)) (hbi.mono (by first | omega | (simp <;> omega)))); clear hbi) | (go_at_call_of 17 (Value.string A2); refine (unhide IS1 _ (by first | exact unhide hB | exact (unhide hB).alloc (by first | omega | (simp <;> omega)) _ | exact (((unhide hB).setCell (by first | omega | (simp <;> omega)) _).setCell (by first | omega | (simp <;> omega)) _).setCell (by first | omega | (simp <;> omega)) _ | exact ((((unhide hB).setCell (by first | omega | (simp <;> omega)) _).setCell (by first | omega | (simp <;> omega)) _).setCell (by first | omega | (simp <;> omega)) _).alloc (by first | omega | (simp <;> omega)) _)).mono ?_; rintro e iw1 ⟨rfl, hbi⟩; have hzi1 := hbi.size; (try simp at hzi1); have hB := hide (Below.trans (show Below (w.heap.size + 1) (eventedN w S) _ from (by first | exact unhide hB | exact (unhide hB).alloc (by first | omega | (simp <;> omega)) _ | exact (((unhide hB).setCell (by first | omega | (simp <;> omega)) _).setCell (by first | omega | (simp <;> omega)) _).setCell (by first | omega | (simp <;> omega)) _ | exact ((((unhide hB).setCell (by first | omega | (simp <;> omega)) _).setCell (by first | omega | (simp <;> omega)) _).setCell (by first | omega | (simp <;> omega)) _).alloc (by first | omega | (simp <;> omega)) _)) (hbi.mono (by first | omega | (simp <;> omega)))); clear hbi) | (go_at_call_of 17 (Value.string B2); refine (unhide IS2 _ (by first | exact unhide hB | exact (unhide hB).alloc (by first | omega | (simp <;> omega)) _ | exact (((unhide hB).setCell (by first | omega | (simp <;> omega)) _).setCell (by first | omega | (simp <;> omega)) _).setCell (by first | omega | (simp <;> omega)) _ | exact ((((unhide hB).setCell (by first | omega | (simp <;> omega)) _).setCell (by first | omega | (simp <;> omega)) _).setCell (by first | omega | (simp <;> omega)) _).alloc (by first | omega | (simp <;> omega)) _)).mono ?_; rintro e iw2 ⟨rfl, hbi⟩; have hzi2 := hbi.size; (try simp at hzi2); have hB := hide (Below.trans (show Below (w.heap.size + 1) (eventedN w S) _ from (by first | exact unhide hB | exact (unhide hB).alloc (by first | omega | (simp <;> omega)) _ | exact (((unhide hB).setCell (by first | omega | (simp <;> omega)) _).setCell (by first | omega | (simp <;> omega)) _).setCell (by first | omega | (simp <;> omega)) _ | exact ((((unhide hB).setCell (by first | omega | (simp <;> omega)) _).setCell (by first | omega | (simp <;> omega)) _).setCell (by first | omega | (simp <;> omega)) _).alloc (by first | omega | (simp <;> omega)) _)) (hbi.mono (by first | omega | (simp <;> omega)))); clear hbi) | (go_at_call_of 17 (Value.string C2); refine (unhide IS3 _ (by first | exact unhide hB | exact (unhide hB).alloc (by first | omega | (simp <;> omega)) _ | exact (((unhide hB).setCell (by first | omega | (simp <;> omega)) _).setCell (by first | omega | (simp <;> omega)) _).setCell (by first | omega | (simp <;> omega)) _ | exact ((((unhide hB).setCell (by first | omega | (simp <;> omega)) _).setCell (by first | omega | (simp <;> omega)) _).setCell (by first | omega | (simp <;> omega)) _).alloc (by first | omega | (simp <;> omega)) _)).mono ?_; rintro e iw3 ⟨rfl, hbi⟩; have hzi3 := hbi.size; (try simp at hzi3); have hB := hide (Below.trans (show Below (w.heap.size + 1) (eventedN w S) _ from (by first | exact unhide hB | exact (unhide hB).alloc (by first | omega | (simp <;> omega)) _ | exact (((unhide hB).setCell (by first | omega | (simp <;> omega)) _).setCell (by first | omega | (simp <;> omega)) _).setCell (by first | omega | (simp <;> omega)) _ | exact ((((unhide hB).setCell (by first | omega | (simp <;> omega)) _).setCell (by first | omega | (simp <;> omega)) _).setCell (by first | omega | (simp <;> omega)) _).alloc (by first | omega | (simp <;> omega)) _)) (hbi.mono (by first | omega | (simp <;> omega)))); clear hbi) | (go_at_call_of 17 (Value.string D1); refine (unhide IS4 _ (by first | exact unhide hB | exact (unhide hB).alloc (by first | omega | (simp <;> omega)) _ | exact (((unhide hB).setCell (by first | omega | (simp <;> omega)) _).setCell (by first | omega | (simp <;> omega)) _).setCell (by first | omega | (simp <;> omega)) _ | exact ((((unhide hB).setCell (by first | omega | (simp <;> omega)) _).setCell (by first | omega | (simp <;> omega)) _).setCell (by first | omega | (simp <;> omega)) _).alloc (by first | omega | (simp <;> omega)) _)).mono ?_; rintro e iw4 ⟨rfl, hbi⟩; have hzi4 := hbi.size; (try simp at hzi4); have hB := hide (Below.trans (show Below (w.heap.size + 1) (eventedN w S) _ from (by first | exact unhide hB | exact (unhide hB).alloc (by first | omega | (simp <;> omega)) _ | exact (((unhide hB).setCell (by first | omega | (simp <;> omega)) _).setCell (by first | omega | (simp <;> omega)) _).setCell (by first | omega | (simp <;> omega)) _ | exact ((((unhide hB).setCell (by first | omega | (simp <;> omega)) _).setCell (by first | omega | (simp <;> omega)) _).setCell (by first | omega | (simp <;> omega)) _).alloc (by first | omega | (simp <;> omega)) _)) (hbi.mono (by first | omega | (simp <;> omega)))); clear hbi) | (go_at_call_of 17 (Value.string E2); refine (unhide IS5 _ (by first | exact unhide hB | exact (unhide hB).alloc (by first | omega | (simp <;> omega)) _ | exact (((unhide hB).setCell (by first | omega | (simp <;> omega)) _).setCell (by first | omega | (simp <;> omega)) _).setCell (by first | omega | (simp <;> omega)) _ | exact ((((unhide hB).setCell (by first | omega | (simp <;> omega)) _).setCell (by first | omega | (simp <;> omega)) _).setCell (by first | omega | (simp <;> omega)) _).alloc (by first | omega | (simp <;> omega)) _)).mono ?_; rintro e iw5 ⟨rfl, hbi⟩; have hzi5 := hbi.size; (try simp at hzi5); have hB := hide (Below.trans (show Below (w.heap.size + 1) (eventedN w S) _ from (by first | exact unhide hB | exact (unhide hB).alloc (by first | omega | (simp <;> omega)) _ | exact (((unhide hB).setCell (by first | omega | (simp <;> omega)) _).setCell (by first | omega | (simp <;> omega)) _).setCell (by first | omega | (simp <;> omega)) _ | exact ((((unhide hB).setCell (by first | omega | (simp <;> omega)) _).setCell (by first | omega | (simp <;> omega)) _).setCell (by first | omega | (simp <;> omega)) _).alloc (by first | omega | (simp <;> omega)) _)) (hbi.mono (by first | omega | (simp <;> omega)))); clear hbi) | (go_at_call 20; refine (starts_any S T 0 zS zT (by omega) _).mono ?_; rintro e sw ⟨rfl, hsw⟩; subst sw))
          go_ret
          exact ⟨rfl, unhide BE _ (unhide hB)⟩
end

end Go.Proofs.YtfkcaldjphakpaaGreatDoor
