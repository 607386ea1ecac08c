/- The contract of lex.quoted: the walk. The contracts of lex.first, lex.Next and lex.IsName. -/
import Derived.Test.YtfkcaldjphakpaaGreatDoorA01
namespace Go.Proofs.YtfkcaldjphakpaaGreatDoor
open Go.RowKit

section
theorem own_step {W w1 wr : World} {B : Nat} {v : Value} {n : Nat} {xs : List Value} {e : TypeId} (hb : Below B W wr) (hB : B ≤ wr.heap.size) (ho : wr.ownsRow B e 1 v n xs) (o : Obj)
    (hg : (wr.alloc o).grownBy w1 v.ownBlock) : Below B W w1 :=
  (hb.alloc hB o).grown hg (by simp; omega) fun k hk => (ho.lt k hk).1

theorem u8_bne39 (c : UInt8) : ((c.toNat : Int) != 39) = !(c == 39) := by simp only [bne, u8_39]

theorem quot_ok {l : List UInt8} {xs : List UInt8} {k : Nat} (h : quotF (l.drop 1) = some (xs, k)) : quotTk l = ⟨4, 0, xs⟩ ∧ quotS l = k + 1 := by
  unfold quotTk quotS; rw [h]; exact ⟨rfl, rfl⟩
theorem quot_no {l : List UInt8} (h : quotF (l.drop 1) = none) : quotTk l = plainTk 1 ∧ quotS l = l.length := by
  unfold quotTk quotS; rw [h]; exact ⟨rfl, rfl⟩

set_option maxHeartbeats 800000 in
set_option maxRecDepth 100000 in
theorem quoted_any (s : ByteArray) (h0 : 0 < s.size) (hs : s.size ≤ 140737488355328) (w : World) :
    Calls Tryz.prog 194 #[.string s] w fun e w' => e = .returned (.tuple #[tkV (quotTk s.data.toList) 0, .int .i64 (quotS s.data.toList)]) ∧ Below w.heap.size w w' := by
  have hl := data_len s
  obtain ⟨i0, hi, hz0, hz1, hz2⟩ := info_parts Tryz.info5u
  obtain ⟨TK, hTK⟩ : ∃ t, quotTk s.data.toList = t := ⟨_, rfl⟩
  obtain ⟨Z, hZ⟩ : ∃ t, quotS s.data.toList = t := ⟨_, rfl⟩
  rw [hTK, hZ]
  have HTK := hide hTK
  have HZ := hide hZ
  clear hTK hZ
  go_enter Tryz.func194, Tryz.ntmps194
  go_wp2_with fail
  go_loopw [4, 5] (fun v i wr => ∃ (k : Nat) (xs : List UInt8), 1 ≤ k ∧ k ≤ s.size ∧ i = .int .i64 k ∧ Hid (QAt s.data.toList k xs) ∧ xs.length < k ∧ wr.ownsRow (w.heap.size + 1) 5 1 v xs.length (xs.map fun c => .int .u8 (c.toNat : Int)) ∧ Below (w.heap.size + 1) (w.alloc (.cells #[.int .i64 0, .int .i64 0, .int .i64 0, .string ⟨#[]⟩] 91)) wr)
    (fun _ i _ => s.size - (intOf i).toNat)
  case atStart => exact ⟨1, [], Nat.le_refl _, by omega, rfl, hide (QAt.start _), by simp, World.ownsRow_nil _ _ _ _, Below.refl _ _⟩
  case round =>
    obtain ⟨k, xs, hk1, hk, rfl, hq, hxl, hown, hb⟩ := hrel
    have hbs : w.heap.size + 1 ≤ wr.heap.size := by have := hb.size; simpa using this
    have hcv := conv_own hown
    have hb' : Below (w.alloc (.cells #[.int .i64 0, .int .i64 0, .int .i64 0, .string ⟨#[]⟩] 91)).heap.size (w.alloc (.cells #[.int .i64 0, .int .i64 0, .int .i64 0, .string ⟨#[]⟩] 91)) wr := by simpa using hb
    obtain ⟨hc0, hf0⟩ := bcell hb'
    by_cases hlt : k < s.size
    · cases hc : (s[k] == 39) with
      | false =>
        have HQ : Hid (QAt s.data.toList (k + 1) (xs ++ [s[k]])) := hide ((unhide hq).one hk1 (by omega) (by rw [data_getElem s k hlt]; simpa using hc))
        have hc' : ((s[k].toNat : Int) == 39) = false := by rw [u8_39]; exact hc
        clear hc hq
        go_wp2_with (at_builtin; refine wpList_append_own _ rfl _ _ 51 rfl (w.heap.size + 1) 5 i0 (.int .u8 0) 1 1 Tryz.underlying51 hi hz0 hz1 hz2 rfl (by decide) _ _ _ rfl (hown.alloc _) ⟨wr.heap.size, 0, none⟩ 1 1 [.int .u8 (s[k].toNat : Int)] rfl rfl ?c1 ?c2 ?c3 ?c4 ?c5 ?_)
        case c1 =>
          intro j u hj
          match j, hj with
          | 0, hj => simp at hj; subst hj; simp [Addr.add]
        case c2 => intro u hu; simp at hu; subst hu; rfl
        case c3 => unfold maxLen; omega
        case c4 => omega
        case c5 => simp; omega
        intro v' w1 hown' hgrow _
        have hb1 := own_step hb hbs hown _ hgrow
        have hown1 : w1.ownsRow (w.heap.size + 1) 5 1 v' (xs ++ [s[k]]).length ((xs ++ [s[k]]).map fun c => .int .u8 (c.toNat : Int)) := by simpa using hown'
        clear hown' hgrow hown hcv hb hbs hb' hc0 hf0
        go_wp2_with fail
        go_roundw
        case rel => exact ⟨k + 1, xs ++ [s[k]], by omega, by omega, by go_num, HQ, by simp; omega, hown1, hb1⟩
        case measure => simp [intOf]; omega
      | true =>
        have hc' : ((s[k].toNat : Int) == 39) = true := by rw [u8_39]; exact hc
        have hk39 : s.data.toList[k]'(by omega) = 39 := by rw [data_getElem s k hlt]; simpa using hc
        by_cases h2 : k + 1 < s.size
        · cases hd : (s[k + 1] == 39) with
          | true =>
            have HQ : Hid (QAt s.data.toList (k + 2) (xs ++ [39])) := hide ((unhide hq).two hk1 (by omega) hk39 (by rw [data_getElem s (k + 1) h2]; simpa using hd))
            have hd1 : ((s[k + 1].toNat : Int) != 39) = false := by rw [u8_bne39, hd]; rfl
            have hd2 : (s[k + 1].toNat : Int) = 39 := by rw [show s[k + 1] = 39 by simpa using hd]; rfl
            have he : ((k : Int) + 1 == (s.size : Int)) = false := beq_eq_false_iff_ne.2 (by omega)
            clear hc hq hd hk39
            go_wp2_with (at_builtin; refine wpList_append_own _ rfl _ _ 51 rfl (w.heap.size + 1) 5 i0 (.int .u8 0) 1 1 Tryz.underlying51 hi hz0 hz1 hz2 rfl (by decide) _ _ _ rfl (hown.alloc _) ⟨wr.heap.size, 0, none⟩ 1 1 [.int .u8 39] rfl rfl ?c1 ?c2 ?c3 ?c4 ?c5 ?_)
            case c1 =>
              intro j u hj
              match j, hj with
              | 0, hj => simp at hj; subst hj; simp [Addr.add]
            case c2 => intro u hu; simp at hu; subst hu; rfl
            case c3 => unfold maxLen; omega
            case c4 => omega
            case c5 => simp; omega
            intro v' w1 hown' hgrow _
            have hb1 := own_step hb hbs hown _ hgrow
            have hown1 : w1.ownsRow (w.heap.size + 1) 5 1 v' (xs ++ [(39 : UInt8)]).length ((xs ++ [(39 : UInt8)]).map fun c => .int .u8 (c.toNat : Int)) := by simpa using hown'
            clear hown' hgrow hown hcv hb hbs hb' hc0 hf0
            go_wp2_with fail
            go_roundw
            case rel => exact ⟨k + 2, xs ++ [39], by omega, by omega, by go_num, HQ, by simp; omega, hown1, hb1⟩
            case measure => simp [intOf]; omega
          | false =>
            have HC : Hid (quotF (s.data.toList.drop 1) = some (xs, k)) := hide ((unhide hq).close hk1 (by omega) hk39 (fun _ => by rw [data_getElem s (k + 1) h2]; simpa using hd))
            have hd1 : ((s[k + 1].toNat : Int) != 39) = true := by rw [u8_bne39, hd]; rfl
            have he : ((k : Int) + 1 == (s.size : Int)) = false := beq_eq_false_iff_ne.2 (by omega)
            clear hc hq hd hk39
            go_wp2_with fail
            refine bodyPost_ret (by simp [results, Tryz.results194, go_sem, hc0]; rfl) rfl ⟨?_, ?_⟩
            all_goals go_light
            · exact tok_ret2 (by rw [← unhide HTK, (quot_ok (unhide HC)).1]) (by rw [← unhide HTK, (quot_ok (unhide HC)).1]) (by rw [← unhide HTK, (quot_ok (unhide HC)).1]) (by rw [← unhide HZ, (quot_ok (unhide HC)).2]; go_num)
            · exact (((((below_step hb').setCell (by simp) _).setCell (by simp) _).setCell (by simp) _).setCell (by simp) _)
        · have HC : Hid (quotF (s.data.toList.drop 1) = some (xs, k)) := hide ((unhide hq).close hk1 (by omega) hk39 (fun h => absurd h (by omega)))
          have he : ((k : Int) + 1 == (s.size : Int)) = true := beq_iff_eq.2 (by omega)
          clear hc hq hk39
          go_wp2_with fail
          refine bodyPost_ret (by simp [results, Tryz.results194, go_sem, hc0]; rfl) rfl ⟨?_, ?_⟩
          all_goals go_light
          · exact tok_ret2 (by rw [← unhide HTK, (quot_ok (unhide HC)).1]) (by rw [← unhide HTK, (quot_ok (unhide HC)).1]) (by rw [← unhide HTK, (quot_ok (unhide HC)).1]) (by rw [← unhide HZ, (quot_ok (unhide HC)).2]; go_num)
          · exact (((((below_step hb').setCell (by simp) _).setCell (by simp) _).setCell (by simp) _).setCell (by simp) _)
    · have HN : Hid (quotF (s.data.toList.drop 1) = none) := hide ((unhide hq).over (by omega))
      clear hq
      go_wp2_with fail
      refine bodyPost_ret (by simp [results, Tryz.results194, go_sem, hc0]; rfl) rfl ⟨?_, ?_⟩
      all_goals go_light
      · exact tok_ret2 (by rw [← unhide HTK, (quot_no (unhide HN)).1]; rfl) (by rw [← unhide HTK, (quot_no (unhide HN)).1]; rfl) (by rw [← unhide HTK, (quot_no (unhide HN)).1]; rfl) (by rw [← unhide HZ, (quot_no (unhide HN)).2, hl])
      · exact (((((below_step hb').setCell (by simp) _).setCell (by simp) _).setCell (by simp) _).setCell (by simp) _)
end

section
def firstTk (l : List UInt8) : Tk := match l with
  | [] => plainTk 1
  | c :: _ => if begU c then wordTk l else if digU c then numTk l else if c == 39 then quotTk l else plainTk (markT l)
def firstS (l : List UInt8) : Nat := match l with
  | [] => 1
  | c :: _ => if begU c then wordSize l else if digU c then runLen digU l else if c == 39 then quotS l else markS l

theorem first_at (s : ByteArray) (h : 0 < s.size) :
    firstTk s.data.toList = (if begU s[0] then wordTk s.data.toList else if digU s[0] then numTk s.data.toList else if s[0] == 39 then quotTk s.data.toList else plainTk (markT s.data.toList)) ∧
    firstS s.data.toList = (if begU s[0] then wordSize s.data.toList else if digU s[0] then runLen digU s.data.toList else if s[0] == 39 then quotS s.data.toList else markS s.data.toList) := by
  have e := List.drop_eq_getElem_cons (l := s.data.toList) (i := 0) (by rw [data_len]; exact h)
  rw [List.drop_zero, data_getElem s 0 h] at e
  constructor
  · conv => lhs; rw [e]
    conv => rhs; rw [e]
    rfl
  · conv => lhs; rw [e]
    conv => rhs; rw [e]
    rfl

set_option maxHeartbeats 400000 in
theorem first_any (s : ByteArray) (h0 : 0 < s.size) (hs : s.size ≤ 140737488355328) (w : World) (hE : ErrOk w) :
    Calls Tryz.prog 144 #[.string s] w fun e w' => e = .returned (.tuple #[tkV (firstTk s.data.toList) 0, .int .i64 (firstS s.data.toList)]) ∧ Below w.heap.size w w' := by
  obtain ⟨h1, h2⟩ := first_at s h0
  have hm : s.size ≤ maxLen := by unfold maxLen; omega
  have HE : Hid (∀ o, ErrOk (w.alloc o)) := hide fun o => hE.alloc o
  clear hE
  cases hb : begU s[0] with
  | true =>
    rw [hb, if_pos rfl] at h1 h2
    rw [h1, h2]
    have Hb := hide hb
    clear hb h1 h2
    go_enter Tryz.func144, Tryz.ntmps144
    go_wp2_with (first | (go_at_call 190; refine (beginsWord_any _ _).mono ?_; rintro e w' ⟨rfl, rfl⟩; rw [show begB (s[0].toNat : Int) = true from unhide Hb]) | (go_at_call 191; refine (word_any _ hs _).mono ?_; rintro e w' ⟨rfl, hb⟩; obtain ⟨hc, hf⟩ := bcell hb; have hz := hb.size; simp only [tkV]))
    refine bodyPost_ret (by simp [results, Tryz.results144, go_sem, hc]; rfl) rfl ⟨?_, ?_⟩
    all_goals go_light
    · rfl
    · exact ((((below_step hb).setCell (by simp) _).setCell (by simp) _).setCell (by simp) _).setCell (by simp) _
  | false =>
    rw [hb, if_neg (by simp)] at h1 h2
    have Hb := hide hb
    clear hb
    cases hd : digU s[0] with
    | true =>
      rw [hd, if_pos rfl] at h1 h2
      rw [h1, h2]
      have Hd := hide hd
      clear hd h1 h2
      go_enter Tryz.func144, Tryz.ntmps144
      go_wp2_with (first | (go_at_call 190; refine (beginsWord_any _ _).mono ?_; rintro e w' ⟨rfl, rfl⟩; rw [show begB (s[0].toNat : Int) = false from unhide Hb]) | (go_at_call 192; refine (isDigit_any _ _).mono ?_; rintro e w' ⟨rfl, rfl⟩; rw [show digB (s[0].toNat : Int) = true from unhide Hd]) | (go_at_call 193; refine (number_any _ h0 hs (unhide Hd) _ (unhide HE _)).mono ?_; rintro e w' ⟨rfl, hb⟩; obtain ⟨hc, hf⟩ := bcell hb; have hz := hb.size; simp only [tkV]))
      refine bodyPost_ret (by simp [results, Tryz.results144, go_sem, hc]; rfl) rfl ⟨?_, ?_⟩
      all_goals go_light
      · rfl
      · exact ((((below_step hb).setCell (by simp) _).setCell (by simp) _).setCell (by simp) _).setCell (by simp) _
    | false =>
      rw [hd, if_neg (by simp)] at h1 h2
      have Hd := hide hd
      clear hd
      cases hq : (s[0] == 39) with
      | true =>
        rw [hq, if_pos rfl] at h1 h2
        rw [h1, h2]
        have hq' : ((s[0].toNat : Int) == 39) = true := by rw [u8_39]; exact hq
        clear hq h1 h2
        go_enter Tryz.func144, Tryz.ntmps144
        go_wp2_with (first | (go_at_call 190; refine (beginsWord_any _ _).mono ?_; rintro e w' ⟨rfl, rfl⟩; rw [show begB (s[0].toNat : Int) = false from unhide Hb]) | (go_at_call 192; refine (isDigit_any _ _).mono ?_; rintro e w' ⟨rfl, rfl⟩; rw [show digB (s[0].toNat : Int) = false from unhide Hd]) | (go_at_call 194; refine (quoted_any _ h0 hs _).mono ?_; rintro e w' ⟨rfl, hb⟩; obtain ⟨hc, hf⟩ := bcell hb; have hz := hb.size; simp only [tkV]))
        refine bodyPost_ret (by simp [results, Tryz.results144, go_sem, hc]; rfl) rfl ⟨?_, ?_⟩
        all_goals go_light
        · rfl
        · exact ((((below_step hb).setCell (by simp) _).setCell (by simp) _).setCell (by simp) _).setCell (by simp) _
      | false =>
        rw [hq, if_neg (by simp)] at h1 h2
        rw [h1, h2]
        have hq' : ((s[0].toNat : Int) == 39) = false := by rw [u8_39]; exact hq
        clear hq h1 h2
        go_enter Tryz.func144, Tryz.ntmps144
        go_wp2_with (first | (go_at_call 190; refine (beginsWord_any _ _).mono ?_; rintro e w' ⟨rfl, rfl⟩; rw [show begB (s[0].toNat : Int) = false from unhide Hb]) | (go_at_call 192; refine (isDigit_any _ _).mono ?_; rintro e w' ⟨rfl, rfl⟩; rw [show digB (s[0].toNat : Int) = false from unhide Hd]) | (go_at_call 195; refine (mark_any _ h0 hm _).mono ?_; rintro e w' ⟨rfl, hb⟩; obtain ⟨hc, hf⟩ := bcell hb; have hz := hb.size; simp only [tkV]))
        refine bodyPost_ret (by simp [results, Tryz.results144, go_sem, hc]; rfl) rfl ⟨?_, ?_⟩
        all_goals go_light
        · rfl
        · exact ((((below_step hb).setCell (by simp) _).setCell (by simp) _).setCell (by simp) _).setCell (by simp) _

/-- The token that comes from a place on, its place, and the place behind it. -/
def nextAt (l : List UInt8) (k : Nat) : Nat := k + runLen spU (l.drop k)
def nextTk (l : List UInt8) (k : Nat) : Tk := if nextAt l k < l.length then firstTk (l.drop (nextAt l k)) else plainTk 0
def nextTo (l : List UInt8) (k : Nat) : Nat := if nextAt l k < l.length then nextAt l k + firstS (l.drop (nextAt l k)) else l.length
theorem nextAt_le (l : List UInt8) (k : Nat) (h : k ≤ l.length) : nextAt l k ≤ l.length := by
  have := runLen_le spU (l.drop k); rw [List.length_drop] at this; unfold nextAt; omega

theorem mark_le (l : List UInt8) (h : 0 < l.length) : markS l ≤ l.length := by
  unfold markS; split
  · simp at h
  · simp
  · split <;> simp

theorem quotF_le : ∀ (n : Nat) (l : List UInt8), l.length ≤ n → ∀ r, quotF l = some r → r.2 ≤ l.length := by
  intro n
  induction n with
  | zero => intro l hl r h; have : l = [] := List.eq_nil_of_length_eq_zero (by omega)
            subst this; simp [quotF] at h
  | succ n ih =>
    intro l hl r h
    match l, hl, h with
    | [], _, h => simp [quotF] at h
    | [c], _, h =>
      simp only [quotF] at h
      split at h
      · simp at h; subst h; simp
      · simp at h
    | c :: d :: t, hl, h =>
      simp only [quotF] at h
      simp only [List.length_cons] at hl
      split at h
      · split at h
        · cases hq : quotF t with
          | none => rw [hq] at h; simp at h
          | some q =>
            rw [hq] at h; simp at h; subst h
            have := ih t (by omega) q hq; simp; omega
        · simp at h; subst h; simp
      · cases hq : quotF (d :: t) with
        | none => rw [hq] at h; simp at h
        | some q =>
          rw [hq] at h; simp at h; subst h
          have := ih (d :: t) (by simp; omega) q hq; simp at this ⊢; omega

theorem quotS_le (l : List UInt8) (h : 0 < l.length) : quotS l ≤ l.length := by
  unfold quotS; split
  · rename_i r hr
    have := quotF_le _ (l.drop 1) (Nat.le_refl _) r hr
    rw [List.length_drop] at this; omega
  · exact Nat.le_refl _

theorem firstS_le (l : List UInt8) (h : 0 < l.length) : firstS l ≤ l.length := by
  cases l with
  | nil => simp at h
  | cons c t =>
    simp only [firstS]
    split
    · exact wordSize_le _
    · split
      · exact runLen_le _ _
      · split
        · exact quotS_le _ h
        · exact mark_le _ h

theorem nextTo_le (l : List UInt8) (k : Nat) : nextTo l k ≤ l.length := by
  unfold nextTo; split
  · have := firstS_le (l.drop (nextAt l k)) (by rw [List.length_drop]; omega)
    rw [List.length_drop] at this; omega
  · exact Nat.le_refl _
end

end Go.Proofs.YtfkcaldjphakpaaGreatDoor
