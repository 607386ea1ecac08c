/- The contract of lex.quoted. The contract of lex.quoted: the walk. The contracts of lex.first, lex.Next and lex.IsName. The contracts of lex.Next and lex.IsName. -/
import Derived.Test.YtfkcaldjphakpabGreatDoorT01
import Derived.Laws.IdiomStrings
namespace Go.Proofs.YtfkcaldjphakpabGreatDoor
open Go.RowKit
section
def qh4 : List UInt8 → Option (List UInt8 × Nat)
  | [] => none
  | [c] => if c == 39 then some ([], 1) else none
  | c :: d :: t =>
    if c == 39 then (if d == 39 then (qh4 t).map fun r => (39 :: r.1, r.2 + 2) else some ([], 1))
    else (qh4 (d :: t)).map fun r => (c :: r.1, r.2 + 1)
def qt0 (l : List UInt8) : Tk := match qh4 (l.drop 1) with
  | some r => ⟨4, 0, r.1⟩
  | none => qd5 1
def vj9 (l : List UInt8) : Nat := match qh4 (l.drop 1) with
  | some r => r.2 + 1
  | none => l.length
def QAt (l : List UInt8) (k : Nat) (xs : List UInt8) : Prop := qh4 (l.drop 1) = (qh4 (l.drop k)).map fun r => (xs ++ r.1, r.2 + (k - 1))
theorem drop2 (l : List UInt8) (k : Nat) (h : k + 1 < l.length) : l.drop k = l[k] :: l[k + 1] :: l.drop (k + 2) := by
  rw [List.drop_eq_getElem_cons (by omega), List.drop_eq_getElem_cons (by omega)]
theorem drop1 (l : List UInt8) (k : Nat) (h : k + 1 = l.length) : l.drop k = [l[k]] := by
  rw [List.drop_eq_getElem_cons (by omega), List.drop_of_length_le (by omega)]
theorem QAt.start (l : List UInt8) : QAt l 1 [] := by
  unfold QAt
  cases qh4 (l.drop 1) <;> simp
theorem QAt.over {l : List UInt8} {k : Nat} {xs : List UInt8} (h : QAt l k xs) (hk : l.length ≤ k) : qh4 (l.drop 1) = none := by
  unfold QAt at h; rw [h, List.drop_of_length_le hk]; rfl
theorem QAt.close {l : List UInt8} {k : Nat} {xs : List UInt8} (h : QAt l k xs) (h1 : 1 ≤ k) (hk : k < l.length) (hc : l[k] = 39) (hn : ∀ h : k + 1 < l.length, l[k + 1] ≠ 39) :
    qh4 (l.drop 1) = some (xs, k) := by
  unfold QAt at h
  rw [h]
  by_cases h2 : k + 1 < l.length
  · have := hn h2
    rw [drop2 l k h2, qh4, if_pos (by simp [hc]), if_neg (by simpa using this)]; simp; omega
  · rw [drop1 l k (by omega), qh4, if_pos (by simp [hc])]; simp; omega
theorem QAt.two {l : List UInt8} {k : Nat} {xs : List UInt8} (h : QAt l k xs) (h1 : 1 ≤ k) (hk : k + 1 < l.length) (hc : l[k] = 39) (hd : l[k + 1] = 39) : QAt l (k + 2) (xs ++ [39]) := by
  unfold QAt at h ⊢
  rw [h, drop2 l k hk, qh4, if_pos (by simp [hc]), if_pos (by simp [hd])]
  cases qh4 (l.drop (k + 2)) with
  | none => rfl
  | some r => simp; omega
theorem QAt.one {l : List UInt8} {k : Nat} {xs : List UInt8} (h : QAt l k xs) (h1 : 1 ≤ k) (hk : k < l.length) (hc : l[k] ≠ 39) : QAt l (k + 1) (xs ++ [l[k]]) := by
  unfold QAt at h ⊢
  rw [h]
  by_cases h2 : k + 1 < l.length
  · rw [drop2 l k h2, qh4, if_neg (by simpa using hc), List.drop_eq_getElem_cons h2]
    cases qh4 (l[k + 1] :: l.drop (k + 1 + 1)) with
    | none => rfl
    | some r => simp; omega
  · rw [drop1 l k (by omega), qh4, if_neg (by simpa using hc), List.drop_of_length_le (by omega)]; rfl
theorem Tryz.info5u : (Tryz.prog.info? 5).map (fun i => (i.zero, i.size, i.bytes)) = some (some (.int .u8 0), 1, 1) := by kernel_rfl
theorem conv_own {w : World} {base : Nat} {v : Value} {l : List UInt8} (h : w.ownsRow base 5 1 v l.length (l.map fun c => .int .u8 (c.toNat : Int))) :
    (convert 36 9 v).run Tryz.prog w = .ok (.string (BS l)) w := by
  have h' := h
  obtain ⟨_, ⟨rfl, hn⟩ | ⟨g, cap, cur, rfl, _⟩⟩ := h
  · have : l = [] := List.eq_nil_of_length_eq_zero hn
    subst this
    rw [run_convert_bytes_string w 36 9 5 none 0 0 Tryz.underlying36 Tryz.underlying5 Tryz.underlying9]
    simp [Conv.bytesToString]
    rfl
  · refine run_convert_bytes_back w 36 9 5 ⟨g, 0, none⟩ cap l Tryz.underlying36 Tryz.underlying5 Tryz.underlying9 fun j hj => ?_
    exact h'.cells rfl j _ (by simp [List.getElem?_eq_getElem hj])
end
section
theorem jn1 {W w1 wr : World} {B : Nat} {v : Value} {n : Nat} {xs : List Value} {e : TypeId} (hb : Below B W wr) (hB : B ≤ wr.heap.size) (ho : wr.ownsRow B e 1 v n xs) (o : Obj)
    (hg : (wr.alloc o).grownBy w1 v.ownBlock) : Below B W w1 :=
  (hb.alloc hB o).grown hg (by simp; omega) fun k hk => (ho.lt k hk).1
theorem jp8 (c : UInt8) : ((c.toNat : Int) != 39) = !(c == 39) := by simp only [bne, u8_39]
theorem qw4 {l : List UInt8} {xs : List UInt8} {k : Nat} (h : qh4 (l.drop 1) = some (xs, k)) : qt0 l = ⟨4, 0, xs⟩ ∧ vj9 l = k + 1 := by
  unfold qt0 vj9; rw [h]; exact ⟨rfl, rfl⟩
theorem vu9 {l : List UInt8} (h : qh4 (l.drop 1) = none) : qt0 l = qd5 1 ∧ vj9 l = l.length := by
  unfold qt0 vj9; rw [h]; exact ⟨rfl, rfl⟩
set_option maxHeartbeats 800000 in
set_option maxRecDepth 100000 in
theorem jw0 (s : ByteArray) (h0 : 0 < s.size) (hs : s.size ≤ 140737488355328) (w : World) :
    Calls Tryz.prog 179 #[.string s] w fun e w' => e = .returned (.tuple #[tkV (qt0 s.data.toList) 0, .int .i64 (vj9 s.data.toList)]) ∧ Below w.heap.size w w' := by
  have hl := qa9 s
  obtain ⟨i0, hi, hz0, hz1, hz2⟩ := info_parts Tryz.info5u
  obtain ⟨TK, hTK⟩ : ∃ t, qt0 s.data.toList = t := ⟨_, rfl⟩
  obtain ⟨Z, hZ⟩ : ∃ t, vj9 s.data.toList = t := ⟨_, rfl⟩
  rw [hTK, hZ]
  have HTK := v6 hTK
  have HZ := v6 hZ
  clear hTK hZ
  go_enter Tryz.func179, Tryz.ntmps179
  go_wp2_with fail
  go_loopw [4, 5] (fun v i wr => ∃ (k : Nat) (xs : List UInt8), 1 ≤ k ∧ k ≤ s.size ∧ i = .int .i64 k ∧ Hid (QAt s.data.toList k xs) ∧ xs.length < k ∧ wr.ownsRow (w.heap.size + 1) 5 1 v xs.length (xs.map fun c => .int .u8 (c.toNat : Int)) ∧ Below (w.heap.size + 1) (w.alloc (.cells #[.int .i64 0, .int .i64 0, .int .i64 0, .string ⟨#[]⟩] 127)) wr)
    (fun _ i _ => s.size - (intOf i).toNat)
  case atStart => exact ⟨1, [], Nat.le_refl _, by omega, rfl, v6 (QAt.start _), by simp, World.ownsRow_nil _ _ _ _, Below.refl _ _⟩
  case round =>
    obtain ⟨k, xs, hk1, hk, rfl, hq, hxl, hown, hb⟩ := hrel
    have hbs : w.heap.size + 1 ≤ wr.heap.size := by have := hb.size; simpa using this
    have hcv := conv_own hown
    have hb' : Below (w.alloc (.cells #[.int .i64 0, .int .i64 0, .int .i64 0, .string ⟨#[]⟩] 127)).heap.size (w.alloc (.cells #[.int .i64 0, .int .i64 0, .int .i64 0, .string ⟨#[]⟩] 127)) wr := by simpa using hb
    obtain ⟨hc0, hf0⟩ := j5 hb'
    by_cases hlt : k < s.size
    · cases hc : (s[k] == 39) with
      | false =>
        have HQ : Hid (QAt s.data.toList (k + 1) (xs ++ [s[k]])) := v6 ((q9 hq).one hk1 (by omega) (by rw [qc3 s k hlt]; simpa using hc))
        have hc' : ((s[k].toNat : Int) == 39) = false := by rw [u8_39]; exact hc
        clear hc hq
        go_wp2_with (at_builtin; refine wpList_append_own _ rfl _ _ 36 rfl (w.heap.size + 1) 5 i0 (.int .u8 0) 1 1 Tryz.underlying36 hi hz0 hz1 hz2 rfl (by decide) _ _ _ rfl (hown.alloc _) ⟨wr.heap.size, 0, none⟩ 1 1 [.int .u8 (s[k].toNat : Int)] rfl rfl ?c1 ?c2 ?c3 ?c4 ?c5 ?_)
        case c1 =>
          intro j u hj
          match j, hj with
          | 0, hj => simp at hj; subst hj; simp [Addr.add]
        case c2 => intro u hu; simp at hu; subst hu; rfl
        case c3 => unfold maxLen; omega
        case c4 => omega
        case c5 => simp; omega
        intro v' w1 hown' hgrow _
        have hb1 := jn1 hb hbs hown _ hgrow
        have hown1 : w1.ownsRow (w.heap.size + 1) 5 1 v' (xs ++ [s[k]]).length ((xs ++ [s[k]]).map fun c => .int .u8 (c.toNat : Int)) := by simpa using hown'
        clear hown' hgrow hown hcv hb hbs hb' hc0 hf0
        go_wp2_with fail
        go_roundw
        case rel => exact ⟨k + 1, xs ++ [s[k]], by omega, by omega, by go_num, HQ, by simp; omega, hown1, hb1⟩
        case measure => simp [intOf]; omega
      | true =>
        have hc' : ((s[k].toNat : Int) == 39) = true := by rw [u8_39]; exact hc
        have hk39 : s.data.toList[k]'(by omega) = 39 := by rw [qc3 s k hlt]; simpa using hc
        by_cases h2 : k + 1 < s.size
        · cases hd : (s[k + 1] == 39) with
          | true =>
            have HQ : Hid (QAt s.data.toList (k + 2) (xs ++ [39])) := v6 ((q9 hq).two hk1 (by omega) hk39 (by rw [qc3 s (k + 1) h2]; simpa using hd))
            have hd1 : ((s[k + 1].toNat : Int) != 39) = false := by rw [jp8, hd]; rfl
            have hd2 : (s[k + 1].toNat : Int) = 39 := by rw [show s[k + 1] = 39 by simpa using hd]; rfl
            have he : ((k : Int) + 1 == (s.size : Int)) = false := beq_eq_false_iff_ne.2 (by omega)
            clear hc hq hd hk39
            go_wp2_with (at_builtin; refine wpList_append_own _ rfl _ _ 36 rfl (w.heap.size + 1) 5 i0 (.int .u8 0) 1 1 Tryz.underlying36 hi hz0 hz1 hz2 rfl (by decide) _ _ _ rfl (hown.alloc _) ⟨wr.heap.size, 0, none⟩ 1 1 [.int .u8 39] rfl rfl ?c1 ?c2 ?c3 ?c4 ?c5 ?_)
            case c1 =>
              intro j u hj
              match j, hj with
              | 0, hj => simp at hj; subst hj; simp [Addr.add]
            case c2 => intro u hu; simp at hu; subst hu; rfl
            case c3 => unfold maxLen; omega
            case c4 => omega
            case c5 => simp; omega
            intro v' w1 hown' hgrow _
            have hb1 := jn1 hb hbs hown _ hgrow
            have hown1 : w1.ownsRow (w.heap.size + 1) 5 1 v' (xs ++ [(39 : UInt8)]).length ((xs ++ [(39 : UInt8)]).map fun c => .int .u8 (c.toNat : Int)) := by simpa using hown'
            clear hown' hgrow hown hcv hb hbs hb' hc0 hf0
            go_wp2_with fail
            go_roundw
            case rel => exact ⟨k + 2, xs ++ [39], by omega, by omega, by go_num, HQ, by simp; omega, hown1, hb1⟩
            case measure => simp [intOf]; omega
          | false =>
            have HC : Hid (qh4 (s.data.toList.drop 1) = some (xs, k)) := v6 ((q9 hq).close hk1 (by omega) hk39 (fun _ => by rw [qc3 s (k + 1) h2]; simpa using hd))
            have hd1 : ((s[k + 1].toNat : Int) != 39) = true := by rw [jp8, hd]; rfl
            have he : ((k : Int) + 1 == (s.size : Int)) = false := beq_eq_false_iff_ne.2 (by omega)
            clear hc hq hd hk39
            go_wp2_with fail
            refine bodyPost_ret (by simp [results, Tryz.results179, go_sem, hc0]; rfl) rfl ⟨?_, ?_⟩
            all_goals go_light
            · exact qu6 (by rw [← q9 HTK, (qw4 (q9 HC)).1]) (by rw [← q9 HTK, (qw4 (q9 HC)).1]) (by rw [← q9 HTK, (qw4 (q9 HC)).1]) (by rw [← q9 HZ, (qw4 (q9 HC)).2]; go_num)
            · exact (((((qc1 hb').setCell (by simp) _).setCell (by simp) _).setCell (by simp) _).setCell (by simp) _)
        · have HC : Hid (qh4 (s.data.toList.drop 1) = some (xs, k)) := v6 ((q9 hq).close hk1 (by omega) hk39 (fun h => absurd h (by omega)))
          have he : ((k : Int) + 1 == (s.size : Int)) = true := beq_iff_eq.2 (by omega)
          clear hc hq hk39
          go_wp2_with fail
          refine bodyPost_ret (by simp [results, Tryz.results179, go_sem, hc0]; rfl) rfl ⟨?_, ?_⟩
          all_goals go_light
          · exact qu6 (by rw [← q9 HTK, (qw4 (q9 HC)).1]) (by rw [← q9 HTK, (qw4 (q9 HC)).1]) (by rw [← q9 HTK, (qw4 (q9 HC)).1]) (by rw [← q9 HZ, (qw4 (q9 HC)).2]; go_num)
          · exact (((((qc1 hb').setCell (by simp) _).setCell (by simp) _).setCell (by simp) _).setCell (by simp) _)
    · have HN : Hid (qh4 (s.data.toList.drop 1) = none) := v6 ((q9 hq).over (by omega))
      clear hq
      go_wp2_with fail
      refine bodyPost_ret (by simp [results, Tryz.results179, go_sem, hc0]; rfl) rfl ⟨?_, ?_⟩
      all_goals go_light
      · exact qu6 (by rw [← q9 HTK, (vu9 (q9 HN)).1]; rfl) (by rw [← q9 HTK, (vu9 (q9 HN)).1]; rfl) (by rw [← q9 HTK, (vu9 (q9 HN)).1]; rfl) (by rw [← q9 HZ, (vu9 (q9 HN)).2, hl])
      · exact (((((qc1 hb').setCell (by simp) _).setCell (by simp) _).setCell (by simp) _).setCell (by simp) _)
end
section
def qr8 (l : List UInt8) : Tk := match l with
  | [] => qd5 1
  | c :: _ => if jq4 c then vc5 l else if qx9 c then vu1 l else if c == 39 then qt0 l else qd5 (vz1 l)
def ve7 (l : List UInt8) : Nat := match l with
  | [] => 1
  | c :: _ => if jq4 c then qb4 l else if qx9 c then qb8 qx9 l else if c == 39 then vj9 l else vt8 l
theorem first_at (s : ByteArray) (h : 0 < s.size) :
    qr8 s.data.toList = (if jq4 s[0] then vc5 s.data.toList else if qx9 s[0] then vu1 s.data.toList else if s[0] == 39 then qt0 s.data.toList else qd5 (vz1 s.data.toList)) ∧
    ve7 s.data.toList = (if jq4 s[0] then qb4 s.data.toList else if qx9 s[0] then qb8 qx9 s.data.toList else if s[0] == 39 then vj9 s.data.toList else vt8 s.data.toList) := by
  have e := List.drop_eq_getElem_cons (l := s.data.toList) (i := 0) (by rw [qa9]; exact h)
  rw [List.drop_zero, qc3 s 0 h] at e
  constructor
  · conv => lhs; rw [e]
    conv => rhs; rw [e]
    rfl
  · conv => lhs; rw [e]
    conv => rhs; rw [e]
    rfl
set_option maxHeartbeats 400000 in
theorem first_any (s : ByteArray) (h0 : 0 < s.size) (hs : s.size ≤ 140737488355328) (w : World) (hE : ErrOk w) :
    Calls Tryz.prog 131 #[.string s] w fun e w' => e = .returned (.tuple #[tkV (qr8 s.data.toList) 0, .int .i64 (ve7 s.data.toList)]) ∧ Below w.heap.size w w' := by
  obtain ⟨h1, h2⟩ := first_at s h0
  have hm : s.size ≤ maxLen := by unfold maxLen; omega
  have HE : Hid (∀ o, ErrOk (w.alloc o)) := v6 fun o => hE.alloc o
  clear hE
  cases hb : jq4 s[0] with
  | true =>
    rw [hb, if_pos rfl] at h1 h2
    rw [h1, h2]
    have Hb := v6 hb
    clear hb h1 h2
    go_enter Tryz.func131, Tryz.ntmps131
    go_wp2_with (first | (go_at_call 175; refine (qe9 _ _).mono ?_; rintro e w' ⟨rfl, rfl⟩; rw [show jy7 (s[0].toNat : Int) = true from q9 Hb]) | (go_at_call 176; refine (word_any _ hs _).mono ?_; rintro e w' ⟨rfl, hb⟩; obtain ⟨hc, hf⟩ := j5 hb; have hz := hb.size; simp only [tkV]))
    refine bodyPost_ret (by simp [results, Tryz.results131, go_sem, hc]; rfl) rfl ⟨?_, ?_⟩
    all_goals go_light
    · rfl
    · exact ((((qc1 hb).setCell (by simp) _).setCell (by simp) _).setCell (by simp) _).setCell (by simp) _
  | false =>
    rw [hb, if_neg (by simp)] at h1 h2
    have Hb := v6 hb
    clear hb
    cases hd : qx9 s[0] with
    | true =>
      rw [hd, if_pos rfl] at h1 h2
      rw [h1, h2]
      have Hd := v6 hd
      clear hd h1 h2
      go_enter Tryz.func131, Tryz.ntmps131
      go_wp2_with (first | (go_at_call 175; refine (qe9 _ _).mono ?_; rintro e w' ⟨rfl, rfl⟩; rw [show jy7 (s[0].toNat : Int) = false from q9 Hb]) | (go_at_call 177; refine (qi6 _ _).mono ?_; rintro e w' ⟨rfl, rfl⟩; rw [show jy9 (s[0].toNat : Int) = true from q9 Hd]) | (go_at_call 178; refine (ju8 _ h0 hs (q9 Hd) _ (q9 HE _)).mono ?_; rintro e w' ⟨rfl, hb⟩; obtain ⟨hc, hf⟩ := j5 hb; have hz := hb.size; simp only [tkV]))
      refine bodyPost_ret (by simp [results, Tryz.results131, go_sem, hc]; rfl) rfl ⟨?_, ?_⟩
      all_goals go_light
      · rfl
      · exact ((((qc1 hb).setCell (by simp) _).setCell (by simp) _).setCell (by simp) _).setCell (by simp) _
    | false =>
      rw [hd, if_neg (by simp)] at h1 h2
      have Hd := v6 hd
      clear hd
      cases hq : (s[0] == 39) with
      | true =>
        rw [hq, if_pos rfl] at h1 h2
        rw [h1, h2]
        have hq' : ((s[0].toNat : Int) == 39) = true := by rw [u8_39]; exact hq
        clear hq h1 h2
        go_enter Tryz.func131, Tryz.ntmps131
        go_wp2_with (first | (go_at_call 175; refine (qe9 _ _).mono ?_; rintro e w' ⟨rfl, rfl⟩; rw [show jy7 (s[0].toNat : Int) = false from q9 Hb]) | (go_at_call 177; refine (qi6 _ _).mono ?_; rintro e w' ⟨rfl, rfl⟩; rw [show jy9 (s[0].toNat : Int) = false from q9 Hd]) | (go_at_call 179; refine (jw0 _ h0 hs _).mono ?_; rintro e w' ⟨rfl, hb⟩; obtain ⟨hc, hf⟩ := j5 hb; have hz := hb.size; simp only [tkV]))
        refine bodyPost_ret (by simp [results, Tryz.results131, go_sem, hc]; rfl) rfl ⟨?_, ?_⟩
        all_goals go_light
        · rfl
        · exact ((((qc1 hb).setCell (by simp) _).setCell (by simp) _).setCell (by simp) _).setCell (by simp) _
      | false =>
        rw [hq, if_neg (by simp)] at h1 h2
        rw [h1, h2]
        have hq' : ((s[0].toNat : Int) == 39) = false := by rw [u8_39]; exact hq
        clear hq h1 h2
        go_enter Tryz.func131, Tryz.ntmps131
        go_wp2_with (first | (go_at_call 175; refine (qe9 _ _).mono ?_; rintro e w' ⟨rfl, rfl⟩; rw [show jy7 (s[0].toNat : Int) = false from q9 Hb]) | (go_at_call 177; refine (qi6 _ _).mono ?_; rintro e w' ⟨rfl, rfl⟩; rw [show jy9 (s[0].toNat : Int) = false from q9 Hd]) | (go_at_call 180; refine (mark_any _ h0 hm _).mono ?_; rintro e w' ⟨rfl, hb⟩; obtain ⟨hc, hf⟩ := j5 hb; have hz := hb.size; simp only [tkV]))
        refine bodyPost_ret (by simp [results, Tryz.results131, go_sem, hc]; rfl) rfl ⟨?_, ?_⟩
        all_goals go_light
        · rfl
        · exact ((((qc1 hb).setCell (by simp) _).setCell (by simp) _).setCell (by simp) _).setCell (by simp) _
def qf2 (l : List UInt8) (k : Nat) : Nat := k + qb8 spU (l.drop k)
def qh9 (l : List UInt8) (k : Nat) : Tk := if qf2 l k < l.length then qr8 (l.drop (qf2 l k)) else qd5 0
def qk0 (l : List UInt8) (k : Nat) : Nat := if qf2 l k < l.length then qf2 l k + ve7 (l.drop (qf2 l k)) else l.length
theorem vz2 (l : List UInt8) (k : Nat) (h : k ≤ l.length) : qf2 l k ≤ l.length := by
  have := vb5 spU (l.drop k); rw [List.length_drop] at this; unfold qf2; omega
theorem mark_le (l : List UInt8) (h : 0 < l.length) : vt8 l ≤ l.length := by
  unfold vt8; split
  · simp at h
  · simp
  · split <;> simp
theorem quotF_le : ∀ (n : Nat) (l : List UInt8), l.length ≤ n → ∀ r, qh4 l = some r → r.2 ≤ l.length := by
  intro n
  induction n with
  | zero => intro l hl r h; have : l = [] := List.eq_nil_of_length_eq_zero (by omega)
            subst this; simp [qh4] at h
  | succ n ih =>
    intro l hl r h
    match l, hl, h with
    | [], _, h => simp [qh4] at h
    | [c], _, h =>
      simp only [qh4] at h
      split at h
      · simp at h; subst h; simp
      · simp at h
    | c :: d :: t, hl, h =>
      simp only [qh4] at h
      simp only [List.length_cons] at hl
      split at h
      · split at h
        · cases hq : qh4 t with
          | none => rw [hq] at h; simp at h
          | some q =>
            rw [hq] at h; simp at h; subst h
            have := ih t (by omega) q hq; simp; omega
        · simp at h; subst h; simp
      · cases hq : qh4 (d :: t) with
        | none => rw [hq] at h; simp at h
        | some q =>
          rw [hq] at h; simp at h; subst h
          have := ih (d :: t) (by simp; omega) q hq; simp at this ⊢; omega
theorem quotS_le (l : List UInt8) (h : 0 < l.length) : vj9 l ≤ l.length := by
  unfold vj9; split
  · rename_i r hr
    have := quotF_le _ (l.drop 1) (Nat.le_refl _) r hr
    rw [List.length_drop] at this; omega
  · exact Nat.le_refl _
theorem vy5 (l : List UInt8) (h : 0 < l.length) : ve7 l ≤ l.length := by
  cases l with
  | nil => simp at h
  | cons c t =>
    simp only [ve7]
    split
    · exact vm9 _
    · split
      · exact vb5 _ _
      · split
        · exact quotS_le _ h
        · exact mark_le _ h
theorem vz3 (l : List UInt8) (k : Nat) : qk0 l k ≤ l.length := by
  unfold qk0; split
  · have := vy5 (l.drop (qf2 l k)) (by rw [List.length_drop]; omega)
    rw [List.length_drop] at this; omega
  · exact Nat.le_refl _
end
section
theorem jp3 {t : Tk} {p p' z z' : Int} (hp : p = p') (hz : z = z') :
    Ending.returned (.tuple #[.agg #[.int .i64 t.kind, .int .i64 p, .int .i64 t.num, .string (BS t.str)], .int .i64 z]) = .returned (.tuple #[tkV t p', .int .i64 z']) := by
  rw [hp, hz]; rfl
set_option maxHeartbeats 400000 in
theorem next_any (s : ByteArray) (hs : s.size ≤ 140737488355328) (f : Nat) (hf : f ≤ s.size) (w : World) (hE : ErrOk w) :
    Calls Tryz.prog 84 #[.string s, .int .i64 f] w fun e w' => e = .returned (.tuple #[tkV (qh9 s.data.toList f) (qf2 s.data.toList f), .int .i64 (qk0 s.data.toList f)]) ∧ Below w.heap.size w w' := by
  have hl := qa9 s
  have hle := vz2 s.data.toList f (by omega)
  have HE : Hid (∀ o, ErrOk (w.alloc o)) := v6 fun o => hE.alloc o
  clear hE
  obtain ⟨A, hA⟩ : ∃ a, qf2 s.data.toList f = a := ⟨_, rfl⟩
  have hT : qh9 s.data.toList f = if A < s.data.toList.length then qr8 (s.data.toList.drop A) else qd5 0 := by rw [← hA]; rfl
  have hZ : qk0 s.data.toList f = if A < s.data.toList.length then A + ve7 (s.data.toList.drop A) else s.data.toList.length := by rw [← hA]; rfl
  obtain ⟨T, hT'⟩ : ∃ t, qh9 s.data.toList f = t := ⟨_, rfl⟩
  obtain ⟨Z, hZ'⟩ : ∃ t, qk0 s.data.toList f = t := ⟨_, rfl⟩
  rw [hT'] at hT
  rw [hZ'] at hZ
  rw [hA] at hle
  rw [hA, hT', hZ']
  have HA : Hid (A = f + qb8 spU (s.data.toList.drop f)) := v6 (by rw [← hA]; rfl)
  have HT := v6 hT
  have HZ := v6 hZ
  clear hT hZ hT' hZ' hA
  go_enter Tryz.func84, Tryz.ntmps84
  go_wp2_with fail
  go_loop [6] (fun i => ∃ k : Nat, f ≤ k ∧ k ≤ s.size ∧ i = .int .i64 k ∧ Hid (A = qb8 spU (s.data.toList.drop k) + k)) (fun i => s.size - (intOf i).toNat)
  case atStart => exact ⟨f, Nat.le_refl _, hf, rfl, v6 (by rw [Nat.add_comm]; exact q9 HA)⟩
  case round =>
    obtain ⟨k, hk1, hk, rfl, hr⟩ := hrel
    have more : ∀ hlt : k < s.size, spU s[k] = true → Hid (A = qb8 spU (s.data.toList.drop (k + 1)) + (k + 1)) := fun hlt hg => v6 (by
      have := qi4 spU s.data.toList k (by omega) hg; rw [q9 hr, this]; omega)
    have done1 : ∀ hlt : k < s.size, spU s[k] = false → A = k := fun hlt hg => by
      have := qn6 spU s.data.toList k (by omega) hg; rw [q9 hr, this]; omega
    have done2 : ¬ k < s.size → A = k := fun hlt => by
      have := qq6 spU s.data.toList k (by omega); rw [q9 hr, this]; omega
    clear hr
    by_cases hlt : k < s.size
    · cases hg : spU s[k] with
      | true =>
        have HR := more hlt hg
        have Hg := v6 hg
        clear more done1 done2 hg
        go_wp2_with (go_at_call 130; refine (vi3 _ _).mono ?_; rintro e w' ⟨rfl, rfl⟩; rw [show spB (s[k].toNat : Int) = true from q9 Hg])
        go_round
        case rel => exact ⟨k + 1, by omega, by omega, by go_num, HR⟩
        case measure => simp [intOf]; omega
      | false =>
        have hA := done1 hlt hg
        have Hg := v6 hg
        clear more done1 done2 hg
        subst hA
        rw [if_pos (by omega)] at HT HZ
        have hx : (s.extract A s.size).data.toList = s.data.toList.drop A := Lib.extract_to_end s A
        have hfl := vy5 (s.data.toList.drop A) (by rw [List.length_drop]; omega)
        rw [List.length_drop, hl] at hfl
        have HX := v6 hx
        clear hx
        go_wp2_with (first | (go_at_call 130; refine (vi3 _ _).mono ?_; rintro e w' ⟨rfl, rfl⟩; rw [show spB (s[A].toNat : Int) = false from q9 Hg]) | (go_at_call 131; refine (first_any _ (by simp; omega) (by simp; omega) _ (q9 HE _)).mono ?_; rintro e w' ⟨rfl, hb⟩; obtain ⟨hc, hfz⟩ := j5 hb; have hz : w.heap.size < w'.heap.size := (by have := hb.size; simp at this; omega); rw [q9 HX]; simp only [tkV]))
        refine bodyPost_ret (by simp [results, Tryz.results84, go_sem, hc, hz]; rfl) rfl ⟨?_, ?_⟩
        all_goals go_light
        · rw [q9 HT, q9 HZ]; exact jp3 rfl (by omega)
        · exact (((((qc1 hb).setCell (by simp) _).setCell (by simp) _).setCell (by simp) _).setCell (by simp) _).alloc (by simp; omega) _
    · have hA := done2 hlt
      clear more done1 done2
      subst hA
      rw [if_neg (by omega)] at HT HZ
      go_wp2_with fail
      refine bodyPost_ret (by simp [results, Tryz.results84, go_sem]; rfl) rfl ⟨?_, ?_⟩
      all_goals go_light
      · rw [q9 HT, q9 HZ]; exact jp3 (t := qd5 0) (by omega) (by omega)
      · exact (Below.refl _ _).alloc (Nat.le_refl _) _
def nameB (l : List UInt8) : Bool := decide (0 < qb4 l) && decide (qb4 l = l.length) && (vm8 l == 2)
theorem jh0 {l : List UInt8} (h : qb4 l = l.length) : ∀ c ∈ l, c.toNat < 128 := by
  have := vr6 l
  rw [h, List.take_length] at this; exact this
set_option maxHeartbeats 400000 in
theorem jt9 (s : ByteArray) (hs : s.size ≤ 140737488355328) (w : World) :
    Calls Tryz.prog 97 #[.string s] w fun e w' => e = .returned (.bool (nameB s.data.toList)) ∧ Below w.heap.size w w' := by
  have hm : s.size ≤ maxLen := by unfold maxLen; omega
  have hl := qa9 s
  have hn : nameB s.data.toList = (decide (0 < qb4 s.data.toList) && decide (qb4 s.data.toList = s.size) && (vm8 s.data.toList == 2)) := by unfold nameB; rw [hl]
  have ha := fun h => jh0 (l := s.data.toList) h
  rw [hn]
  generalize hz : qb4 s.data.toList = z at *
  generalize hk : vm8 s.data.toList = k at *
  have HZ := v6 hz
  have HK := v6 hk
  clear hz hk hn
  by_cases h0 : 0 < z
  · by_cases h1 : z = s.size
    · have HA := v6 (ha (by omega))
      have h1' : ((z : Int) == (s.size : Int)) = true := beq_iff_eq.2 (by omega)
      have H1 := v6 h1
      clear ha h1
      go_enter Tryz.func97, Tryz.ntmps97
      go_wp2_with (first | (go_at_call 143; refine (qn0 _ hm _).mono ?_; rintro e w' ⟨rfl, rfl⟩; rw [q9 HZ]) | (go_at_call 144; refine (qx2 _ hs (q9 HA) _).mono ?_; rintro e w' ⟨rfl, hb⟩; rw [q9 HK]))
      all_goals (go_ret; exact ⟨qe3 (by have := q9 H1; simp_all), by assumption⟩)
    · have h1' : ((z : Int) == (s.size : Int)) = false := beq_eq_false_iff_ne.2 (by omega)
      have H1 := v6 h1
      clear ha h1
      go_enter Tryz.func97, Tryz.ntmps97
      go_wp2_with (first | (go_at_call 143; refine (qn0 _ hm _).mono ?_; rintro e w' ⟨rfl, rfl⟩; rw [q9 HZ]))
      go_ret
      exact ⟨qe3 (by have := q9 H1; simp [this]), Below.refl _ _⟩
  · clear ha
    go_enter Tryz.func97, Tryz.ntmps97
    go_wp2_with (first | (go_at_call 143; refine (qn0 _ hm _).mono ?_; rintro e w' ⟨rfl, rfl⟩; rw [q9 HZ]))
    go_ret
    exact ⟨qe3 (by simp; omega), Below.refl _ _⟩
end
end Go.Proofs.YtfkcaldjphakpabGreatDoor
