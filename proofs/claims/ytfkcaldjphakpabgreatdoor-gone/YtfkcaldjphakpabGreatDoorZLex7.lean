/- The contract of lex.quoted: the walk. -/
import Derived.Test.YtfkcaldjphakpabGreatDoorP01
namespace Go.Proofs.YtfkcaldjphakpabGreatDoor
open Go.RowKit
theorem jp6 {W w1 wr : World} {B : Nat} {v : Value} {n : Nat} {xs : List Value} {e : TypeId} (hb : Below B W wr) (hB : B ≤ wr.heap.size) (ho : wr.ownsRow B e 1 v n xs) (o : Obj)
    (hg : (wr.alloc o).grownBy w1 v.ownBlock) : Below B W w1 :=
  (hb.alloc hB o).grown hg (by simp; omega) fun k hk => (ho.lt k hk).1
theorem jq4 (c : UInt8) : ((c.toNat : Int) != 39) = !(c == 39) := by simp only [bne, u8_39]
theorem qx5 {l : List UInt8} {xs : List UInt8} {k : Nat} (h : qe5 (l.drop 1) = some (xs, k)) : qn0 l = ⟨4, 0, xs⟩ ∧ vb1 l = k + 1 := by
  unfold qn0 vb1; rw [h]; exact ⟨rfl, rfl⟩
theorem vx1 {l : List UInt8} (h : qe5 (l.drop 1) = none) : qn0 l = z7 1 ∧ vb1 l = l.length := by
  unfold qn0 vb1; rw [h]; exact ⟨rfl, rfl⟩
set_option maxHeartbeats 800000 in
set_option maxRecDepth 100000 in
theorem js7 (s : ByteArray) (h0 : 0 < s.size) (hs : s.size ≤ 140737488355328) (w : World) :
    Calls Tryz.prog 179 #[.string s] w fun e w' => e = .returned (.tuple #[tkV (qn0 s.data.toList) 0, .int .i64 (vb1 s.data.toList)]) ∧ Below w.heap.size w w' := by
  have hl := qb3 s
  obtain ⟨i0, hi, hz0, hz1, hz2⟩ := info_parts Tryz.info5u
  obtain ⟨TK, hTK⟩ : ∃ t, qn0 s.data.toList = t := ⟨_, rfl⟩
  obtain ⟨Z, hZ⟩ : ∃ t, vb1 s.data.toList = t := ⟨_, rfl⟩
  rw [hTK, hZ]
  have HTK := v6 hTK
  have HZ := v6 hZ
  clear hTK hZ
  go_enter Tryz.func179, Tryz.ntmps179
  go_wp2_with fail
  go_loopw [4, 5] (fun v i wr => ∃ (k : Nat) (xs : List UInt8), 1 ≤ k ∧ k ≤ s.size ∧ i = .int .i64 k ∧ Hid (QAt s.data.toList k xs) ∧ xs.length < k ∧ wr.ownsRow (w.heap.size + 1) 5 1 v xs.length (xs.map fun c => .int .u8 (c.toNat : Int)) ∧ Below (w.heap.size + 1) (w.alloc (.cells #[.int .i64 0, .int .i64 0, .int .i64 0, .string ⟨#[]⟩] 127)) wr)
    (fun _ i _ => s.size - (intOf i).toNat)
  case atStart => exact ⟨1, [], Nat.le_refl _, by omega, rfl, v6 (QAt.start _), by simp, World.ownsRow_nil _ _ _ _, Below.refl _ _⟩
  case round =>
    obtain ⟨k, xs, hk1, hk, rfl, hq, hxl, hown, hb⟩ := hrel
    have hbs : w.heap.size + 1 ≤ wr.heap.size := by have := hb.size; simpa using this
    have hcv := conv_own hown
    have hb' : Below (w.alloc (.cells #[.int .i64 0, .int .i64 0, .int .i64 0, .string ⟨#[]⟩] 127)).heap.size (w.alloc (.cells #[.int .i64 0, .int .i64 0, .int .i64 0, .string ⟨#[]⟩] 127)) wr := by simpa using hb
    obtain ⟨hc0, hf0⟩ := j6 hb'
    by_cases hlt : k < s.size
    · cases hc : (s[k] == 39) with
      | false =>
        have HQ : Hid (QAt s.data.toList (k + 1) (xs ++ [s[k]])) := v6 ((q9 hq).one hk1 (by omega) (by rw [qc7 s k hlt]; simpa using hc))
        have hc' : ((s[k].toNat : Int) == 39) = false := by rw [u8_39]; exact hc
        clear hc hq
        go_wp2_with (at_builtin; refine wpList_append_own _ rfl _ _ 36 rfl (w.heap.size + 1) 5 i0 (.int .u8 0) 1 1 Tryz.underlying36 hi hz0 hz1 hz2 rfl (by decide) _ _ _ rfl (hown.alloc _) ⟨wr.heap.size, 0, none⟩ 1 1 [.int .u8 (s[k].toNat : Int)] rfl rfl ?c1 ?c2 ?c3 ?c4 ?c5 ?_)
        case c1 =>
          intro j u hj
          match j, hj with
          | 0, hj => simp at hj; subst hj; simp [Addr.add]
        case c2 => intro u hu; simp at hu; subst hu; rfl
        case c3 => unfold maxLen; omega
        case c4 => omega
        case c5 => simp; omega
        intro v' w1 hown' hgrow _
        have hb1 := jp6 hb hbs hown _ hgrow
        have hown1 : w1.ownsRow (w.heap.size + 1) 5 1 v' (xs ++ [s[k]]).length ((xs ++ [s[k]]).map fun c => .int .u8 (c.toNat : Int)) := by simpa using hown'
        clear hown' hgrow hown hcv hb hbs hb' hc0 hf0
        go_wp2_with fail
        go_roundw
        case rel => exact ⟨k + 1, xs ++ [s[k]], by omega, by omega, by go_num, HQ, by simp; omega, hown1, hb1⟩
        case measure => simp [intOf]; omega
      | true =>
        have hc' : ((s[k].toNat : Int) == 39) = true := by rw [u8_39]; exact hc
        have hk39 : s.data.toList[k]'(by omega) = 39 := by rw [qc7 s k hlt]; simpa using hc
        by_cases h2 : k + 1 < s.size
        · cases hd : (s[k + 1] == 39) with
          | true =>
            have HQ : Hid (QAt s.data.toList (k + 2) (xs ++ [39])) := v6 ((q9 hq).two hk1 (by omega) hk39 (by rw [qc7 s (k + 1) h2]; simpa using hd))
            have hd1 : ((s[k + 1].toNat : Int) != 39) = false := by rw [jq4, hd]; rfl
            have hd2 : (s[k + 1].toNat : Int) = 39 := by rw [show s[k + 1] = 39 by simpa using hd]; rfl
            have he : ((k : Int) + 1 == (s.size : Int)) = false := beq_eq_false_iff_ne.2 (by omega)
            clear hc hq hd hk39
            go_wp2_with (at_builtin; refine wpList_append_own _ rfl _ _ 36 rfl (w.heap.size + 1) 5 i0 (.int .u8 0) 1 1 Tryz.underlying36 hi hz0 hz1 hz2 rfl (by decide) _ _ _ rfl (hown.alloc _) ⟨wr.heap.size, 0, none⟩ 1 1 [.int .u8 39] rfl rfl ?c1 ?c2 ?c3 ?c4 ?c5 ?_)
            case c1 =>
              intro j u hj
              match j, hj with
              | 0, hj => simp at hj; subst hj; simp [Addr.add]
            case c2 => intro u hu; simp at hu; subst hu; rfl
            case c3 => unfold maxLen; omega
            case c4 => omega
            case c5 => simp; omega
            intro v' w1 hown' hgrow _
            have hb1 := jp6 hb hbs hown _ hgrow
            have hown1 : w1.ownsRow (w.heap.size + 1) 5 1 v' (xs ++ [(39 : UInt8)]).length ((xs ++ [(39 : UInt8)]).map fun c => .int .u8 (c.toNat : Int)) := by simpa using hown'
            clear hown' hgrow hown hcv hb hbs hb' hc0 hf0
            go_wp2_with fail
            go_roundw
            case rel => exact ⟨k + 2, xs ++ [39], by omega, by omega, by go_num, HQ, by simp; omega, hown1, hb1⟩
            case measure => simp [intOf]; omega
          | false =>
            have HC : Hid (qe5 (s.data.toList.drop 1) = some (xs, k)) := v6 ((q9 hq).close hk1 (by omega) hk39 (fun _ => by rw [qc7 s (k + 1) h2]; simpa using hd))
            have hd1 : ((s[k + 1].toNat : Int) != 39) = true := by rw [jq4, hd]; rfl
            have he : ((k : Int) + 1 == (s.size : Int)) = false := beq_eq_false_iff_ne.2 (by omega)
            clear hc hq hd hk39
            go_wp2_with fail
            refine bodyPost_ret (by simp [results, Tryz.results179, go_sem, hc0]; rfl) rfl ⟨?_, ?_⟩
            all_goals go_light
            · exact qu8 (by rw [← q9 HTK, (qx5 (q9 HC)).1]) (by rw [← q9 HTK, (qx5 (q9 HC)).1]) (by rw [← q9 HTK, (qx5 (q9 HC)).1]) (by rw [← q9 HZ, (qx5 (q9 HC)).2]; go_num)
            · exact (((((qc4 hb').setCell (by simp) _).setCell (by simp) _).setCell (by simp) _).setCell (by simp) _)
        · have HC : Hid (qe5 (s.data.toList.drop 1) = some (xs, k)) := v6 ((q9 hq).close hk1 (by omega) hk39 (fun h => absurd h (by omega)))
          have he : ((k : Int) + 1 == (s.size : Int)) = true := beq_iff_eq.2 (by omega)
          clear hc hq hk39
          go_wp2_with fail
          refine bodyPost_ret (by simp [results, Tryz.results179, go_sem, hc0]; rfl) rfl ⟨?_, ?_⟩
          all_goals go_light
          · exact qu8 (by rw [← q9 HTK, (qx5 (q9 HC)).1]) (by rw [← q9 HTK, (qx5 (q9 HC)).1]) (by rw [← q9 HTK, (qx5 (q9 HC)).1]) (by rw [← q9 HZ, (qx5 (q9 HC)).2]; go_num)
          · exact (((((qc4 hb').setCell (by simp) _).setCell (by simp) _).setCell (by simp) _).setCell (by simp) _)
    · have HN : Hid (qe5 (s.data.toList.drop 1) = none) := v6 ((q9 hq).over (by omega))
      clear hq
      go_wp2_with fail
      refine bodyPost_ret (by simp [results, Tryz.results179, go_sem, hc0]; rfl) rfl ⟨?_, ?_⟩
      all_goals go_light
      · exact qu8 (by rw [← q9 HTK, (vx1 (q9 HN)).1]; rfl) (by rw [← q9 HTK, (vx1 (q9 HN)).1]; rfl) (by rw [← q9 HTK, (vx1 (q9 HN)).1]; rfl) (by rw [← q9 HZ, (vx1 (q9 HN)).2, hl])
      · exact (((((qc4 hb').setCell (by simp) _).setCell (by simp) _).setCell (by simp) _).setCell (by simp) _)
end Go.Proofs.YtfkcaldjphakpabGreatDoor
