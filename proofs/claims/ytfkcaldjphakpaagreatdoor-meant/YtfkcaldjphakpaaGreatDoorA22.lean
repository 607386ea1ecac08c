/- core.among of any texts. Canon of any text. -/
import Derived.Test.YtfkcaldjphakpaaGreatDoorA21
import Derived.Test.YtfkcaldjphakpaaGreatDoorA25
namespace Go.Proofs.YtfkcaldjphakpaaGreatDoor
open Go.RowKit

section
/-- What among has found when the first k texts have come. -/
def foundC (x : Co) : List (List UInt8) → Nat → Co
  | [], _ => x
  | t :: r, k => orAll x (pairC 8 x (textC t)) (r.take (k - 1))
theorem orAll_snoc (x : Co) : ∀ (l : List (List UInt8)) (f : Co) (t : List UInt8), orAll x f (l ++ [t]) = pairC 7 (orAll x f l) (pairC 8 x (textC t)) := by
  intro l
  induction l with
  | nil => intro f t; rfl
  | cons a l ih => intro f t; exact ih _ t
theorem foundC_one (x : Co) {zs : List (List UInt8)} {t : List UInt8} (h : zs[0]? = some t) : foundC x zs 1 = pairC 8 x (textC t) := by
  cases zs with
  | nil => simp at h
  | cons a r => simp at h; subst h; simp [foundC, orAll]
theorem foundC_succ (x : Co) {zs : List (List UInt8)} {k : Nat} {t : List UInt8} (hk : 0 < k) (h : zs[k]? = some t) : foundC x zs (k + 1) = pairC 7 (foundC x zs k) (pairC 8 x (textC t)) := by
  cases zs with
  | nil => simp at h
  | cons a r =>
    obtain ⟨j, rfl⟩ : ∃ j, k = j + 1 := ⟨k - 1, by omega⟩
    have h' : r[j]? = some t := by simpa using h
    show orAll x (pairC 8 x (textC a)) (r.take (j + 1 + 1 - 1)) = pairC 7 (orAll x (pairC 8 x (textC a)) (r.take (j + 1 - 1))) _
    rw [show j + 1 + 1 - 1 = j + 1 by omega, show j + 1 - 1 = j by omega, List.take_add_one, h']
    exact orAll_snoc x _ _ t
theorem foundC_all (x : Co) (ts : List (List UInt8)) : foundC x (sortT ts) (sortT ts).length = amongC x ts := by
  unfold amongC
  cases sortT ts with
  | nil => rfl
  | cons a r =>
    show orAll x _ (r.take (r.length + 1 - 1)) = _
    rw [show r.length + 1 - 1 = r.length by omega, List.take_length]
theorem foundC_len (x : Co) (zs : List (List UInt8)) (k : Nat) (h : ∀ t ∈ zs, t.length ≤ 200) (hl : zs.length ≤ 200) (hx : (spell x).length ≤ 402) : (spell (foundC x zs k)).length ≤ 1000000 := by
  cases zs with
  | nil => show (spell x).length ≤ _; omega
  | cons a r =>
    have h1 := orAll_len x (r.take (k - 1)) (pairC 8 x (textC a)) (fun t ht => h t (List.mem_cons_of_mem _ (List.mem_of_mem_take ht)))
    rw [spell_pair 8 rfl rfl] at h1
    have h2 := textC_len a (h a List.mem_cons_self)
    have e8 : (signL 8).length = 1 := rfl
    have h3 : (r.take (k - 1)).length ≤ 200 := by
      have := List.length_take_le (k - 1) r
      simp at hl
      have h4 : (r.take (k - 1)).length ≤ r.length := by rw [List.length_take]; omega
      omega
    have h5 : (r.take (k - 1)).length * ((spell x).length + 420) ≤ 200 * 822 := Nat.mul_le_mul h3 (by omega)
    show (spell (orAll x (pairC 8 x (textC a)) (r.take (k - 1)))).length ≤ _
    omega

/-- What among has in hand. -/
def FoundAt (B : Nat) (W : World) (x : Co) (zs : List (List UInt8)) (k : Nat) (v : Value) : Prop := (k = 0 ∧ v = .pointer none) ∨ (0 < k ∧ ∃ b, v = .pointer (some ⟨b, 0, none⟩) ∧ CoAt B W.heap.size W v (foundC x zs k))

set_option maxHeartbeats 2000000 in
set_option maxRecDepth 100000 in
theorem amongOk : AmongOk := by
  intro lo B w x vx tv ts hB hL hx ht hne h200 hlen hsx
  obtain ⟨bx, rfl⟩ := hx.ptr
  obtain ⟨b, cap, rfl, _, hb, hcells⟩ : ∃ g cap, tv = .slice (some ⟨g, 0, none⟩) ts.length cap ∧ lo < g ∧ g < w.heap.size ∧ ∀ (j : Nat) (t : List UInt8), ts[j]? = some t → w.cell? ⟨g, j, none⟩ = some (.string (BS t)) := by
    rcases ht with ⟨h1, _⟩ | h
    · exact absurd h1 hne
    · exact h
  obtain ⟨w1, hw1⟩ : ∃ w1, w1 = w.alloc (.cells #[.slice (some ⟨b, 0, none⟩) ts.length cap] 62) := ⟨_, rfl⟩
  have hb1 : Below w.heap.size w w1 := by rw [hw1]; exact (Below.refl _ _).alloc (Nat.le_refl _) _
  have hz1 : w1.heap.size = w.heap.size + 1 := by rw [hw1]; simp
  have VA := hide (values_any (some ⟨b, 0, none⟩) ts.length cap w)
  rw [← hw1] at VA
  have SO := hide (sorted_any w.heap.size b cap ts hne (by omega) w1 (by omega) (by omega) (by rw [hw1]; simp [go_sem]) (fun j hj => by
    have e : ts[j]? = some (ts[j]?.getD []) := by rw [List.getElem?_eq_getElem hj]; rfl
    exact (hb1.cell (p := ⟨b, j, none⟩) hb).trans (hcells j _ e)))
  have CP : Hid (∀ g c w2, TxRow w2 w1.heap.size (.slice (some ⟨g, 0, none⟩) ts.length c) (ordT ts) → Below w1.heap.size w1 w2 → Calls Tryz.prog 165 #[.slice (some ⟨g, 0, none⟩) ts.length c] w2 fun e w3 => e = .returned (.slice (some ⟨g, 0, none⟩) (sortT ts).length c) ∧ Hid ((∀ j t, (sortT ts)[j]? = some t → w3.cell? ⟨g, j, none⟩ = some (.string (BS t))) ∧ g < w3.heap.size ∧ Below w.heap.size w w3)) := hide (by
    intro g c w2 h1 h2
    have := compact_texts g c (ordT ts) w1.heap.size w2 (by rw [ordT_length]; exact h1) (by rw [ordT_length]; omega)
    rw [ordT_length] at this
    refine this.mono ?_
    rintro e w3 ⟨rfl, H⟩
    obtain ⟨a1, a2, a3, a4⟩ := unhide H
    refine ⟨rfl, hide ⟨a1, a3, ?_⟩⟩
    have hb2 : Below w.heap.size w w2 := below_any hb1 h2
    exact hb2.grown a4 hb2.size (fun j hj => by
      have e : g = j := by simpa using hj
      omega))
  have HZ : Hid (∀ t ∈ sortT ts, t.length ≤ 200) := hide fun t ht => hlen t (sortT_mem ht)
  have hm200 : (sortT ts).length ≤ 200 := Nat.le_trans (sortT_len ts) h200
  have hmne : (sortT ts).length ≠ 0 := fun e => sortT_ne hne (List.eq_nil_of_length_eq_zero e)
  have HALL : Hid (foundC x (sortT ts) (sortT ts).length = amongC x ts) := hide (foundC_all x ts)
  have HX : Hid (∀ W, Below w.heap.size w W → CoAt B W.heap.size W (.pointer (some ⟨bx, 0, none⟩)) x) := hide fun W hW => hx.below hW
  have HLB : Hid (∀ W, Below w.heap.size w W → LibOk W) := hide fun W hW => hL.below hW (Nat.le_refl _)
  obtain ⟨zs, hzs⟩ : ∃ zs, sortT ts = zs := ⟨_, rfl⟩
  rw [hzs] at CP HZ hm200 hmne HALL
  obtain ⟨n, hn⟩ : ∃ n, ts.length = n := ⟨_, rfl⟩
  rw [hn] at VA SO CP ⊢
  obtain ⟨m, hm⟩ : ∃ m, zs.length = m := ⟨_, rfl⟩
  rw [hm] at CP hm200 hmne HALL
  have HM := hide hm
  clear hzs hn hm hw1 hL hx ht hne hlen hcells
  go_enter Tryz.func114, Tryz.ntmps114
  go_wp2_with (first | (go_at_call 167; refine (unhide VA).mono ?_; rintro e w1' ⟨rfl, rfl⟩) | (go_at_call 166; refine (unhide SO).mono ?_; rintro e w2 ⟨g2, c2, rfl, h1, h2⟩; have H1 := hide h1; have H2 := hide h2; clear h1 h2) | (go_at_call 165; refine (unhide CP g2 c2 w2 (unhide H1) (unhide H2)).mono ?_; rintro e w3 ⟨rfl, H3⟩))
  go_loopw [5, 14] (fun v i wr => ∃ k : Nat, k ≤ m ∧ i = .int .i64 k ∧ Hid (FoundAt B wr x zs k v) ∧ Hid (Below w3.heap.size w3 wr)) (fun _ i _ => m - (intOf i).toNat)
  case atStart => exact ⟨0, Nat.zero_le _, rfl, hide (.inl ⟨rfl, rfl⟩), hide (Below.refl _ _)⟩
  case round =>
    obtain ⟨k, hk, rfl, FA, HB⟩ := hrel
    by_cases hlt : k < m
    · obtain ⟨t, ht⟩ : ∃ t, zs[k]? = some t := ⟨_, List.getElem?_eq_getElem (by have := unhide HM; omega)⟩
      have htl : t.length ≤ 200 := unhide HZ t (List.mem_of_getElem? ht)
      obtain ⟨a1, a2, a3⟩ := unhide H3
      have d0 : wr.cell? ⟨g2, k, none⟩ = some (.string (BS t)) := ((unhide HB).cell (p := ⟨g2, k, none⟩) a2).trans (a1 k t ht)
      have hBw : Below w.heap.size w wr := below_any a3 (unhide HB)
      have hzw := hBw.size
      have hk0 : (0 : Int) ≤ (k : Int) := by omega
      have hk1 : (k : Int) < (m : Int) := by omega
      have SP : Hid (Calls Tryz.prog 115 #[.agg #[.int .i64 2, .pointer none, .pointer none, .int .i64 0, .string (BS t), .string ⟨#[]⟩, .string ⟨#[]⟩]] wr fun e w' => ∃ b, e = .returned (.pointer (some ⟨b, 0, none⟩)) ∧ CoAt B w'.heap.size w' (.pointer (some ⟨b, 0, none⟩)) (textC t) ∧ Below wr.heap.size wr w') := hide (spelled_leaf ⟨2, 0, t, []⟩ rfl rng0 (by show t.length ≤ _; omega) (Nat.zero_le _) (by omega) (unhide HLB wr hBw))
      have P8 : Hid (∀ w4 b4, CoAt B w4.heap.size w4 (.pointer (some ⟨b4, 0, none⟩)) (textC t) → Below wr.heap.size wr w4 → Calls Tryz.prog 111 #[.int .i64 8, .pointer (some ⟨bx, 0, none⟩), .pointer (some ⟨b4, 0, none⟩)] w4 fun e w' => ∃ b, e = .returned (.pointer (some ⟨b, 0, none⟩)) ∧ CoAt B w'.heap.size w' (.pointer (some ⟨b, 0, none⟩)) (pairC 8 x (textC t)) ∧ Below wr.heap.size wr w') := hide (by
        intro w4 b4 h1 h2
        have h3 := below_any hBw h2
        refine (pair_any 8 (by have := h3.size; omega) (unhide HLB w4 h3) (unhide HX w4 h3) h1 (by omega) (by have := textC_len t htl; omega)).mono ?_
        rintro e w' ⟨b, rfl, q1, q2⟩
        exact ⟨b, rfl, q1, below_any h2 q2⟩)
      rcases unhide FA with ⟨rfl, rfl⟩ | ⟨hpos, b5, rfl, hc5⟩
      · have H1C : Hid (foundC x zs 1 = pairC 8 x (textC t)) := hide (foundC_one x ht)
        clear FA a1 a2 a3 ht HZ
        go_wp2_with (first | (go_at_call 115; refine (unhide SP).mono ?_; rintro e w4 ⟨b4, rfl, h1, h2⟩; have C4 := hide h1; have B4 := hide h2; clear h1 h2) | (go_at_call 111; refine (unhide P8 w4 b4 (unhide C4) (unhide B4)).mono ?_; rintro e w5 ⟨b5, rfl, h1, h2⟩; have C5 := hide h1; have B5 := hide h2; clear h1 h2))
        exact ⟨⟨1, by omega, rfl, hide (.inr ⟨by omega, b5, rfl, by rw [unhide H1C]; exact unhide C5⟩), hide (below_any (unhide HB) (unhide B5))⟩, by simp [intOf]; omega⟩
      · have HSC : Hid (foundC x zs (k + 1) = pairC 7 (foundC x zs k) (pairC 8 x (textC t))) := hide (foundC_succ x hpos ht)
        have P7 : Hid (∀ w5 b6, CoAt B w5.heap.size w5 (.pointer (some ⟨b6, 0, none⟩)) (pairC 8 x (textC t)) → Below wr.heap.size wr w5 → Calls Tryz.prog 111 #[.int .i64 7, .pointer (some ⟨b5, 0, none⟩), .pointer (some ⟨b6, 0, none⟩)] w5 fun e w' => ∃ b, e = .returned (.pointer (some ⟨b, 0, none⟩)) ∧ CoAt B w'.heap.size w' (.pointer (some ⟨b, 0, none⟩)) (foundC x zs (k + 1)) ∧ Below wr.heap.size wr w') := hide (by
          intro w5 b6 h1 h2
          have h3 := below_any hBw h2
          have hl8 : (spell (pairC 8 x (textC t))).length ≤ 1000000 := by
            rw [spell_pair 8 rfl rfl]
            have := textC_len t htl
            have e8 : (signL 8).length = 1 := rfl
            omega
          have hlf := foundC_len x zs k (unhide HZ) (by rw [unhide HM]; exact hm200) hsx
          rw [unhide HSC]
          refine (pair_any 7 (by have := h3.size; omega) (unhide HLB w5 h3) (hc5.below h2) h1 (by omega) (by omega)).mono ?_
          rintro e w' ⟨b, rfl, q1, q2⟩
          exact ⟨b, rfl, q1, below_any h2 q2⟩)
        clear FA a1 a2 a3 ht hc5 HSC
        go_wp2_with (first | (go_at_call 115; refine (unhide SP).mono ?_; rintro e w4 ⟨b4, rfl, h1, h2⟩; have C4 := hide h1; have B4 := hide h2; clear h1 h2) | (go_at_call 111; refine (unhide P8 w4 b4 (unhide C4) (unhide B4)).mono ?_; clear P8; rintro e w5 ⟨b6, rfl, h1, h2⟩; have C5 := hide h1; have B5 := hide h2; clear h1 h2) | (go_at_call 111; refine (unhide P7 w5 b6 (unhide C5) (unhide B5)).mono ?_; rintro e w6 ⟨b7, rfl, h1, h2⟩; have C6 := hide h1; have B6 := hide h2; clear h1 h2))
        exact ⟨⟨k + 1, by omega, rfl, hide (.inr ⟨by omega, b7, rfl, unhide C6⟩), hide (below_any (unhide HB) (unhide B6))⟩, by simp [intOf]; omega⟩
    · have hkm : k = m := by omega
      subst hkm
      rcases unhide FA with ⟨h0, _⟩ | ⟨_, b5, rfl, hc5⟩
      · exact absurd h0 hmne
      · have C5 := hide hc5
        clear hc5 FA
        have HBw : Hid (Below w.heap.size w wr) := hide (below_any (unhide H3).2.2 (unhide HB))
        go_wp2_with fail
        go_ret
        exact ⟨b5, rfl, by rw [← unhide HALL]; exact unhide C5, unhide HBw⟩
end

section
/-- How Canon ends. -/
def CnEnds (w : World) (r : RRes) (e : Ending) (w' : World) : Prop := Below w.heap.size w w' ∧ match r with
  | .ok t => e = .returned (.tuple #[.string (BS (spell (coreA t))), .int .i64 0, .int .i64 0])
  | .err en pl => e = .returned (.tuple #[.string ⟨#[]⟩, .int .i64 en, .int .i64 pl])

set_option maxHeartbeats 2000000 in
theorem canon_any (s : ByteArray) (hs : s.size ≤ 140737488355328) (w : World) (hL : LibOk w) : Calls Tryz.prog 28 #[.string s] w (CnEnds w (readR s)) := by
  have RD := hide (read_any s w hL.err hs)
  cases hrd : readR s with
  | ok t =>
    rw [hrd] at RD
    have CO : Hid (∀ (lo : Nat) (U : World) (v : Value), Below w.heap.size w U → IsNode lo U v t → Calls Tryz.prog 40 #[v] U fun e w' => ∃ b, e = .returned (.pointer (some ⟨b, 0, none⟩)) ∧ w'.cell? ⟨b, 6, none⟩ = some (.string (BS (spell (coreA t)))) ∧ Below w.heap.size w w') := hide (by
      intro lo U v hU hn
      refine (cof_every lo t (fun _ => amongOk) (ok_of_read hrd) U.heap.size U v (Nat.le_refl _) (hL.below hU (Nat.le_refl _)) hn).mono ?_
      rintro e w' ⟨b, rfl, h1, h2⟩
      obtain ⟨b', e', _, h3⟩ := h1.text
      have eb : b = b' := by injection e' with e'; injection e' with e'; injection e' with e'
      subst eb
      exact ⟨b, rfl, h3, below_any hU h2⟩)
    obtain ⟨S, hS⟩ : ∃ S, spell (coreA t) = S := ⟨_, rfl⟩
    unfold CnEnds
    simp only
    rw [hS] at CO ⊢
    clear hrd hL hS
    go_enter Tryz.func28, Tryz.ntmps28
    go_wp2_with (first | (go_at_call 36; refine (unhide RD).mono ?_; rintro e w2 ⟨hb2, v2, rfl, hn2⟩; obtain ⟨vb, rfl⟩ := hn2.ptr; have N2 := hide hn2; have B2 := hide hb2; clear hn2 hb2) | (go_at_call 40; refine (unhide CO _ _ _ (unhide B2) (unhide N2)).mono ?_; rintro e w3 ⟨b3, rfl, c3, hb3⟩; have B3 := hide hb3; clear hb3))
    refine bodyPost_ret (by simp [results, Tryz.results28, go_sem] <;> rfl) rfl ?_
    exact ⟨unhide B3, rfl⟩
  | err en pl =>
    rw [hrd] at RD
    have he := read_err_pos hrd
    have hd : (en != 0) = true := by simp; omega
    unfold CnEnds
    simp only
    clear hrd hL he
    go_enter Tryz.func28, Tryz.ntmps28
    go_wp2_with (go_at_call 36; refine (unhide RD).mono ?_; rintro e w2 ⟨hb2, rfl⟩; have B2 := hide hb2; clear hb2)
    refine bodyPost_ret (by simp [results, Tryz.results28, go_sem] <;> rfl) rfl ?_
    exact ⟨unhide B2, rfl⟩
end

end Go.Proofs.YtfkcaldjphakpaaGreatDoor
