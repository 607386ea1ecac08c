/- Texts in a slice: Values, Collect, Sorted, Compact, one behind the other. core.among of any texts. -/
import Derived.Test.YtfkcaldjphakpabGreatDoorT33
import Derived.Test.YtfkcaldjphakpabGreatDoorT26
import Derived.Test.YtfkcaldjphakpabGreatDoorT31
import Derived.Test.YtfkcaldjphakpabGreatDoorShelf3
import Derived.Sort.OwnSorted
namespace Go.Proofs.YtfkcaldjphakpabGreatDoor
open Go.RowKit
section
open Go.RowKit Go.Sort Go.Shelf
def tCells (ts : List (List UInt8)) : List Value := ts.map encStr
def jc4 (w : World) (base : Nat) (v : Value) (ts : List (List UInt8)) : Prop := w.ownsRow base 9 1 v ts.length (tCells ts)
set_option maxHeartbeats 1000000 in
theorem jy6 (a : Option Addr) (n cap : Nat) (w : World) : Calls Tryz.prog 141 #[.slice a n cap] w fun e w' => e = .returned (.func (.func 188) #[] #[.pointer (some ⟨w.heap.size, 0, none⟩)]) ∧ w' = w.alloc (.cells #[.slice a n cap] 30) := by
  have hmf : ∀ (fn : Fn) (first cap : Array Value) (w : World), (Instr.makeFunc fn first cap).run Tryz.prog w = .ok (.func fn first cap) w := fun _ _ _ _ => rfl
  go_enter Tryz.func141, Tryz.ntmps141
  go_wp2_with fail
  go_ret
  exact ⟨rfl, rfl⟩
set_option maxHeartbeats 1000000 in
theorem jd2 (Bs b cap : Nat) (ts : List (List UInt8)) (hne : ts ≠ []) (hlen : ts.length ≤ 1000) (w : World) (hb : b < w.heap.size) (hBs : Bs < w.heap.size)
    (hc : w.cell? ⟨Bs, 0, none⟩ = some (.slice (some ⟨b, 0, none⟩) ts.length cap)) (hcs : ∀ j, j < ts.length → w.cell? ⟨b, j, none⟩ = some (.string (BS (ts[j]?.getD [])))) :
    Calls Tryz.prog 186 #[.func (.func 188) #[] #[.pointer (some ⟨Bs, 0, none⟩)]] w fun e w' => ∃ g c, e = .returned (.slice (some ⟨g, 0, none⟩) ts.length c) ∧ jc4 w' w.heap.size (.slice (some ⟨g, 0, none⟩) ts.length c) ts ∧ Below w.heap.size w w' := by
  have A : Hid (Calls Tryz.prog 217 #[.slice none 0 0, .func (.func 188) #[] #[.pointer (some ⟨Bs, 0, none⟩)]] w fun e w' => ∃ g c, e = .returned (.slice (some ⟨g, 0, none⟩) ts.length c) ∧ jc4 w' w.heap.size (.slice (some ⟨g, 0, none⟩) ts.length c) ts ∧ Below w.heap.size w w') := v6 (((callsIn_wide (n := 5)).1 (vx3 5 (by omega) Bs b cap ts hlen w hb hBs hc hcs)).mono (by
    rintro e w' ⟨v, rfl, h1, h2⟩
    rcases qd6 h1 with ⟨_, h0⟩ | ⟨g, c, rfl⟩
    · exact absurd (List.eq_nil_of_length_eq_zero h0) hne
    · exact ⟨g, c, rfl, h1, h2⟩))
  clear hc hcs
  go_enter Tryz.func186, Tryz.ntmps186
  go_wp2_with (go_at_call 217; refine (q9 A).mono ?_; rintro e w1 ⟨g, c, rfl, h1, h2⟩; have H1 := v6 h1; have H2 := v6 h2; clear h1 h2)
  go_ret
  exact ⟨g, c, rfl, q9 H1, q9 H2⟩
def ordT (ts : List (List UInt8)) : List (List UInt8) := ts.mergeSort fun x y => decide (x ≤ y)
theorem qq5 (ts : List (List UInt8)) : (ordT ts).length = ts.length := List.length_mergeSort ts
set_option maxHeartbeats 1000000 in
theorem jx7 (Bs b cap : Nat) (ts : List (List UInt8)) (hne : ts ≠ []) (hlen : ts.length ≤ 1000) (w : World) (hb : b < w.heap.size) (hBs : Bs < w.heap.size)
    (hc : w.cell? ⟨Bs, 0, none⟩ = some (.slice (some ⟨b, 0, none⟩) ts.length cap)) (hcs : ∀ j, j < ts.length → w.cell? ⟨b, j, none⟩ = some (.string (BS (ts[j]?.getD [])))) :
    Calls Tryz.prog 140 #[.func (.func 188) #[] #[.pointer (some ⟨Bs, 0, none⟩)]] w fun e w' => ∃ g c, e = .returned (.slice (some ⟨g, 0, none⟩) ts.length c) ∧ jc4 w' w.heap.size (.slice (some ⟨g, 0, none⟩) ts.length c) (ordT ts) ∧ Below w.heap.size w w' := by
  have CO := v6 (jd2 Bs b cap ts hne hlen w hb hBs hc hcs)
  have SO : Hid (∀ g c w1, jc4 w1 w.heap.size (.slice (some ⟨g, 0, none⟩) ts.length c) ts → Below w.heap.size w w1 → Calls Tryz.prog 187 #[.slice (some ⟨g, 0, none⟩) ts.length c] w1 fun e w' => e = .returned (.tuple #[]) ∧ Hid (jc4 w' w.heap.size (.slice (some ⟨g, 0, none⟩) ts.length c) (ordT ts) ∧ Below w.heap.size w w')) := v6 (by
    intro g c w1 h1 h2
    obtain ⟨hbg, hnc, hcm, cur, hcur, hcs', hct⟩ := qe1 h1
    rw [Nat.mul_one] at hct
    have hH : Holds encStr w1 g 0 ts.toArray := holds_of_block hcur hct
    refine (Tryz.slices_Sort_string g 0 c ts w1 hH (Array.getElem?_eq_some_iff.1 hcur).1 (by omega)).mono ?_
    rintro e w' ⟨rfl, k, os, rfl⟩
    refine ⟨rfl, v6 ⟨?_, ?_⟩⟩
    · have := ownsRow_sorted (n := k) (os := os) (qq5 ts) hbg hcur hnc hcm hcs'
      show World.ownsRow _ _ _ _ _ _ _
      rw [qq5]
      exact this
    · exact h2.grown (grownBy_sorted _) h2.size (fun j hj => by cases hj; exact hbg))
  obtain ⟨n, hn⟩ : ∃ n, ts.length = n := ⟨_, rfl⟩
  rw [hn] at CO SO ⊢
  clear hc hcs hn hlen
  go_enter Tryz.func140, Tryz.ntmps140
  go_wp2_with (first | (go_at_call 186; refine (q9 CO).mono ?_; rintro e w1 ⟨g, c, rfl, h1, h2⟩; have H1 := v6 h1; have H2 := v6 h2; clear h1 h2) | (go_at_call 187; refine (q9 SO g c w1 (q9 H1) (q9 H2)).mono ?_; rintro e w2 ⟨rfl, H3⟩))
  go_ret
  exact ⟨g, c, rfl, (q9 H3).1, (q9 H3).2⟩
theorem vs5 (g c : Nat) (zs : List (List UInt8)) (base : Nat) (w : World) (h : jc4 w base (.slice (some ⟨g, 0, none⟩) zs.length c) zs) (hlen : zs.length ≤ 1000) :
    Calls Tryz.prog 139 #[.slice (some ⟨g, 0, none⟩) zs.length c] w fun e w' => e = .returned (.slice (some ⟨g, 0, none⟩) (Lib.compact zs).length c) ∧ Hid ((∀ j t, (Lib.compact zs)[j]? = some t → w'.cell? ⟨g, j, none⟩ = some (.string (BS t))) ∧ base ≤ g ∧ g < w'.heap.size ∧ w.grownBy w' (some g)) := by
  obtain ⟨hbg, hnc, hcm, cur, hcur, hcs', hct⟩ := qe1 h
  rw [Nat.mul_one] at hct
  have hH : Holds encStr w g 0 zs.toArray := holds_of_block hcur hct
  refine (Tryz.slices_Compact_string g 0 c zs w hH (by omega) hnc).mono ?_
  rintro e w' ⟨rfl, q, rfl⟩
  have hcl : (Lib.compact zs).length ≤ zs.length := vh6 zs
  obtain ⟨ws, hws⟩ : ∃ ws, Lib.compact zs ++ List.replicate (zs.length - (Lib.compact zs).length) [] = ws := ⟨_, rfl⟩
  have hwl : ws.length = zs.length := by rw [← hws]; simp; omega
  have hg0 : grow (putRow encStr (Sort.ahead w q) g 0 ws.toArray) #[] = putRow encStr (Sort.ahead w q) g 0 ws.toArray := by simp [grow]; rfl
  have ho := ownsRow_sorted (n := q) (os := #[]) hwl hbg hcur hnc hcm hcs'
  have hgr := grownBy_sorted (w := w) (g := g) (n := q) (os := #[]) ws.toArray
  rw [hg0] at ho hgr
  rw [hws]
  refine ⟨rfl, v6 ⟨fun j t hj => ?_, hbg, ?_, hgr⟩⟩
  · have hjl := (List.getElem?_eq_some_iff.1 hj).1
    have hj2 : ws[j]? = some t := by rw [← hws, List.getElem?_append_left hjl]; exact hj
    have := World.ownsRow.cells ho (g := g) rfl j (encStr t) (by rw [List.getElem?_map, hj2]; rfl)
    rwa [qj3, Nat.zero_add] at this
  · have := hgr.size
    have := (Array.getElem?_eq_some_iff.1 hcur).1
    omega
end
section
def qu9 (x : Co) : List (List UInt8) → Nat → Co
  | [], _ => x
  | t :: r, k => qw2 x (z7 8 x (qp2 t)) (r.take (k - 1))
theorem jv1 (x : Co) : ∀ (l : List (List UInt8)) (f : Co) (t : List UInt8), qw2 x f (l ++ [t]) = z7 7 (qw2 x f l) (z7 8 x (qp2 t)) := by
  intro l
  induction l with
  | nil => intro f t; rfl
  | cons a l ih => intro f t; exact ih _ t
theorem jt2 (x : Co) {zs : List (List UInt8)} {t : List UInt8} (h : zs[0]? = some t) : qu9 x zs 1 = z7 8 x (qp2 t) := by
  cases zs with
  | nil => simp at h
  | cons a r => simp at h; subst h; simp [qu9, qw2]
theorem jf1 (x : Co) {zs : List (List UInt8)} {k : Nat} {t : List UInt8} (hk : 0 < k) (h : zs[k]? = some t) : qu9 x zs (k + 1) = z7 7 (qu9 x zs k) (z7 8 x (qp2 t)) := by
  cases zs with
  | nil => simp at h
  | cons a r =>
    obtain ⟨j, rfl⟩ : ∃ j, k = j + 1 := ⟨k - 1, by omega⟩
    have h' : r[j]? = some t := by simpa using h
    show qw2 x (z7 8 x (qp2 a)) (r.take (j + 1 + 1 - 1)) = z7 7 (qw2 x (z7 8 x (qp2 a)) (r.take (j + 1 - 1))) _
    rw [show j + 1 + 1 - 1 = j + 1 by omega, show j + 1 - 1 = j by omega, List.take_add_one, h']
    exact jv1 x _ _ t
theorem jt0 (x : Co) (ts : List (List UInt8)) : qu9 x (qq9 ts) (qq9 ts).length = qu7 x ts := by
  unfold qu7
  cases qq9 ts with
  | nil => rfl
  | cons a r =>
    show qw2 x _ (r.take (r.length + 1 - 1)) = _
    rw [show r.length + 1 - 1 = r.length by omega, List.take_length]
theorem jt1 (x : Co) (zs : List (List UInt8)) (k : Nat) (h : ∀ t ∈ zs, t.length ≤ 200) (hl : zs.length ≤ 200) (hx : (z8 x).length ≤ 402) : (z8 (qu9 x zs k)).length ≤ 1000000 := by
  cases zs with
  | nil => show (z8 x).length ≤ _; omega
  | cons a r =>
    have h1 := vz6 x (r.take (k - 1)) (z7 8 x (qp2 a)) (fun t ht => h t (List.mem_cons_of_mem _ (List.mem_of_mem_take ht)))
    rw [y8 8 rfl rfl] at h1
    have h2 := qw9 a (h a List.mem_cons_self)
    have e8 : (qk3 8).length = 1 := rfl
    have h3 : (r.take (k - 1)).length ≤ 200 := by
      have := List.length_take_le (k - 1) r
      simp at hl
      have h4 : (r.take (k - 1)).length ≤ r.length := by rw [List.length_take]; omega
      omega
    have h5 : (r.take (k - 1)).length * ((z8 x).length + 420) ≤ 200 * 822 := Nat.mul_le_mul h3 (by omega)
    show (z8 (qw2 x (z7 8 x (qp2 a)) (r.take (k - 1)))).length ≤ _
    omega
def FoundAt (B : Nat) (W : World) (x : Co) (zs : List (List UInt8)) (k : Nat) (v : Value) : Prop := (k = 0 ∧ v = .pointer none) ∨ (0 < k ∧ ∃ b, v = .pointer (some ⟨b, 0, none⟩) ∧ CoAt B W.heap.size W v (qu9 x zs k))
set_option maxHeartbeats 2000000 in
set_option maxRecDepth 100000 in
theorem amongOk : vc8 := by
  intro lo B w x vx tv ts hB hL hx ht hne h200 hlen hsx
  obtain ⟨bx, rfl⟩ := hx.ptr
  obtain ⟨b, cap, rfl, _, hb, hcells⟩ : ∃ g cap, tv = .slice (some ⟨g, 0, none⟩) ts.length cap ∧ lo < g ∧ g < w.heap.size ∧ ∀ (j : Nat) (t : List UInt8), ts[j]? = some t → w.cell? ⟨g, j, none⟩ = some (.string (BS t)) := by
    rcases ht with ⟨h1, _⟩ | h
    · exact absurd h1 hne
    · exact h
  obtain ⟨w1, hw1⟩ : ∃ w1, w1 = w.alloc (.cells #[.slice (some ⟨b, 0, none⟩) ts.length cap] 30) := ⟨_, rfl⟩
  have hb1 : Below w.heap.size w w1 := by rw [hw1]; exact (Below.refl _ _).alloc (Nat.le_refl _) _
  have hz1 : w1.heap.size = w.heap.size + 1 := by rw [hw1]; simp
  have VA := v6 (jy6 (some ⟨b, 0, none⟩) ts.length cap w)
  rw [← hw1] at VA
  have SO := v6 (jx7 w.heap.size b cap ts hne (by omega) w1 (by omega) (by omega) (by rw [hw1]; simp [go_sem]) (fun j hj => by
    have e : ts[j]? = some (ts[j]?.getD []) := by rw [List.getElem?_eq_getElem hj]; rfl
    exact (hb1.cell (p := ⟨b, j, none⟩) hb).trans (hcells j _ e)))
  have CP : Hid (∀ g c w2, jc4 w2 w1.heap.size (.slice (some ⟨g, 0, none⟩) ts.length c) (ordT ts) → Below w1.heap.size w1 w2 → Calls Tryz.prog 139 #[.slice (some ⟨g, 0, none⟩) ts.length c] w2 fun e w3 => e = .returned (.slice (some ⟨g, 0, none⟩) (qq9 ts).length c) ∧ Hid ((∀ j t, (qq9 ts)[j]? = some t → w3.cell? ⟨g, j, none⟩ = some (.string (BS t))) ∧ g < w3.heap.size ∧ Below w.heap.size w w3)) := v6 (by
    intro g c w2 h1 h2
    have := vs5 g c (ordT ts) w1.heap.size w2 (by rw [qq5]; exact h1) (by rw [qq5]; omega)
    rw [qq5] at this
    refine this.mono ?_
    rintro e w3 ⟨rfl, H⟩
    obtain ⟨a1, a2, a3, a4⟩ := q9 H
    refine ⟨rfl, v6 ⟨a1, a3, ?_⟩⟩
    have hb2 : Below w.heap.size w w2 := v7 hb1 h2
    exact hb2.grown a4 hb2.size (fun j hj => by
      have e : g = j := by simpa using hj
      omega))
  have HZ : Hid (∀ t ∈ qq9 ts, t.length ≤ 200) := v6 fun t ht => hlen t (vk9 ht)
  have hm200 : (qq9 ts).length ≤ 200 := Nat.le_trans (ja8 ts) h200
  have hmne : (qq9 ts).length ≠ 0 := fun e => jp1 hne (List.eq_nil_of_length_eq_zero e)
  have HALL : Hid (qu9 x (qq9 ts) (qq9 ts).length = qu7 x ts) := v6 (jt0 x ts)
  have HX : Hid (∀ W, Below w.heap.size w W → CoAt B W.heap.size W (.pointer (some ⟨bx, 0, none⟩)) x) := v6 fun W hW => hx.below hW
  have HLB : Hid (∀ W, Below w.heap.size w W → LibOk W) := v6 fun W hW => hL.below hW (Nat.le_refl _)
  obtain ⟨zs, hzs⟩ : ∃ zs, qq9 ts = zs := ⟨_, rfl⟩
  rw [hzs] at CP HZ hm200 hmne HALL
  obtain ⟨n, hn⟩ : ∃ n, ts.length = n := ⟨_, rfl⟩
  rw [hn] at VA SO CP ⊢
  obtain ⟨m, hm⟩ : ∃ m, zs.length = m := ⟨_, rfl⟩
  rw [hm] at CP hm200 hmne HALL
  have HM := v6 hm
  clear hzs hn hm hw1 hL hx ht hne hlen hcells
  go_enter Tryz.func93, Tryz.ntmps93
  go_wp2_with (first | (go_at_call 141; refine (q9 VA).mono ?_; rintro e w1' ⟨rfl, rfl⟩) | (go_at_call 140; refine (q9 SO).mono ?_; rintro e w2 ⟨g2, c2, rfl, h1, h2⟩; have H1 := v6 h1; have H2 := v6 h2; clear h1 h2) | (go_at_call 139; refine (q9 CP g2 c2 w2 (q9 H1) (q9 H2)).mono ?_; rintro e w3 ⟨rfl, H3⟩))
  go_loopw [5, 14] (fun v i wr => ∃ k : Nat, k ≤ m ∧ i = .int .i64 k ∧ Hid (FoundAt B wr x zs k v) ∧ Hid (Below w3.heap.size w3 wr)) (fun _ i _ => m - (intOf i).toNat)
  case atStart => exact ⟨0, Nat.zero_le _, rfl, v6 (.inl ⟨rfl, rfl⟩), v6 (Below.refl _ _)⟩
  case round =>
    obtain ⟨k, hk, rfl, FA, HB⟩ := hrel
    by_cases hlt : k < m
    · obtain ⟨t, ht⟩ : ∃ t, zs[k]? = some t := ⟨_, List.getElem?_eq_getElem (by have := q9 HM; omega)⟩
      have htl : t.length ≤ 200 := q9 HZ t (List.mem_of_getElem? ht)
      obtain ⟨a1, a2, a3⟩ := q9 H3
      have d0 : wr.cell? ⟨g2, k, none⟩ = some (.string (BS t)) := ((q9 HB).cell (p := ⟨g2, k, none⟩) a2).trans (a1 k t ht)
      have hBw : Below w.heap.size w wr := v7 a3 (q9 HB)
      have hzw := hBw.size
      have hk0 : (0 : Int) ≤ (k : Int) := by omega
      have hk1 : (k : Int) < (m : Int) := by omega
      have SP : Hid (Calls Tryz.prog 94 #[.agg #[.int .i64 2, .pointer none, .pointer none, .int .i64 0, .string (BS t), .string ⟨#[]⟩, .string ⟨#[]⟩]] wr fun e w' => ∃ b, e = .returned (.pointer (some ⟨b, 0, none⟩)) ∧ CoAt B w'.heap.size w' (.pointer (some ⟨b, 0, none⟩)) (qp2 t) ∧ Below wr.heap.size wr w') := v6 (qm7 ⟨2, 0, t, []⟩ rfl rng0 (by show t.length ≤ _; omega) (Nat.zero_le _) (by omega) (q9 HLB wr hBw))
      have P8 : Hid (∀ w4 b4, CoAt B w4.heap.size w4 (.pointer (some ⟨b4, 0, none⟩)) (qp2 t) → Below wr.heap.size wr w4 → Calls Tryz.prog 90 #[.int .i64 8, .pointer (some ⟨bx, 0, none⟩), .pointer (some ⟨b4, 0, none⟩)] w4 fun e w' => ∃ b, e = .returned (.pointer (some ⟨b, 0, none⟩)) ∧ CoAt B w'.heap.size w' (.pointer (some ⟨b, 0, none⟩)) (z7 8 x (qp2 t)) ∧ Below wr.heap.size wr w') := v6 (by
        intro w4 b4 h1 h2
        have h3 := v7 hBw h2
        refine (qf9 8 (by have := h3.size; omega) (q9 HLB w4 h3) (q9 HX w4 h3) h1 (by omega) (by have := qw9 t htl; omega)).mono ?_
        rintro e w' ⟨b, rfl, q1, q2⟩
        exact ⟨b, rfl, q1, v7 h2 q2⟩)
      rcases q9 FA with ⟨rfl, rfl⟩ | ⟨hpos, b5, rfl, hc5⟩
      · have H1C : Hid (qu9 x zs 1 = z7 8 x (qp2 t)) := v6 (jt2 x ht)
        clear FA a1 a2 a3 ht HZ
        go_wp2_with (first | (go_at_call 94; refine (q9 SP).mono ?_; rintro e w4 ⟨b4, rfl, h1, h2⟩; have C4 := v6 h1; have B4 := v6 h2; clear h1 h2) | (go_at_call 90; refine (q9 P8 w4 b4 (q9 C4) (q9 B4)).mono ?_; rintro e w5 ⟨b5, rfl, h1, h2⟩; have C5 := v6 h1; have B5 := v6 h2; clear h1 h2))
        exact ⟨⟨1, by omega, rfl, v6 (.inr ⟨by omega, b5, rfl, by rw [q9 H1C]; exact q9 C5⟩), v6 (v7 (q9 HB) (q9 B5))⟩, by simp [intOf]; omega⟩
      · have HSC : Hid (qu9 x zs (k + 1) = z7 7 (qu9 x zs k) (z7 8 x (qp2 t))) := v6 (jf1 x hpos ht)
        have P7 : Hid (∀ w5 b6, CoAt B w5.heap.size w5 (.pointer (some ⟨b6, 0, none⟩)) (z7 8 x (qp2 t)) → Below wr.heap.size wr w5 → Calls Tryz.prog 90 #[.int .i64 7, .pointer (some ⟨b5, 0, none⟩), .pointer (some ⟨b6, 0, none⟩)] w5 fun e w' => ∃ b, e = .returned (.pointer (some ⟨b, 0, none⟩)) ∧ CoAt B w'.heap.size w' (.pointer (some ⟨b, 0, none⟩)) (qu9 x zs (k + 1)) ∧ Below wr.heap.size wr w') := v6 (by
          intro w5 b6 h1 h2
          have h3 := v7 hBw h2
          have hl8 : (z8 (z7 8 x (qp2 t))).length ≤ 1000000 := by
            rw [y8 8 rfl rfl]
            have := qw9 t htl
            have e8 : (qk3 8).length = 1 := rfl
            omega
          have hlf := jt1 x zs k (q9 HZ) (by rw [q9 HM]; exact hm200) hsx
          rw [q9 HSC]
          refine (qf9 7 (by have := h3.size; omega) (q9 HLB w5 h3) (hc5.below h2) h1 (by omega) (by omega)).mono ?_
          rintro e w' ⟨b, rfl, q1, q2⟩
          exact ⟨b, rfl, q1, v7 h2 q2⟩)
        clear FA a1 a2 a3 ht hc5 HSC
        go_wp2_with (first | (go_at_call 94; refine (q9 SP).mono ?_; rintro e w4 ⟨b4, rfl, h1, h2⟩; have C4 := v6 h1; have B4 := v6 h2; clear h1 h2) | (go_at_call 90; refine (q9 P8 w4 b4 (q9 C4) (q9 B4)).mono ?_; clear P8; rintro e w5 ⟨b6, rfl, h1, h2⟩; have C5 := v6 h1; have B5 := v6 h2; clear h1 h2) | (go_at_call 90; refine (q9 P7 w5 b6 (q9 C5) (q9 B5)).mono ?_; rintro e w6 ⟨b7, rfl, h1, h2⟩; have C6 := v6 h1; have B6 := v6 h2; clear h1 h2))
        exact ⟨⟨k + 1, by omega, rfl, v6 (.inr ⟨by omega, b7, rfl, q9 C6⟩), v6 (v7 (q9 HB) (q9 B6))⟩, by simp [intOf]; omega⟩
    · have hkm : k = m := by omega
      subst hkm
      rcases q9 FA with ⟨h0, _⟩ | ⟨_, b5, rfl, hc5⟩
      · exact absurd h0 hmne
      · have C5 := v6 hc5
        clear hc5 FA
        have HBw : Hid (Below w.heap.size w wr) := v6 (v7 (q9 H3).2.2 (q9 HB))
        go_wp2_with fail
        go_ret
        exact ⟨b5, rfl, by rw [← q9 HALL]; exact q9 C5, q9 HBw⟩
end
end Go.Proofs.YtfkcaldjphakpabGreatDoor
