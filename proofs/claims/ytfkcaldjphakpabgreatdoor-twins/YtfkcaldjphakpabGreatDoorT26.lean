/- A program as bytes. core.Of. -/
import Derived.Test.YtfkcaldjphakpabGreatDoorT25
import Derived.Test.YtfkcaldjphakpabGreatDoorT30
namespace Go.Proofs.YtfkcaldjphakpabGreatDoor
open Go.RowKit
section
attribute [local go_sem ↓] qc8
def jc5 (t : Tm) : Prop := ∀ (base : Nat) (v : Value) (l : List UInt8) (W : World), OB W base v l → base ≤ W.heap.size → l.length ≤ 800000 → Calls Tryz.prog 63 #[tmV t, v] W (ve4 base W (l ++ jc2 t))
theorem vw0 (t : Tm) (ht : SmallT t) (h : t.op = 0 ∨ t.op = 1 ∨ t.op = 10) : jc5 t := by
  intro base v l W h1 h2 h3
  rcases h with h | h | h
  · exact write_0 base v l t W h1 h2 h3 ht h _ fun _ _ h => h
  · exact write_1 base v l t W h1 h2 h3 ht h _ fun _ _ h => h
  · exact write_10 base v l t W h1 h2 h3 ht h _ fun _ _ h => h
def jm0 (hd : List UInt8) (ts : List Tm) : Nat → List UInt8
  | 0 => hd
  | k + 1 => jm0 hd ts k ++ jc2 (ts.getD k (.bare 3))
def encR (hd : List UInt8) (rs : List Nat) : Nat → List UInt8
  | 0 => hd
  | k + 1 => encR hd rs k ++ [UInt8.ofNat (rs.getD k 0)]
def jk2 (ts : List Tm) (rs : List Nat) : List UInt8 := encR (jm0 [UInt8.ofNat ts.length, UInt8.ofNat rs.length] ts ts.length) rs rs.length
theorem vi6 (s : List UInt8) : (lenB s).length = s.length + 1 := rfl
theorem je1 (t : Tm) (ht : SmallT t) : (jc2 t).length ≤ 1000 := by
  have h1 := ht.str
  have h2 := ht.esc
  unfold jc2
  split
  · simp [va8]
  split
  · simp [vi6]; omega
  split
  · simp [vi6]; omega
  split
  · simp
  split <;> simp
theorem jd9 (hd : List UInt8) (ts : List Tm) (h : ∀ t ∈ ts, SmallT t) (k : Nat) : (jm0 hd ts k).length ≤ hd.length + k * 1000 := by
  induction k with
  | zero => simp [jm0]
  | succ k ih =>
    rw [jm0, List.length_append]
    have : (jc2 (ts.getD k (.bare 3))).length ≤ 1000 := by
      apply je1
      rw [List.getD_eq_getElem?_getD]
      cases hk : ts[k]? with
      | none => exact ⟨Nat.zero_le _, Nat.zero_le _, Nat.zero_le _, Nat.zero_le _⟩
      | some t => exact h t (List.mem_of_getElem? hk)
    omega
theorem je0 (hd : List UInt8) (rs : List Nat) (k : Nat) : (encR hd rs k).length = hd.length + k := by
  induction k with
  | zero => rfl
  | succ k ih => rw [encR, List.length_append, ih, List.length_singleton]; omega
theorem OB.below {B : Nat} {w w' : World} {base : Nat} {v : Value} {l : List UInt8} (h : OB w base v l) (hb : Below B w w') (hB : w.heap.size ≤ B) : OB w' base v l := qe6 h hb hB
set_option maxHeartbeats 2000000 in
set_option maxRecDepth 100000 in
theorem jv3 (pb o : Nat) (ts : List Tm) (rs : List Nat) (W : World) (hp : ProgAt W pb o ts rs) (h80 : ts.length ≤ 200) (h8 : rs.length ≤ 200) (hsm : ∀ t ∈ ts, SmallT t) (hw : ∀ t ∈ ts, jc5 t) (hrs : ∀ r ∈ rs, r ≤ 255) (Q : Ending → World → Prop) (hQ : ∀ e w', ve4 W.heap.size W (jk2 ts rs) e w' → Q e w') :
    Calls Tryz.prog 39 #[.pointer (some ⟨pb, o, none⟩)] W Q := by
  have HQ := v6 hQ
  clear hQ
  unfold jk2 at HQ
  obtain ⟨plt, ⟨tv, tb, c0, hts⟩, rv, rb, c1, hrs'⟩ := hp
  obtain ⟨ta, tc, rfl, hTC⟩ := hts.cells
  obtain ⟨ra, rc, rfl, hRC⟩ := hrs'.cells
  have HTC : Hid _ := v6 hTC
  have HRC : Hid _ := v6 hRC
  have HW := v6 hw
  have HRS := v6 hrs
  have HLN : Hid _ := v6 (jd9 [UInt8.ofNat ts.length, UInt8.ofNat rs.length] ts hsm)
  clear hTC hRC hts hrs' hw hrs hsm
  obtain ⟨n, hn⟩ : ∃ n, n = ts.length := ⟨_, rfl⟩
  obtain ⟨m, hm⟩ : ∃ m, m = rs.length := ⟨_, rfl⟩
  have HN := v6 hn
  have HM := v6 hm
  rw [← hn] at c0 h80
  rw [← hm] at c1 h8
  rw [← hn, ← hm] at HQ HLN
  clear hn hm
  have n0 : (0 : Int) ≤ (n : Int) := by omega
  have n1 : (n : Int) < 256 := by omega
  have m0 : (0 : Int) ≤ (m : Int) := by omega
  have m1 : (m : Int) < 256 := by omega
  have O0 : Hid (OB (W.alloc (.cells #[.int .u8 n, .int .u8 m] 5)).drew W.heap.size (.slice (some ⟨W.heap.size, 0, none⟩) 2 2) [UInt8.ofNat n, UInt8.ofNat m]) := v6 (by
    refine ⟨rfl, .inr ⟨W.heap.size, 2, #[.int .u8 n, .int .u8 m], rfl, Nat.le_refl _, heap_alloc_new W _, Nat.le_refl _, by decide, rfl, ?_⟩⟩
    show [Value.int .u8 n, Value.int .u8 m] = [Value.int .u8 ((UInt8.ofNat n).toNat : Int), Value.int .u8 ((UInt8.ofNat m).toNat : Int)]
    rw [← u8_of (by omega), ← u8_of (by omega)])
  have B0 : Hid (Below W.heap.size W (W.alloc (.cells #[.int .u8 n, .int .u8 m] 5)).drew) := v6 ((Below.refl _ _).alloc (Nat.le_refl _) _).drew
  have HHD : Hid ([UInt8.ofNat n, UInt8.ofNat m].length = 2) := v6 rfl
  generalize [UInt8.ofNat n, UInt8.ofNat m] = hd at *
  go_enter Tryz.func39, Tryz.ntmps39
  go_wp2_with fail
  go_region
  all_goals go_wp2_with fail
  go_loopw [3, 26] (fun u i wr => ∃ k : Nat, k ≤ n ∧ i = .int .i64 k ∧ Hid (OB wr W.heap.size u (jm0 hd ts k)) ∧ Hid (Below W.heap.size W wr)) (fun _ i _ => n - (intOf i).toNat)
  case atStart => exact ⟨0, Nat.zero_le _, rfl, O0, B0⟩
  case round =>
    obtain ⟨k, hk, rfl, HO, HB⟩ := hrel
    have hlen : (jm0 hd ts k).length ≤ 700000 := by have h1 := q9 HLN k; have h2 := q9 HHD; omega
    by_cases hlt : k < n
    · obtain ⟨t, ht⟩ : ∃ t, ts[k]? = some t := ⟨_, List.getElem?_eq_getElem (by have := q9 HN; omega)⟩
      obtain ⟨g, rfl, glt, t0, t1, t2, t3, t4, t5⟩ := q9 HTC k t ht
      have WT : Hid (∀ (u : Value) (U : World), OB U W.heap.size u (jm0 hd ts k) → W.heap.size ≤ U.heap.size → Calls Tryz.prog 63 #[tmV t, u] U (ve4 W.heap.size U (jm0 hd ts k ++ jc2 t))) := v6 fun u U h1 h2 => q9 HW t (List.mem_of_getElem? ht) _ u _ U h1 h2 (by omega)
      have hS : Hid (jm0 hd ts (k + 1) = jm0 hd ts k ++ jc2 t) := v6 (by rw [jm0, List.getD_eq_getElem?_getD, ht]; rfl)
      obtain ⟨L, hL⟩ : ∃ L, jm0 hd ts k = L := ⟨_, rfl⟩
      rw [hL] at HO WT hS hlen
      obtain ⟨hcB, hfB⟩ := j5 (q9 HB)
      rw [← hcB g (k * 6) glt] at t0
      rw [← hcB g (k * 6 + 1) glt] at t1
      rw [← hcB g (k * 6 + 2) glt] at t2
      rw [← hcB g (k * 6 + 3) glt] at t3
      rw [← hcB g (k * 6 + 4) glt] at t4
      rw [← hcB g (k * 6 + 5) glt] at t5
      have hbz := (q9 HB).size
      have hzg : g < wr.heap.size := by omega
      have hk0 : (0 : Int) ≤ (k : Int) := by omega
      have hk1 : (k : Int) < (n : Int) := by omega
      have O1 := v6 (fun o => World.ownsRow.alloc (q9 HO) o)
      obtain ⟨a', c', rfl⟩ := (q9 HO).form
      unfold tmV at WT
      clear hcB hfB ht hL hlen
      go_wp2_with (go_at_call 63; refine (q9 WT _ _ (q9 O1 _) (by simp; omega)).mono ?_; rintro e w2 ⟨v2, rfl, ho2, hb2⟩; have HO2 := v6 ho2; have HB2 := v6 (((q9 HB).alloc hbz _).trans hb2); clear ho2 hb2)
      exact ⟨⟨k + 1, by omega, rfl, v6 (by rw [q9 hS]; exact q9 HO2), HB2⟩, by simp [intOf]; omega⟩
    · have : k = n := by omega
      subst this
      have d1 : wr.cell? ⟨pb, o + 1, none⟩ = some (.slice ra m rc) := ((q9 HB).cell (p := ⟨pb, o + 1, none⟩) plt).trans c1
      generalize jm0 hd ts k = L at *
      go_wp2_with fail
      go_loopw [3, 39] (fun u i wr => ∃ j : Nat, j ≤ m ∧ i = .int .i64 j ∧ Hid (OB wr W.heap.size u (encR L rs j)) ∧ Hid (Below W.heap.size W wr)) (fun _ i _ => m - (intOf i).toNat)
      case atStart => exact ⟨0, Nat.zero_le _, rfl, HO, HB⟩
      case round =>
        obtain ⟨j, hj, rfl, HO', HB'⟩ := hrel
        by_cases hlt2 : j < m
        · obtain ⟨r, hr⟩ : ∃ r, rs[j]? = some r := ⟨_, List.getElem?_eq_getElem (by have := q9 HM; omega)⟩
          obtain ⟨g, rfl, glt, t0⟩ := q9 HRC j r hr
          have hr255 : r ≤ 255 := q9 HRS r (List.mem_of_getElem? hr)
          have hS : Hid (encR L rs (j + 1) = encR L rs j ++ [UInt8.ofNat r]) := v6 (by rw [encR, List.getD_eq_getElem?_getD, hr]; rfl)
          have hlen2 : (encR L rs j).length ≤ 1000000 := by rw [je0]; omega
          obtain ⟨L2, hL2⟩ : ∃ L2, encR L rs j = L2 := ⟨_, rfl⟩
          rw [hL2] at HO' hS hlen2
          obtain ⟨hcB, hfB⟩ := j5 (q9 HB')
          rw [← hcB g j glt] at t0
          have hbz := (q9 HB').size
          have hzg : g < wr.heap.size := by omega
          have hj0 : (0 : Int) ≤ (j : Int) := by omega
          have hj1 : (j : Int) < (m : Int) := by omega
          have hr0 : (0 : Int) ≤ (r : Int) := by omega
          have hr1 : (r : Int) < 256 := by omega
          obtain ⟨g5, cap5, w5, hap, HO5, HB5⟩ := OB.app (q9 HO') hbz (UInt8.ofNat r) (r : Int) (u8_of hr255) hlen2 36 _ rfl rfl
          have HB6 := v6 ((q9 HB').trans (q9 HB5))
          obtain ⟨a', c', rfl⟩ := OB.form (q9 HO')
          clear hcB hfB hr hL2 hlen2 HB5
          go_wp2_with fail
          exact ⟨⟨j + 1, by omega, rfl, v6 (by rw [q9 hS]; exact q9 HO5), HB6⟩, by simp [intOf]; omega⟩
        · have : j = m := by omega
          subst this
          go_wp2_with fail
          exact q9 HQ _ _ ⟨_, rfl, q9 HO', q9 HB'⟩
end
section
def CofOk (lo : Nat) (t : Ast) : Prop := ∀ (B : Nat) (w : World) (v : Value), B ≤ w.heap.size → LibOk w → IsNode lo w v t → Calls Tryz.prog 34 #[v] w (qv5 B w (j6 t))
theorem CellsC.lower {B B' E : Nat} {w : World} {b : Nat} {p : CP} {l r : Value} {t : List UInt8} (h : CellsC B' E w b p l r t) (hB : B ≤ B') : CellsC B E w b p l r t :=
  ⟨Nat.le_trans hB h.lo, h.hi, h.within, h.c0, h.c1, h.c2, h.c3, h.c4, h.c5, h.c6⟩
theorem CoAt.lower {B B' E : Nat} {w : World} (hB : B ≤ B') : ∀ {c : Co} {v : Value}, CoAt B' E w v c → CoAt B E w v c := by
  intro c
  induction c with
  | leaf p => rintro v ⟨b, rfl, h⟩; exact ⟨b, rfl, h.lower hB⟩
  | un p x ih => rintro v ⟨b, vx, rfl, h, hx⟩; exact ⟨b, vx, rfl, h.lower hB, ih hx⟩
  | bin p x y ihx ihy => rintro v ⟨b, vx, vy, rfl, h, hx, hy⟩; exact ⟨b, vx, vy, rfl, h.lower hB, ihx hx, ihy hy⟩
theorem CoAt.set {B : Nat} {w : World} {c : Co} {v : Value} (h : CoAt B w.heap.size w v c) {p : Addr} (hp : p.block < B) (u : Value) : CoAt B (w.setCell p u).heap.size (w.setCell p u) v c := by
  have hz := x8 w p u
  exact h.keep (by rw [hz]; exact Nat.le_refl _) (fun k hk _ => Below.heap_setCell w p u k (by omega)) (by rw [hz]; exact Nat.le_refl _)
def SideK (B : Nat) (w : World) (t : Ast) (k j : Nat) (v : Value) : Prop := (j < k ∧ SideIs B w t j v) ∨ (¬ j < k ∧ v = .pointer none)
theorem SideIs.set {B : Nat} {w w1 : World} {t : Ast} {j : Nat} {v : Value} (h : SideIs B w t j v) (hb : Below w.heap.size w w1) {p : Addr} (hp : p.block < B) (u : Value) : SideIs B (w1.setCell p u) t j v := by
  unfold SideIs at h ⊢
  cases hx : (j3 t)[j]? with
  | none => rw [hx] at h; exact h
  | some x => rw [hx] at h; exact (h.below hb).set hp u
theorem SideK.old {B : Nat} {w w1 : World} {t : Ast} {k j : Nat} {v : Value} (h : SideK B w t k j v) (hj : j ≠ k) (hb : Below w.heap.size w w1) {p : Addr} (hp : p.block < B) (u : Value) : SideK B (w1.setCell p u) t (k + 1) j v := by
  rcases h with ⟨h1, h2⟩ | ⟨h1, h2⟩
  · exact .inl ⟨by omega, h2.set hb hp u⟩
  · exact .inr ⟨by omega, h2⟩
theorem SideK.new {B : Nat} {w1 : World} {t x : Ast} {k : Nat} {v : Value} (hx : (j3 t)[k]? = some x) (h : CoAt B w1.heap.size w1 v (j6 x)) {p : Addr} (hp : p.block < B) (u : Value) : SideK B (w1.setCell p u) t (k + 1) k v := by
  refine .inl ⟨by omega, ?_⟩
  unfold SideIs
  rw [hx]
  exact h.set hp u
theorem SideK.done {B : Nat} {w : World} {t : Ast} {j : Nat} {v : Value} (h : SideK B w t (j3 t).length j v) : SideIs B w t j v := by
  rcases h with ⟨_, h2⟩ | ⟨h1, h2⟩
  · exact h2
  · unfold SideIs
    rw [List.getElem?_eq_none (by omega)]
    exact h2
set_option maxHeartbeats 2000000 in
set_option maxRecDepth 100000 in
theorem vg1 (lo : Nat) (t : Ast) (hA : vf4 t → vc8) (hok : Ok t) (hsub : ∀ x ∈ j3 t, CofOk lo x) : CofOk lo t := by
  intro B w v hB hL h
  suffices hs : Calls Tryz.prog 34 #[v] w (qv5 (w.heap.size + 1) w (j6 t)) by
    refine hs.mono ?_
    rintro e w' ⟨b, rfl, hc, hb⟩
    exact ⟨b, rfl, hc.lower (by omega), hb⟩
  have HNODE := v6 h
  obtain ⟨b, sv, rfl, hnode, hsides⟩ := h.parts
  obtain ⟨a, rfl, hside⟩ := hsides.any
  have hn3 := vk4 t
  have c2 := hnode.c2
  have hbw := hnode.within
  obtain ⟨n, hn⟩ : ∃ n, (j3 t).length = n := ⟨_, rfl⟩
  rw [hn] at c2 hn3
  have HN := v6 hn
  have HS := v6 hside
  have HSUB := v6 hsub
  have HND := v6 hnode
  have HL := v6 hL
  have JN : Hid (∀ wr v0 v1 v2, Below w.heap.size w wr → w.heap.size < wr.heap.size → SideIs (w.heap.size + 1) wr t 0 v0 → SideIs (w.heap.size + 1) wr t 1 v1 → SideIs (w.heap.size + 1) wr t 2 v2 → Calls Tryz.prog 61 #[.pointer (some ⟨b, 0, none⟩), v0, v1, v2] wr (qv5 (w.heap.size + 1) wr (j6 t))) :=
    v6 (fun wr v0 v1 v2 hb hz h0 h1 h2 => cjoin_all t hA hok lo _ (by omega) (hL.below hb (Nat.le_refl _)) (hnode.kept (Kept.of_below hb)) h0 h1 h2)
  clear hsides h hn hside hsub hnode hA hok hL hB
  go_enter Tryz.func34, Tryz.ntmps34
  go_wp2_with fail
  go_loopw [11] (fun i wr => ∃ (k : Nat) (v0 v1 v2 : Value), k ≤ n ∧ i = .int .i64 k ∧ Hid (SideK (w.heap.size + 1) wr t k 0 v0 ∧ SideK (w.heap.size + 1) wr t k 1 v1 ∧ SideK (w.heap.size + 1) wr t k 2 v2) ∧ wr.cell? ⟨w.heap.size, 0, none⟩ = some v0 ∧ wr.cell? ⟨w.heap.size, 1, none⟩ = some v1 ∧ wr.cell? ⟨w.heap.size, 2, none⟩ = some v2 ∧ (∀ j, wr.frozen? ⟨w.heap.size, j, none⟩ = false) ∧ w.heap.size < wr.heap.size ∧ Hid (Below w.heap.size w wr)) (fun i _ => n - (intOf i).toNat)
  case atStart => exact ⟨0, .pointer none, .pointer none, .pointer none, Nat.zero_le _, rfl, v6 ⟨.inr ⟨by omega, rfl⟩, .inr ⟨by omega, rfl⟩, .inr ⟨by omega, rfl⟩⟩, by simp, by simp, by simp, fun j => by simp, by simp, v6 ((Below.refl _ _).alloc (Nat.le_refl _) _)⟩
  case round =>
    obtain ⟨k, v0, v1, v2, hk, rfl, hat, a0, a1, a2, fz, hzr, hbel⟩ := hrel
    by_cases hlt : k < n
    · obtain ⟨x, hx⟩ : ∃ x, (j3 t)[k]? = some x := ⟨_, List.getElem?_eq_getElem (by rw [q9 HN]; exact hlt)⟩
      obtain ⟨g, bx, rfl, hg1, hg2, hcx, hnx⟩ := q9 HS k x hx
      have dx := ((q9 hbel).cell (p := ⟨g, k, none⟩) hg2).trans hcx
      have CX := v6 (q9 HSUB x (List.mem_of_getElem? hx) (w.heap.size + 1) wr _ (by omega) ((q9 HL).below (q9 hbel) (Nat.le_refl _)) (hnx.kept (Kept.of_below (q9 hbel))))
      have HX := v6 hx
      clear hx hnx hcx
      rcases (show k = 0 ∨ k = 1 ∨ k = 2 by omega) with rfl | rfl | rfl
      · go_wp2_with (go_at_call 34; refine (q9 CX).mono ?_; rintro e w1 ⟨b1, rfl, k1, hb1⟩; obtain ⟨hc1, hf1⟩ := j5 hb1; have hz1 : w.heap.size < w1.heap.size := (by have := hb1.size; omega); have q0 : w1.cell? ⟨w.heap.size, 0, none⟩ = some v0 := (hc1 _ 0 hzr).trans a0; have q1 : w1.cell? ⟨w.heap.size, 1, none⟩ = some v1 := (hc1 _ 1 hzr).trans a1; have q2 : w1.cell? ⟨w.heap.size, 2, none⟩ = some v2 := (hc1 _ 2 hzr).trans a2; have f1 : ∀ j, w1.frozen? ⟨w.heap.size, j, none⟩ = false := (fun j => (hf1 _ j hzr).trans (fz j)); have HB1 := v6 hb1; have K1 := v6 k1; clear hc1 hf1 hb1 k1)
        go_roundw
        case rel => exact ⟨1, _, v1, v2, by omega, by go_num, v6 ⟨SideK.new (q9 HX) (q9 K1) (by simp) _, (q9 hat).2.1.old (by decide) (q9 HB1) (by simp) _, (q9 hat).2.2.old (by decide) (q9 HB1) (by simp) _⟩, by simp [go_sem, q0], by simp [go_sem, q1], by simp [go_sem, q2], fun j => by simp [go_sem, f1], by simpa using hz1, v6 ((v7 (q9 hbel) (q9 HB1)).setCell (by simp) _)⟩
        case measure => simp [intOf]; omega
      · go_wp2_with (go_at_call 34; refine (q9 CX).mono ?_; rintro e w1 ⟨b1, rfl, k1, hb1⟩; obtain ⟨hc1, hf1⟩ := j5 hb1; have hz1 : w.heap.size < w1.heap.size := (by have := hb1.size; omega); have q0 : w1.cell? ⟨w.heap.size, 0, none⟩ = some v0 := (hc1 _ 0 hzr).trans a0; have q1 : w1.cell? ⟨w.heap.size, 1, none⟩ = some v1 := (hc1 _ 1 hzr).trans a1; have q2 : w1.cell? ⟨w.heap.size, 2, none⟩ = some v2 := (hc1 _ 2 hzr).trans a2; have f1 : ∀ j, w1.frozen? ⟨w.heap.size, j, none⟩ = false := (fun j => (hf1 _ j hzr).trans (fz j)); have HB1 := v6 hb1; have K1 := v6 k1; clear hc1 hf1 hb1 k1)
        go_roundw
        case rel => exact ⟨2, v0, _, v2, by omega, by go_num, v6 ⟨(q9 hat).1.old (by decide) (q9 HB1) (by simp) _, SideK.new (q9 HX) (q9 K1) (by simp) _, (q9 hat).2.2.old (by decide) (q9 HB1) (by simp) _⟩, by simp [go_sem, q0], by simp [go_sem, q1], by simp [go_sem, q2], fun j => by simp [go_sem, f1], by simpa using hz1, v6 ((v7 (q9 hbel) (q9 HB1)).setCell (by simp) _)⟩
        case measure => simp [intOf]; omega
      · go_wp2_with (go_at_call 34; refine (q9 CX).mono ?_; rintro e w1 ⟨b1, rfl, k1, hb1⟩; obtain ⟨hc1, hf1⟩ := j5 hb1; have hz1 : w.heap.size < w1.heap.size := (by have := hb1.size; omega); have q0 : w1.cell? ⟨w.heap.size, 0, none⟩ = some v0 := (hc1 _ 0 hzr).trans a0; have q1 : w1.cell? ⟨w.heap.size, 1, none⟩ = some v1 := (hc1 _ 1 hzr).trans a1; have q2 : w1.cell? ⟨w.heap.size, 2, none⟩ = some v2 := (hc1 _ 2 hzr).trans a2; have f1 : ∀ j, w1.frozen? ⟨w.heap.size, j, none⟩ = false := (fun j => (hf1 _ j hzr).trans (fz j)); have HB1 := v6 hb1; have K1 := v6 k1; clear hc1 hf1 hb1 k1)
        go_roundw
        case rel => exact ⟨3, v0, v1, _, by omega, by go_num, v6 ⟨(q9 hat).1.old (by decide) (q9 HB1) (by simp) _, (q9 hat).2.1.old (by decide) (q9 HB1) (by simp) _, SideK.new (q9 HX) (q9 K1) (by simp) _⟩, by simp [go_sem, q0], by simp [go_sem, q1], by simp [go_sem, q2], fun j => by simp [go_sem, f1], by simpa using hz1, v6 ((v7 (q9 hbel) (q9 HB1)).setCell (by simp) _)⟩
        case measure => simp [intOf]; omega
    · have hkn : k = (j3 t).length := by have := q9 HN; omega
      have HD := v6 (hkn ▸ q9 hat)
      have HJ := v6 (q9 JN wr v0 v1 v2 (q9 hbel) hzr (q9 HD).1.done (q9 HD).2.1.done (q9 HD).2.2.done)
      clear hkn hat HD
      go_wp2_with (go_at_call 61; refine (q9 HJ).mono ?_; rintro e w1 ⟨b1, rfl, k1, hb1⟩; have HB1 := v6 (v7 (q9 hbel) hb1); have K1 := v6 k1; clear hb1 k1)
      go_ret
      exact ⟨b1, rfl, q9 K1, q9 HB1⟩
theorem vh5 (lo : Nat) : ∀ t, (vf4 t → vc8) → Ok t → CofOk lo t := by
  intro t
  induction t with
  | leaf p => intro hA hok; exact vg1 lo _ hA hok (fun x hx => by simp [j3] at hx)
  | un p x ih =>
    intro hA hok
    refine vg1 lo _ hA hok (fun y hy => ?_)
    have hy' := hy
    simp [j3] at hy
    subst hy
    exact ih (fun h => hA (.inr h)) (hok.side hy')
  | bin p x y ihx ihy =>
    intro hA hok
    refine vg1 lo _ hA hok (fun z hz => ?_)
    have hz' := hz
    simp [j3] at hz
    rcases hz with rfl | rfl
    · exact ihx (fun h => hA (.inl h)) (hok.side hz')
    · exact ihy (fun h => hA (.inr h)) (hok.side hz')
  | tri p x y z ihx ihy ihz =>
    intro hA hok
    refine vg1 lo _ hA hok (fun u hu => ?_)
    have hu' := hu
    simp [j3] at hu
    rcases hu with rfl | rfl | rfl
    · exact ihx (fun h => hA (.inl h)) (hok.side hu')
    · exact ihy (fun h => hA (.inr (.inl h))) (hok.side hu')
    · exact ihz (fun h => hA (.inr (.inr h))) (hok.side hu')
end
end Go.Proofs.YtfkcaldjphakpabGreatDoor
