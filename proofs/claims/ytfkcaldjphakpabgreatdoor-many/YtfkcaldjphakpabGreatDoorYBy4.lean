/- A program as bytes. -/
import Derived.Test.YtfkcaldjphakpabGreatDoorN27
import Derived.Test.YtfkcaldjphakpabGreatDoorYPr2
namespace Go.Proofs.YtfkcaldjphakpabGreatDoor
open Go.RowKit
attribute [local go_sem ↓] app_fold

/-- What it is to write a term rightly. -/
def WriteOk (t : Tm) : Prop := ∀ (base : Nat) (v : Value) (l : List UInt8) (W : World), OB W base v l → base ≤ W.heap.size → l.length ≤ 800000 → Calls Tryz.prog 63 #[tmV t, v] W (WrEnds base W (l ++ encT t))

theorem writeOk_plain (t : Tm) (ht : SmallT t) (h : t.op ∈ [0, 1, 2, 3, 4, 5, 6, 7, 8, 10, 11, 16, 17, 18, 19, 23]) : WriteOk t := by
  intro base v l W h1 h2 h3
  simp only [List.mem_cons, List.not_mem_nil, or_false] at h
  rcases h with h | h | h | h | h | h | h | h | h | h | h | h | h | h | h | h
  · exact write_0 base v l t W h1 h2 h3 ht h _ fun _ _ h => h
  · exact write_1 base v l t W h1 h2 h3 ht h _ fun _ _ h => h
  · exact write_2 base v l t W h1 h2 h3 ht h _ fun _ _ h => h
  · exact write_3 base v l t W h1 h2 h3 ht h _ fun _ _ h => h
  · exact write_4 base v l t W h1 h2 h3 ht h _ fun _ _ h => h
  · exact write_5 base v l t W h1 h2 h3 ht h _ fun _ _ h => h
  · exact write_6 base v l t W h1 h2 h3 ht h _ fun _ _ h => h
  · exact write_7 base v l t W h1 h2 h3 ht h _ fun _ _ h => h
  · exact write_8 base v l t W h1 h2 h3 ht h _ fun _ _ h => h
  · exact write_10 base v l t W h1 h2 h3 ht h _ fun _ _ h => h
  · exact write_11 base v l t W h1 h2 h3 ht h _ fun _ _ h => h
  · exact write_16 base v l t W h1 h2 h3 ht h _ fun _ _ h => h
  · exact write_17 base v l t W h1 h2 h3 ht h _ fun _ _ h => h
  · exact write_18 base v l t W h1 h2 h3 ht h _ fun _ _ h => h
  · exact write_19 base v l t W h1 h2 h3 ht h _ fun _ _ h => h
  · exact write_23 base v l t W h1 h2 h3 ht h _ fun _ _ h => h

def encK (hd : List UInt8) (ts : List Tm) : Nat → List UInt8
  | 0 => hd
  | k + 1 => encK hd ts k ++ encT (ts.getD k (.bare 3))
def encR (hd : List UInt8) (rs : List Nat) : Nat → List UInt8
  | 0 => hd
  | k + 1 => encR hd rs k ++ [UInt8.ofNat (rs.getD k 0)]
/-- The bytes of a program. -/
def bytesP (ts : List Tm) (rs : List Nat) : List UInt8 := encR (encK [UInt8.ofNat ts.length, UInt8.ofNat rs.length] ts ts.length) rs rs.length

theorem lenB_length (s : List UInt8) : (lenB s).length = s.length + 1 := rfl
theorem encT_length (t : Tm) (ht : SmallT t) : (encT t).length ≤ 1000 := by
  have h1 := ht.str
  have h2 := ht.esc
  unfold encT
  split
  · simp [nBytes_length]
  split
  · simp [lenB_length]; omega
  split
  · simp [lenB_length]; omega
  split
  · simp
  split <;> simp
theorem encK_length (hd : List UInt8) (ts : List Tm) (h : ∀ t ∈ ts, SmallT t) (k : Nat) : (encK hd ts k).length ≤ hd.length + k * 1000 := by
  induction k with
  | zero => simp [encK]
  | succ k ih =>
    rw [encK, List.length_append]
    have : (encT (ts.getD k (.bare 3))).length ≤ 1000 := by
      apply encT_length
      rw [List.getD_eq_getElem?_getD]
      cases hk : ts[k]? with
      | none => exact ⟨Nat.zero_le _, Nat.zero_le _, Nat.zero_le _, Nat.zero_le _⟩
      | some t => exact h t (List.mem_of_getElem? hk)
    omega
theorem encR_length (hd : List UInt8) (rs : List Nat) (k : Nat) : (encR hd rs k).length = hd.length + k := by
  induction k with
  | zero => rfl
  | succ k ih => rw [encR, List.length_append, ih, List.length_singleton]; omega

theorem OB.below {B : Nat} {w w' : World} {base : Nat} {v : Value} {l : List UInt8} (h : OB w base v l) (hb : Below B w w') (hB : w.heap.size ≤ B) : OB w' base v l := ownsRow_below h hb hB

set_option maxHeartbeats 2000000 in
set_option maxRecDepth 100000 in
theorem pbytes_any (pb o : Nat) (ts : List Tm) (rs : List Nat) (W : World) (hp : ProgAt W pb o ts rs) (h80 : ts.length ≤ 200) (h8 : rs.length ≤ 200) (hsm : ∀ t ∈ ts, SmallT t) (hw : ∀ t ∈ ts, WriteOk t) (hrs : ∀ r ∈ rs, r ≤ 255) (Q : Ending → World → Prop) (hQ : ∀ e w', WrEnds W.heap.size W (bytesP ts rs) e w' → Q e w') :
    Calls Tryz.prog 39 #[.pointer (some ⟨pb, o, none⟩)] W Q := by
  have HQ := hide hQ
  clear hQ
  unfold bytesP at HQ
  obtain ⟨plt, ⟨tv, tb, c0, hts⟩, rv, rb, c1, hrs'⟩ := hp
  obtain ⟨ta, tc, rfl, hTC⟩ := hts.cells
  obtain ⟨ra, rc, rfl, hRC⟩ := hrs'.cells
  have HTC : Hid _ := hide hTC
  have HRC : Hid _ := hide hRC
  have HW := hide hw
  have HRS := hide hrs
  have HLN : Hid _ := hide (encK_length [UInt8.ofNat ts.length, UInt8.ofNat rs.length] ts hsm)
  clear hTC hRC hts hrs' hw hrs hsm
  obtain ⟨n, hn⟩ : ∃ n, n = ts.length := ⟨_, rfl⟩
  obtain ⟨m, hm⟩ : ∃ m, m = rs.length := ⟨_, rfl⟩
  have HN := hide hn
  have HM := hide hm
  rw [← hn] at c0 h80
  rw [← hm] at c1 h8
  rw [← hn, ← hm] at HQ HLN
  clear hn hm
  have n0 : (0 : Int) ≤ (n : Int) := by omega
  have n1 : (n : Int) < 256 := by omega
  have m0 : (0 : Int) ≤ (m : Int) := by omega
  have m1 : (m : Int) < 256 := by omega
  have O0 : Hid (OB (W.alloc (.cells #[.int .u8 n, .int .u8 m] 5)).drew W.heap.size (.slice (some ⟨W.heap.size, 0, none⟩) 2 2) [UInt8.ofNat n, UInt8.ofNat m]) := hide (by
    refine ⟨rfl, .inr ⟨W.heap.size, 2, #[.int .u8 n, .int .u8 m], rfl, Nat.le_refl _, heap_alloc_new W _, Nat.le_refl _, by decide, rfl, ?_⟩⟩
    show [Value.int .u8 n, Value.int .u8 m] = [Value.int .u8 ((UInt8.ofNat n).toNat : Int), Value.int .u8 ((UInt8.ofNat m).toNat : Int)]
    rw [← u8_of (by omega), ← u8_of (by omega)])
  have B0 : Hid (Below W.heap.size W (W.alloc (.cells #[.int .u8 n, .int .u8 m] 5)).drew) := hide ((Below.refl _ _).alloc (Nat.le_refl _) _).drew
  have HHD : Hid ([UInt8.ofNat n, UInt8.ofNat m].length = 2) := hide rfl
  generalize [UInt8.ofNat n, UInt8.ofNat m] = hd at *
  go_enter Tryz.func39, Tryz.ntmps39
  go_wp2_with fail
  go_region
  all_goals go_wp2_with fail
  go_loopw [3, 26] (fun u i wr => ∃ k : Nat, k ≤ n ∧ i = .int .i64 k ∧ Hid (OB wr W.heap.size u (encK hd ts k)) ∧ Hid (Below W.heap.size W wr)) (fun _ i _ => n - (intOf i).toNat)
  case atStart => exact ⟨0, Nat.zero_le _, rfl, O0, B0⟩
  case round =>
    obtain ⟨k, hk, rfl, HO, HB⟩ := hrel
    have hlen : (encK hd ts k).length ≤ 700000 := by have h1 := unhide HLN k; have h2 := unhide HHD; omega
    by_cases hlt : k < n
    · obtain ⟨t, ht⟩ : ∃ t, ts[k]? = some t := ⟨_, List.getElem?_eq_getElem (by have := unhide HN; omega)⟩
      obtain ⟨g, rfl, glt, t0, t1, t2, t3, t4, t5⟩ := unhide HTC k t ht
      have WT : Hid (∀ (u : Value) (U : World), OB U W.heap.size u (encK hd ts k) → W.heap.size ≤ U.heap.size → Calls Tryz.prog 63 #[tmV t, u] U (WrEnds W.heap.size U (encK hd ts k ++ encT t))) := hide fun u U h1 h2 => unhide HW t (List.mem_of_getElem? ht) _ u _ U h1 h2 (by omega)
      have hS : Hid (encK hd ts (k + 1) = encK hd ts k ++ encT t) := hide (by rw [encK, List.getD_eq_getElem?_getD, ht]; rfl)
      obtain ⟨L, hL⟩ : ∃ L, encK hd ts k = L := ⟨_, rfl⟩
      rw [hL] at HO WT hS hlen
      obtain ⟨hcB, hfB⟩ := bcell (unhide HB)
      rw [← hcB g (k * 6) glt] at t0
      rw [← hcB g (k * 6 + 1) glt] at t1
      rw [← hcB g (k * 6 + 2) glt] at t2
      rw [← hcB g (k * 6 + 3) glt] at t3
      rw [← hcB g (k * 6 + 4) glt] at t4
      rw [← hcB g (k * 6 + 5) glt] at t5
      have hbz := (unhide HB).size
      have hzg : g < wr.heap.size := by omega
      have hk0 : (0 : Int) ≤ (k : Int) := by omega
      have hk1 : (k : Int) < (n : Int) := by omega
      have O1 := hide (fun o => World.ownsRow.alloc (unhide HO) o)
      obtain ⟨a', c', rfl⟩ := (unhide HO).form
      unfold tmV at WT
      clear hcB hfB ht hL hlen
      go_wp2_with (go_at_call 63; refine (unhide WT _ _ (unhide O1 _) (by simp; omega)).mono ?_; rintro e w2 ⟨v2, rfl, ho2, hb2⟩; have HO2 := hide ho2; have HB2 := hide (((unhide HB).alloc hbz _).trans hb2); clear ho2 hb2)
      exact ⟨⟨k + 1, by omega, rfl, hide (by rw [unhide hS]; exact unhide HO2), HB2⟩, by simp [intOf]; omega⟩
    · have : k = n := by omega
      subst this
      have d1 : wr.cell? ⟨pb, o + 1, none⟩ = some (.slice ra m rc) := ((unhide HB).cell (p := ⟨pb, o + 1, none⟩) plt).trans c1
      generalize encK hd ts k = L at *
      go_wp2_with fail
      go_loopw [3, 39] (fun u i wr => ∃ j : Nat, j ≤ m ∧ i = .int .i64 j ∧ Hid (OB wr W.heap.size u (encR L rs j)) ∧ Hid (Below W.heap.size W wr)) (fun _ i _ => m - (intOf i).toNat)
      case atStart => exact ⟨0, Nat.zero_le _, rfl, HO, HB⟩
      case round =>
        obtain ⟨j, hj, rfl, HO', HB'⟩ := hrel
        by_cases hlt2 : j < m
        · obtain ⟨r, hr⟩ : ∃ r, rs[j]? = some r := ⟨_, List.getElem?_eq_getElem (by have := unhide HM; omega)⟩
          obtain ⟨g, rfl, glt, t0⟩ := unhide HRC j r hr
          have hr255 : r ≤ 255 := unhide HRS r (List.mem_of_getElem? hr)
          have hS : Hid (encR L rs (j + 1) = encR L rs j ++ [UInt8.ofNat r]) := hide (by rw [encR, List.getD_eq_getElem?_getD, hr]; rfl)
          have hlen2 : (encR L rs j).length ≤ 1000000 := by rw [encR_length]; omega
          obtain ⟨L2, hL2⟩ : ∃ L2, encR L rs j = L2 := ⟨_, rfl⟩
          rw [hL2] at HO' hS hlen2
          obtain ⟨hcB, hfB⟩ := bcell (unhide HB')
          rw [← hcB g j glt] at t0
          have hbz := (unhide HB').size
          have hzg : g < wr.heap.size := by omega
          have hj0 : (0 : Int) ≤ (j : Int) := by omega
          have hj1 : (j : Int) < (m : Int) := by omega
          have hr0 : (0 : Int) ≤ (r : Int) := by omega
          have hr1 : (r : Int) < 256 := by omega
          obtain ⟨g5, cap5, w5, hap, HO5, HB5⟩ := OB.app (unhide HO') hbz (UInt8.ofNat r) (r : Int) (u8_of hr255) hlen2 36 _ rfl rfl
          have HB6 := hide ((unhide HB').trans (unhide HB5))
          obtain ⟨a', c', rfl⟩ := OB.form (unhide HO')
          clear hcB hfB hr hL2 hlen2 HB5
          go_wp2_with fail
          exact ⟨⟨j + 1, by omega, rfl, hide (by rw [unhide hS]; exact unhide HO5), HB6⟩, by simp [intOf]; omega⟩
        · have : j = m := by omega
          subst this
          go_wp2_with fail
          exact unhide HQ _ _ ⟨_, rfl, unhide HO', unhide HB'⟩
end Go.Proofs.YtfkcaldjphakpabGreatDoor
