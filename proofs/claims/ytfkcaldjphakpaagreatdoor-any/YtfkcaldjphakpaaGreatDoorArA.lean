/- A list of properties as an argument of a law. A program as bytes. Compile of selectors that are all read, and together have no more terms than there may be. runs: a small program is made and run. Bytes as an argument of a law; what the library's tables and variables are at a row's own world. -/
import Derived.Test.YtfkcaldjphakpaaGreatDoorLoA
import Derived.WalkKit
import Derived.ProofKit
import Derived.Deep.Slices
import Derived.Deep.Strs
import Derived.SizedLaws
import Derived.WideKeyArgs
import Derived.Laws.Rows
import Derived.Test.YtfkcaldjphakpaaGreatDoorByA
import Derived.Test.YtfkcaldjphakpaaGreatDoorPrB
import Derived.Test.YtfkcaldjphakpaaGreatDoorMkB
import Derived.Test.YtfkcaldjphakpaaGreatDoorCaA
import Derived.Test.YtfkcaldjphakpaaGreatDoorRows
import Derived.Lib.LaidTab
import Derived.Lib.LaidU8
import Derived.Shelf.Vars
namespace Go.Proofs.YtfkcaldjphakpaaGreatDoor
open Go.RowKit

section
open Go.ChangeShapes Go.WideShapes Go.ChangeAt Go.RowKit Go.Deep

theorem cellsProp : Tryz.prog.cellsOf 28 = 4 := by kernel_rfl
theorem cellsVal : Tryz.prog.cellsOf 26 = 3 := by kernel_rfl
theorem cellsStr : Tryz.prog.cellsOf 9 = 1 := by kernel_rfl
theorem cellsInt : Tryz.prog.cellsOf 3 = 1 := by kernel_rfl
theorem cellsI64 : Tryz.prog.cellsOf 2 = 1 := by kernel_rfl
theorem bytesProp : Tryz.prog.bytesOf 28 = 48 := by kernel_rfl

section
variable {H : Type} {enc : TypeId × Value → H}

theorem wf_rng {n : Int} (h : (Lit.int .i64 n).wf = true) : Rng n := by
  simp only [Lit.wf, Bool.and_eq_true, decide_eq_true_eq] at h
  exact ⟨h.1, h.2⟩

set_option maxRecDepth 100000 in
/-- A property, opened. -/
theorem open_prop {W : World} {base : Nat} {sp : Nat → Bool} {n : Nat} {cs : List Value} {x : DataW H × List MemPlace} (h : DataW.trod enc Tryz.prog W base sp true n 28 cs = some x) :
    ∃ (nm st : ByteArray) (k m : Int), cs = [.string nm, .int .i64 k, .int .i64 m, .string st] ∧ x = (.agg [.lit (.string nm.data.toList), .agg [.lit (.int .i64 k), .lit (.int .i64 m), .lit (.string st.data.toList)]], []) ∧ Rng m := by
  obtain ⟨y0, y1, n1, rfl, hl, t0, t1⟩ := trod_struct2 Tryz.underlying28 h
  rw [cellsProp] at hl
  match cs, hl with
  | [c0, c1, c2, c3], _ =>
    simp only [cellsStr, cellsVal, List.drop, List.take] at t0 t1
    obtain ⟨nm, h0, rfl, _⟩ := DataW.trod_string Tryz.underlying9 t0
    obtain ⟨z0, z1, z2, n2, rfl, _, u0, u1, u2⟩ := trod_struct3 Tryz.underlying26 t1
    simp only [cellsInt, cellsI64, cellsStr, List.drop, List.take] at u0 u1 u2
    obtain ⟨k, h1, rfl, _⟩ := DataW.trod_int Tryz.underlying3 u0
    obtain ⟨m, h2, rfl, wm⟩ := DataW.trod_int Tryz.underlying2 u1
    obtain ⟨st, h3, rfl, _⟩ := DataW.trod_string Tryz.underlying9 u2
    simp only [List.cons.injEq, and_true] at h0 h1 h2 h3
    subst h0 h1 h2 h3
    exact ⟨nm, st, k, m, rfl, rfl, wf_rng wm⟩

theorem weights_all {P : Program} {e : TypeId} {d : DataW H} : ∀ {l : List (DataW H)}, d ∈ l → ∀ n ∈ d.weights P e, n ∈ DataW.weightsAll P e l := by
  intro l
  induction l with
  | nil => intro h; cases h
  | cons a r ih =>
    intro h n hn
    rw [DataW.weightsAll]
    rcases List.mem_cons.1 h with rfl | h
    · exact List.mem_append_left _ hn
    · exact List.mem_append_right _ (ih h n hn)

set_option maxRecDepth 100000 in
theorem weights_prop (nm st : List UInt8) (k m : Int) : (DataW.agg [.lit (.string nm), .agg [.lit (.int .i64 k), .lit (.int .i64 m), .lit (.string st)]] : DataW H).weights Tryz.prog 28 = [nm.length, st.length] := by
  rw [DataW.weights, Tryz.underlying28]
  simp only [List.map, DataW.weightsEach, DataW.weights, Tryz.underlying26]
  rfl

set_option maxRecDepth 100000 in
/-- A list of properties, opened. -/
theorem open_event {W : World} {base : Nat} {v : Value} {d : DataW H} {pl : List MemPlace} (hval : Value.okWide Tryz.prog W .any base 29 v) (h : DataW.Trod enc Tryz.prog W 0 (fun _ => true) true 29 v d pl)
    (hw : ∀ n ∈ d.weights Tryz.prog 29, n ≤ reachBytes) : ∃ ps, EvIn W v ps ∧ EvGood ps := by
  obtain ⟨fuel, ht⟩ := h
  obtain ⟨a0, len0, cap0, rfl⟩ := okWide_slice Tryz.underlying29 hval
  rcases open_slice Tryz.underlying29 ht with ⟨hc, hx⟩ | ⟨a, len, cap, m, n, D, Pl, hc, _, hl, hm, hmm, hx, hall⟩
  · simp [Value.cells] at hc
    obtain ⟨rfl, rfl, rfl⟩ := hc
    exact ⟨[], .inl ⟨rfl, none, 0, rfl⟩, ⟨(fun p hp => by cases hp), (fun p hp => by cases hp), Nat.zero_le _⟩⟩
  · simp [Value.cells] at hc
    obtain ⟨rfl, rfl, rfl⟩ := hc
    simp only [if_true] at hmm
    subst hmm
    simp only [Prod.mk.injEq] at hx
    obtain ⟨rfl, rfl⟩ := hx
    rw [cellsProp] at hall
    have each : ∀ i, i < len0 → ∃ p : Pr, (W.cell? (a.add (i * 4)) = some (.string (BS p.name)) ∧ W.cell? (a.add (i * 4 + 1)) = some (.int .i64 p.val.kind) ∧ W.cell? (a.add (i * 4 + 2)) = some (.int .i64 p.val.num) ∧ W.cell? (a.add (i * 4 + 3)) = some (.string (BS p.val.str))) ∧ Rng p.val.num ∧
        D i = .agg [.lit (.string p.name), .agg [.lit (.int .i64 p.val.kind), .lit (.int .i64 p.val.num), .lit (.string p.val.str)]] := by
      intro i hi
      obtain ⟨cs', h1, h2⟩ := hall i (by omega)
      obtain ⟨nm, st, k, mm, rfl, hD, hr⟩ := open_prop h2
      simp only [Prod.mk.injEq] at hD
      obtain ⟨_, _, hcell⟩ := World.cells?_some h1
      have c0 := hcell 0 (by decide)
      have c1 := hcell 1 (by decide)
      have c2 := hcell 2 (by decide)
      have c3 := hcell 3 (by decide)
      rw [add_add] at c0 c1 c2 c3
      exact ⟨⟨nm.data.toList, ⟨k, mm, st.data.toList⟩⟩, ⟨c0, c1, c2, c3⟩, hr, hD.1⟩
    have inh : Inhabited Pr := ⟨⟨[], nV⟩⟩
    obtain ⟨f, hf⟩ := choose_lt each
    have hget : ∀ (k : Nat) (p : Pr), ((List.range len0).map f)[k]? = some p → k < len0 ∧ p = f k := by
      intro k p hk
      rw [List.getElem?_map] at hk
      cases hr : (List.range len0)[k]? with
      | none => rw [hr] at hk; cases hk
      | some j =>
        rw [hr] at hk
        obtain ⟨h1, h2⟩ := List.getElem?_eq_some_iff.1 hr
        rw [List.length_range] at h1
        rw [List.getElem_range] at h2
        subst h2
        exact ⟨h1, by simpa using hk.symm⟩
    have hlen : ((List.range len0).map f).length = len0 := by rw [List.length_map, List.length_range]
    have hmem : ∀ p ∈ (List.range len0).map f, ∃ k, k < len0 ∧ p = f k := by
      intro p hp
      obtain ⟨k, hk⟩ := List.getElem?_of_mem hp
      exact ⟨k, hget k p hk⟩
    have hwt := hw
    rw [DataW.weights, Tryz.underlying29] at hwt
    simp only [List.mem_cons, List.mem_append] at hwt
    refine ⟨(List.range len0).map f, ?_, ⟨?_, ?_, ?_⟩⟩
    · cases len0 with
      | zero => exact .inl ⟨rfl, some a, _, rfl⟩
      | succ l =>
        right
        obtain ⟨b, off, spot⟩ := a
        have hs : spot = none := by
          have := World.cell?_spot (hf 0 (by omega)).1.1
          simpa [Addr.add] using this
        subst hs
        have hadd : ∀ j, (⟨b, off, none⟩ : Addr).add j = ⟨b, off + j, none⟩ := by intro j; simp [Addr.add]
        refine ⟨b, off, _, by rw [hlen], by rw [hlen]; exact hl, ?_, ?_⟩
        · intro k p hk
          obtain ⟨hk1, rfl⟩ := hget k p hk
          obtain ⟨⟨c0, c1, c2, c3⟩, _, _⟩ := hf k hk1
          rw [hadd] at c0 c1 c2 c3
          exact ⟨c0, c1, c2, c3⟩
        · have := (hf 0 (by omega)).1.1
          rw [hadd] at this
          exact block_lt_of_cell this
    · intro p hp
      obtain ⟨k, hk, rfl⟩ := hmem p hp
      have hD := (hf k hk).2.2
      have hin : D k ∈ (List.range len0).map D := List.mem_map.2 ⟨k, List.mem_range.2 hk, rfl⟩
      have h2 := fun n hn => hwt n (.inr (.inl (weights_all hin n hn)))
      rw [hD, weights_prop] at h2
      have e1 := h2 _ (by simp : (f k).name.length ∈ [(f k).name.length, (f k).val.str.length])
      have e2 := h2 _ (by simp : (f k).val.str.length ∈ [(f k).name.length, (f k).val.str.length])
      unfold reachBytes at e1 e2
      exact ⟨by omega, by omega⟩
    · intro p hp
      obtain ⟨k, hk, rfl⟩ := hmem p hp
      exact (hf k hk).2.1
    · have := hwt _ (.inl rfl)
      rw [bytesProp, List.length_map, List.length_range] at this
      rw [hlen]
      unfold reachBytes at this
      omega

end
end

section
attribute [local go_sem ↓] app_fold

/-- What it is to write a term rightly. -/
def WriteOk (t : Tm) : Prop := ∀ (base : Nat) (v : Value) (l : List UInt8) (W : World), OB W base v l → base ≤ W.heap.size → l.length ≤ 800000 → Calls Tryz.prog 117 #[tmV t, v] W (WrEnds base W (l ++ encT t))

theorem writeOk_plain (t : Tm) (ht : SmallT t) (h : t.op ∈ [0, 1, 2, 3, 4, 5, 6, 7, 8, 10, 11, 16, 17, 18, 19, 23]) : WriteOk t := by
  intro base v l W h1 h2 h3
  simp only [List.mem_cons, List.not_mem_nil, or_false] at h
  rcases h with h | h | h | h | h | h | h | h | h | h | h | h | h | h | h | h
  · exact write_0 base v l t W h1 h2 h3 ht h _ fun _ _ h => h
  · exact write_1 base v l t W h1 h2 h3 ht h _ fun _ _ h => h
  · exact write_2 base v l t W h1 h2 h3 ht h _ fun _ _ h => h
  · exact write_3 base v l t W h1 h2 h3 ht h _ fun _ _ h => h
  · exact write_4 base v l t W h1 h2 h3 ht h _ fun _ _ h => h
  · exact write_5 base v l t W h1 h2 h3 ht h _ fun _ _ h => h
  · exact write_6 base v l t W h1 h2 h3 ht h _ fun _ _ h => h
  · exact write_7 base v l t W h1 h2 h3 ht h _ fun _ _ h => h
  · exact write_8 base v l t W h1 h2 h3 ht h _ fun _ _ h => h
  · exact write_10 base v l t W h1 h2 h3 ht h _ fun _ _ h => h
  · exact write_11 base v l t W h1 h2 h3 ht h _ fun _ _ h => h
  · exact write_16 base v l t W h1 h2 h3 ht h _ fun _ _ h => h
  · exact write_17 base v l t W h1 h2 h3 ht h _ fun _ _ h => h
  · exact write_18 base v l t W h1 h2 h3 ht h _ fun _ _ h => h
  · exact write_19 base v l t W h1 h2 h3 ht h _ fun _ _ h => h
  · exact write_23 base v l t W h1 h2 h3 ht h _ fun _ _ h => h

def encK (hd : List UInt8) (ts : List Tm) : Nat → List UInt8
  | 0 => hd
  | k + 1 => encK hd ts k ++ encT (ts.getD k (.bare 3))
def encR (hd : List UInt8) (rs : List Nat) : Nat → List UInt8
  | 0 => hd
  | k + 1 => encR hd rs k ++ [UInt8.ofNat (rs.getD k 0)]
/-- The bytes of a program. -/
def bytesP (ts : List Tm) (rs : List Nat) : List UInt8 := encR (encK [UInt8.ofNat ts.length, UInt8.ofNat rs.length] ts ts.length) rs rs.length

theorem lenB_length (s : List UInt8) : (lenB s).length = s.length + 1 := rfl
theorem encT_length (t : Tm) (ht : SmallT t) : (encT t).length ≤ 1000 := by
  have h1 := ht.str
  have h2 := ht.esc
  unfold encT
  split
  · simp [nBytes_length]
  split
  · simp [lenB_length]; omega
  split
  · simp [lenB_length]; omega
  split
  · simp
  split <;> simp
theorem encK_length (hd : List UInt8) (ts : List Tm) (h : ∀ t ∈ ts, SmallT t) (k : Nat) : (encK hd ts k).length ≤ hd.length + k * 1000 := by
  induction k with
  | zero => simp [encK]
  | succ k ih =>
    rw [encK, List.length_append]
    have : (encT (ts.getD k (.bare 3))).length ≤ 1000 := by
      apply encT_length
      rw [List.getD_eq_getElem?_getD]
      cases hk : ts[k]? with
      | none => exact ⟨Nat.zero_le _, Nat.zero_le _, Nat.zero_le _, Nat.zero_le _⟩
      | some t => exact h t (List.mem_of_getElem? hk)
    omega
theorem encR_length (hd : List UInt8) (rs : List Nat) (k : Nat) : (encR hd rs k).length = hd.length + k := by
  induction k with
  | zero => rfl
  | succ k ih => rw [encR, List.length_append, ih, List.length_singleton]; omega

theorem OB.below {B : Nat} {w w' : World} {base : Nat} {v : Value} {l : List UInt8} (h : OB w base v l) (hb : Below B w w') (hB : w.heap.size ≤ B) : OB w' base v l := ownsRow_below h hb hB

set_option maxHeartbeats 2000000 in
set_option maxRecDepth 100000 in
theorem pbytes_any (pb o : Nat) (ts : List Tm) (rs : List Nat) (W : World) (hp : ProgAt W pb o ts rs) (h80 : ts.length ≤ 200) (h8 : rs.length ≤ 200) (hsm : ∀ t ∈ ts, SmallT t) (hw : ∀ t ∈ ts, WriteOk t) (hrs : ∀ r ∈ rs, r ≤ 255) (Q : Ending → World → Prop) (hQ : ∀ e w', WrEnds W.heap.size W (bytesP ts rs) e w' → Q e w') :
    Calls Tryz.prog 71 #[.pointer (some ⟨pb, o, none⟩)] W Q := by
  have HQ := hide hQ
  clear hQ
  unfold bytesP at HQ
  obtain ⟨plt, ⟨tv, tb, c0, hts⟩, rv, rb, c1, hrs'⟩ := hp
  obtain ⟨ta, tc, rfl, hTC⟩ := hts.cells
  obtain ⟨ra, rc, rfl, hRC⟩ := hrs'.cells
  have HTC : Hid _ := hide hTC
  have HRC : Hid _ := hide hRC
  have HW := hide hw
  have HRS := hide hrs
  have HLN : Hid _ := hide (encK_length [UInt8.ofNat ts.length, UInt8.ofNat rs.length] ts hsm)
  clear hTC hRC hts hrs' hw hrs hsm
  obtain ⟨n, hn⟩ : ∃ n, n = ts.length := ⟨_, rfl⟩
  obtain ⟨m, hm⟩ : ∃ m, m = rs.length := ⟨_, rfl⟩
  have HN := hide hn
  have HM := hide hm
  rw [← hn] at c0 h80
  rw [← hm] at c1 h8
  rw [← hn, ← hm] at HQ HLN
  clear hn hm
  have n0 : (0 : Int) ≤ (n : Int) := by omega
  have n1 : (n : Int) < 256 := by omega
  have m0 : (0 : Int) ≤ (m : Int) := by omega
  have m1 : (m : Int) < 256 := by omega
  have O0 : Hid (OB (W.alloc (.cells #[.int .u8 n, .int .u8 m] 5)).drew W.heap.size (.slice (some ⟨W.heap.size, 0, none⟩) 2 2) [UInt8.ofNat n, UInt8.ofNat m]) := hide (by
    refine ⟨rfl, .inr ⟨W.heap.size, 2, #[.int .u8 n, .int .u8 m], rfl, Nat.le_refl _, heap_alloc_new W _, Nat.le_refl _, by decide, rfl, ?_⟩⟩
    show [Value.int .u8 n, Value.int .u8 m] = [Value.int .u8 ((UInt8.ofNat n).toNat : Int), Value.int .u8 ((UInt8.ofNat m).toNat : Int)]
    rw [← u8_of (by omega), ← u8_of (by omega)])
  have B0 : Hid (Below W.heap.size W (W.alloc (.cells #[.int .u8 n, .int .u8 m] 5)).drew) := hide ((Below.refl _ _).alloc (Nat.le_refl _) _).drew
  have HHD : Hid ([UInt8.ofNat n, UInt8.ofNat m].length = 2) := hide rfl
  generalize [UInt8.ofNat n, UInt8.ofNat m] = hd at *
  go_enter Tryz.func71, Tryz.ntmps71
  go_wp2_with fail
  go_region
  all_goals go_wp2_with fail
  go_loopw [3, 26] (fun u i wr => ∃ k : Nat, k ≤ n ∧ i = .int .i64 k ∧ Hid (OB wr W.heap.size u (encK hd ts k)) ∧ Hid (Below W.heap.size W wr)) (fun _ i _ => n - (intOf i).toNat)
  case atStart => exact ⟨0, Nat.zero_le _, rfl, O0, B0⟩
  case round =>
    obtain ⟨k, hk, rfl, HO, HB⟩ := hrel
    have hlen : (encK hd ts k).length ≤ 700000 := by have h1 := unhide HLN k; have h2 := unhide HHD; omega
    by_cases hlt : k < n
    · obtain ⟨t, ht⟩ : ∃ t, ts[k]? = some t := ⟨_, List.getElem?_eq_getElem (by have := unhide HN; omega)⟩
      obtain ⟨g, rfl, glt, t0, t1, t2, t3, t4, t5⟩ := unhide HTC k t ht
      have WT : Hid (∀ (u : Value) (U : World), OB U W.heap.size u (encK hd ts k) → W.heap.size ≤ U.heap.size → Calls Tryz.prog 117 #[tmV t, u] U (WrEnds W.heap.size U (encK hd ts k ++ encT t))) := hide fun u U h1 h2 => unhide HW t (List.mem_of_getElem? ht) _ u _ U h1 h2 (by omega)
      have hS : Hid (encK hd ts (k + 1) = encK hd ts k ++ encT t) := hide (by rw [encK, List.getD_eq_getElem?_getD, ht]; rfl)
      obtain ⟨L, hL⟩ : ∃ L, encK hd ts k = L := ⟨_, rfl⟩
      rw [hL] at HO WT hS hlen
      obtain ⟨hcB, hfB⟩ := bcell (unhide HB)
      rw [← hcB g (k * 6) glt] at t0
      rw [← hcB g (k * 6 + 1) glt] at t1
      rw [← hcB g (k * 6 + 2) glt] at t2
      rw [← hcB g (k * 6 + 3) glt] at t3
      rw [← hcB g (k * 6 + 4) glt] at t4
      rw [← hcB g (k * 6 + 5) glt] at t5
      have hbz := (unhide HB).size
      have hzg : g < wr.heap.size := by omega
      have hk0 : (0 : Int) ≤ (k : Int) := by omega
      have hk1 : (k : Int) < (n : Int) := by omega
      have O1 := hide (fun o => World.ownsRow.alloc (unhide HO) o)
      obtain ⟨a', c', rfl⟩ := (unhide HO).form
      unfold tmV at WT
      clear hcB hfB ht hL hlen
      go_wp2_with (go_at_call 117; refine (unhide WT _ _ (unhide O1 _) (by simp; omega)).mono ?_; rintro e w2 ⟨v2, rfl, ho2, hb2⟩; have HO2 := hide ho2; have HB2 := hide (((unhide HB).alloc hbz _).trans hb2); clear ho2 hb2)
      exact ⟨⟨k + 1, by omega, rfl, hide (by rw [unhide hS]; exact unhide HO2), HB2⟩, by simp [intOf]; omega⟩
    · have : k = n := by omega
      subst this
      have d1 : wr.cell? ⟨pb, o + 1, none⟩ = some (.slice ra m rc) := ((unhide HB).cell (p := ⟨pb, o + 1, none⟩) plt).trans c1
      generalize encK hd ts k = L at *
      go_wp2_with fail
      go_loopw [3, 39] (fun u i wr => ∃ j : Nat, j ≤ m ∧ i = .int .i64 j ∧ Hid (OB wr W.heap.size u (encR L rs j)) ∧ Hid (Below W.heap.size W wr)) (fun _ i _ => m - (intOf i).toNat)
      case atStart => exact ⟨0, Nat.zero_le _, rfl, HO, HB⟩
      case round =>
        obtain ⟨j, hj, rfl, HO', HB'⟩ := hrel
        by_cases hlt2 : j < m
        · obtain ⟨r, hr⟩ : ∃ r, rs[j]? = some r := ⟨_, List.getElem?_eq_getElem (by have := unhide HM; omega)⟩
          obtain ⟨g, rfl, glt, t0⟩ := unhide HRC j r hr
          have hr255 : r ≤ 255 := unhide HRS r (List.mem_of_getElem? hr)
          have hS : Hid (encR L rs (j + 1) = encR L rs j ++ [UInt8.ofNat r]) := hide (by rw [encR, List.getD_eq_getElem?_getD, hr]; rfl)
          have hlen2 : (encR L rs j).length ≤ 1000000 := by rw [encR_length]; omega
          obtain ⟨L2, hL2⟩ : ∃ L2, encR L rs j = L2 := ⟨_, rfl⟩
          rw [hL2] at HO' hS hlen2
          obtain ⟨hcB, hfB⟩ := bcell (unhide HB')
          rw [← hcB g j glt] at t0
          have hbz := (unhide HB').size
          have hzg : g < wr.heap.size := by omega
          have hj0 : (0 : Int) ≤ (j : Int) := by omega
          have hj1 : (j : Int) < (m : Int) := by omega
          have hr0 : (0 : Int) ≤ (r : Int) := by omega
          have hr1 : (r : Int) < 256 := by omega
          obtain ⟨g5, cap5, w5, hap, HO5, HB5⟩ := OB.app (unhide HO') hbz (UInt8.ofNat r) (r : Int) (u8_of hr255) hlen2 51 _ rfl rfl
          have HB6 := hide ((unhide HB').trans (unhide HB5))
          obtain ⟨a', c', rfl⟩ := OB.form (unhide HO')
          clear hcB hfB hr hL2 hlen2 HB5
          go_wp2_with fail
          exact ⟨⟨j + 1, by omega, rfl, hide (by rw [unhide hS]; exact unhide HO5), HB6⟩, by simp [intOf]; omega⟩
        · have : j = m := by omega
          subst this
          go_wp2_with fail
          exact unhide HQ _ _ ⟨_, rfl, unhide HO', unhide HB'⟩
end

section
/-- The first k cores are added. -/
def addK (cs : List Co) : Nat → List Tm × List Nat
  | 0 => ([], [])
  | k + 1 => ((placeL (addK cs k).1 (cs.getD k (.leaf ⟨3, 0, [], []⟩))).1, (addK cs k).2 ++ [(placeL (addK cs k).1 (cs.getD k (.leaf ⟨3, 0, [], []⟩))).2])

theorem addK_roots (cs : List Co) (k : Nat) : (addK cs k).2.length = k ∧ ∀ r ∈ (addK cs k).2, r < (addK cs k).1.length := by
  induction k with
  | zero => exact ⟨rfl, fun r hr => by simp [addK] at hr⟩
  | succ k ih =>
    have hp := placeL_len (addK cs k).1 (cs.getD k (.leaf ⟨3, 0, [], []⟩))
    refine ⟨by rw [addK, List.length_append, ih.1]; rfl, fun r hr => ?_⟩
    rw [addK, List.mem_append] at hr
    rw [addK]
    rcases hr with hr | hr
    · have := ih.2 r hr
      show r < (placeL (addK cs k).1 (cs.getD k (.leaf ⟨3, 0, [], []⟩))).1.length
      omega
    · simp at hr
      subst hr
      exact hp.2.2

/-- A text whose core is known. -/
def TxOk (s : List UInt8) (c : Co) : Prop := ∃ t, readR (BS s) = .ok t ∧ coreA t = c ∧ (HasIn t → AmongOk) ∧ GoodC c ∧ sizeC c ≤ 10000 ∧ s.length ≤ 140737488355328

theorem MkAt.prog {W : World} {mb mp : Nat} {ts : List Tm} {rs : List Nat} {tv rv : Value} (h : MkAt W mb mp ts rs tv rv) : ProgAt W mb 0 ts rs := ⟨h.lt, ⟨tv, _, h.c0, h.ats⟩, rv, _, h.c1, h.ars⟩

theorem below_mk {w W W' : World} {mb mp : Nat} {ts : List Tm} {rs : List Nat} {tv rv tv' rv' : Value} (hb : Below w.heap.size w W) (hm : MkAt W mb mp ts rs tv rv) (hk : MkKept mb mp tv rv tv' rv' W W') (hp : w.heap.size ≤ mp) : Below w.heap.size w W' := by
  have hlo := hm.lo
  refine ⟨hk.os.trans hb.os, hk.tape.trans hb.tape, hk.output.trans hb.output, Nat.le_trans hb.size hk.size, fun k hlt => (hk.block k (by have := hb.size; omega) (fun ho => ?_)).trans (hb.block k hlt)⟩
  rcases ho with rfl | rfl | ho | ho
  · omega
  · omega
  · have := (hm.ats.lt k ho).1; omega
  · have := (hm.ars.lt k ho).1; omega

theorem add_ends (c : Co) (hg : GoodC c) (B mb mp : Nat) (W : World) (v : Value) (ts : List Tm) (rs : List Nat) (tv rv : Value) (hm : MkAt W mb mp ts rs tv rv) (hs : CoAt B W.heap.size W v c) (ho : Out B W.heap.size mb mp tv rv) (hn : ts.length + sizeC c ≤ 100000) (hr : rs.length ≤ 1000) :
    Calls Tryz.prog 69 #[.pointer (some ⟨mb, 0, none⟩), v] W fun e w' => ∃ tv' rv', e = .returned (.tuple #[]) ∧ MkAt w' mb mp (placeL ts c).1 (rs ++ [(placeL ts c).2]) tv' rv' ∧ MkKept mb mp tv rv tv' rv' W w' :=
  madd_any c hg B W.heap.size mb mp W v ts rs tv rv hm hs (Nat.le_refl _) ho hn hr _ fun _ tv' rv' h1 h2 => ⟨tv', rv', rfl, h1, h2⟩

set_option maxHeartbeats 2000000 in
set_option maxRecDepth 100000 in
theorem compile_ok (ss : List (List UInt8)) (cs : List Co) (hlen : cs.length = ss.length) (h8 : ss.length ≤ 8) (htx : ∀ (k : Nat) (s : List UInt8) (c : Co), ss[k]? = some s → cs[k]? = some c → TxOk s c) (h80 : ∀ k, k ≤ ss.length → (addK cs k).1.length ≤ 80)
    (hw : ∀ t ∈ (addK cs ss.length).1, SmallT t ∧ WriteOk t) (a : Option Addr) (cap : Nat) (w : World) (hL : LibOk w) (hss : ∀ (k : Nat) (s : List UInt8), ss[k]? = some s → ∃ sb so, a = some ⟨sb, so, none⟩ ∧ sb < w.heap.size ∧ w.cell? ⟨sb, so + k, none⟩ = some (.string (BS s)))
    (Q : Ending → World → Prop) (hQ : ∀ v w', OB w' w.heap.size v (bytesP (addK cs ss.length).1 (addK cs ss.length).2) → Below w.heap.size w w' → Q (.returned (.tuple #[v, .int .i64 0, .int .i64 0])) w') :
    Calls Tryz.prog 41 #[.slice a ss.length cap] w Q := by
  have HQ := hide hQ
  have HL := hide hL
  have HSS := hide hss
  have HTX := hide htx
  have H80 := hide h80
  have HW := hide hw
  have HLEN := hide hlen
  have NM := hide (newMaker_any w)
  clear hQ hL hss htx h80 hw hlen
  obtain ⟨n, hn⟩ : ∃ n, ss.length = n := ⟨_, rfl⟩
  rw [hn] at HQ H80 HW HLEN h8 ⊢
  have HN := hide hn
  clear hn
  have hd8 : decide ((n : Int) > 8) = false := decide_eq_false (by omega)
  go_enter Tryz.func41, Tryz.ntmps41
  go_wp2_with (go_at_call 68; refine (unhide NM).mono ?_; rintro e w1 ⟨rfl, hm1, hb1⟩; have M1 := hide hm1; have B1 := hide hb1; clear hm1 hb1)
  go_loopw [17] (fun i wr => ∃ (k : Nat) (tv rv : Value), k ≤ n ∧ i = .int .i64 k ∧ Hid (MkAt wr (w.heap.size + 1) w.heap.size (addK cs k).1 (addK cs k).2 tv rv) ∧ Hid (Below w.heap.size w wr)) (fun i _ => n - (intOf i).toNat)
  case atStart => exact ⟨0, _, _, Nat.zero_le _, rfl, M1, B1⟩
  case round =>
    obtain ⟨k, tv, rv, hk, rfl, MK, HB⟩ := hrel
    by_cases hlt : k < n
    · obtain ⟨s, hs⟩ : ∃ s, ss[k]? = some s := ⟨_, List.getElem?_eq_getElem (by have := unhide HN; omega)⟩
      obtain ⟨c, hc⟩ : ∃ c, cs[k]? = some c := ⟨_, List.getElem?_eq_getElem (by have := unhide HLEN; omega)⟩
      obtain ⟨sb, so, rfl, sblt, s0⟩ := unhide HSS k s hs
      obtain ⟨t, hrd, hcore, hin, hgood, hsize, hslen⟩ := unhide HTX k s c hs hc
      have hbz := (unhide HB).size
      have d0 : wr.cell? ⟨sb, so + k, none⟩ = some (.string (BS s)) := ((unhide HB).cell (p := ⟨sb, so + k, none⟩) sblt).trans s0
      have hk0 : (0 : Int) ≤ (k : Int) := by omega
      have hk1 : (k : Int) < (n : Int) := by omega
      have RD : Hid (Calls Tryz.prog 36 #[.string (BS s)] wr (ReadEnds wr (.ok t))) := hide (hrd ▸ read_any (BS s) wr ((unhide HL).below (unhide HB) (Nat.le_refl _)).err (by rw [BS_size]; exact hslen))
      have CO : Hid (∀ (lo : Nat) (U : World) (v : Value), Below wr.heap.size wr U → IsNode lo U v t → Calls Tryz.prog 40 #[v] U (Ends wr.heap.size U c)) := hide fun lo U v hU hn => hcore ▸ cof_every lo t hin (ok_of_read hrd) wr.heap.size U v hU.size ((unhide HL).below (below_any (unhide HB) hU) (Nat.le_refl _)) hn
      have hS : Hid (addK cs (k + 1) = ((placeL (addK cs k).1 c).1, (addK cs k).2 ++ [(placeL (addK cs k).1 c).2])) := hide (by rw [addK, List.getD_eq_getElem?_getD, hc]; rfl)
      have hle := unhide H80 k hk
      have hrl := (addK_roots cs k).1
      have AD : Hid (∀ (U : World) (v : Value), Below wr.heap.size wr U → CoAt wr.heap.size U.heap.size U v c → Calls Tryz.prog 69 #[.pointer (some ⟨w.heap.size + 1, 0, none⟩), v] U fun e w' => ∃ tv' rv', e = .returned (.tuple #[]) ∧ MkAt w' (w.heap.size + 1) w.heap.size (addK cs (k + 1)).1 (addK cs (k + 1)).2 tv' rv' ∧ Below w.heap.size w w') := hide (by
        intro U v hU hcU
        have hmU := (unhide MK).below hU
        refine (add_ends c hgood wr.heap.size _ _ U v _ _ tv rv hmU hcU (fun j hj => .inl ((unhide MK).own_lt hj)) (by omega) (by omega)).mono ?_
        rintro e w' ⟨tv', rv', rfl, h1, h2⟩
        rw [unhide hS]
        exact ⟨tv', rv', rfl, h1, below_mk (below_any (unhide HB) hU) hmU h2 (Nat.le_refl _)⟩)
      have hle2 := unhide H80 (k + 1) (by omega)
      have hd80 : decide (((addK cs (k + 1)).1.length : Int) > 80) = false := decide_eq_false (by omega)
      obtain ⟨R, hR⟩ : ∃ R, addK cs (k + 1) = R := ⟨_, rfl⟩
      rw [hR] at AD hd80
      have HR := hide hR
      clear hS hle hrl hle2 hR hs hc hrd hcore hin hgood hsize hslen
      go_wp2_with (first | (go_at_call 36; refine (unhide RD).mono ?_; rintro e w2 ⟨hb2, v2, rfl, hn2⟩; obtain ⟨vb, rfl⟩ := hn2.ptr; have N2 := hide hn2; have B2 := hide hb2; clear hn2 hb2) | (go_at_call 40; refine (unhide CO _ _ _ (unhide B2) (unhide N2)).mono ?_; rintro e w3 ⟨b3, rfl, hc3, hb3⟩; have C3 := hide hc3; have B3 := hide (below_any (unhide B2) hb3); clear hc3 hb3) | (go_at_call 69; refine (unhide AD _ _ (unhide B3) (unhide C3)).mono ?_; rintro e w4 ⟨tv4, rv4, rfl, hm4, hb4⟩; have M4 := hide hm4; have B4 := hide hb4; obtain ⟨a4, c4, rfl⟩ := hm4.ats.form; have e4 := hm4.c0; clear hm4 hb4) | (go_at_call 70; refine (terms_any _ 0 _ _ _ _ e4).mono ?_; rintro e w5 ⟨rfl, rfl⟩))
      exact ⟨⟨k + 1, _, _, by omega, rfl, by rw [unhide HR]; exact M4, B4⟩, by simp [intOf]; omega⟩
    · have : k = n := by omega
      subst this
      have hP := (unhide MK).prog
      have hroots := addK_roots cs k
      have hle := unhide H80 k (Nat.le_refl _)
      have BY := hide (pbytes_any (w.heap.size + 1) 0 _ _ wr hP (by omega) (by omega) (fun t ht => (unhide HW t ht).1) (fun t ht => (unhide HW t ht).2) (fun r hr => by have := hroots.2 r hr; omega) _ (fun e w' h => h))
      clear hP hroots hle
      go_wp2_with (go_at_call 71; refine (unhide BY).mono ?_; rintro e w2 ⟨v2, rfl, ho2, hb2⟩; have O2 := hide ho2; have B2 := hide hb2; obtain ⟨a2, c2, rfl⟩ := ho2.form; clear ho2 hb2)
      refine bodyPost_ret (by simp [results, Tryz.results41, go_sem] <;> rfl) rfl ?_
      exact unhide HQ _ _ (by
        have h := unhide O2
        refine ⟨h.1, ?_⟩
        rcases h.2 with hn | ⟨g, cap, cur, hv, hbg, rest⟩
        · exact .inl hn
        · exact .inr ⟨g, cap, cur, hv, Nat.le_trans (unhide HB).size hbg, rest⟩) ((unhide HB).trans ((unhide B2).mono (unhide HB).size))
end

section
def text5 : List UInt8 := [97, 32, 62, 32, 53]
def text4 : List UInt8 := [97, 32, 62, 32, 52]
def gtA (n : Int) : Ast := .bin ⟨12, 2, 0, [], [], []⟩ (.leaf ⟨0, 0, 0, [97], [], []⟩) (.leaf ⟨1, 4, n, [], [], []⟩)
def gtC (n : Int) : Co := .bin ⟨10, 0, [], []⟩ (.leaf ⟨1, n, [], []⟩) (.leaf ⟨0, 0, [97], []⟩)
set_option maxRecDepth 100000 in
theorem read5 : readR (BS text5) = .ok (gtA 5) := by kernel_rfl
set_option maxRecDepth 100000 in
theorem read4 : readR (BS text4) = .ok (gtA 4) := by kernel_rfl
theorem core5 : coreA (gtA 5) = gtC 5 := by kernel_rfl
theorem core4 : coreA (gtA 4) = gtC 4 := by kernel_rfl
theorem notIn (n : Int) : ¬ HasIn (gtA n) := by simp [gtA, HasIn]
theorem gtC_good (n : Int) (h : Rng n) : GoodC (gtC n) :=
  ⟨⟨⟨by decide, by decide⟩, rng0, by decide, by decide⟩, ⟨⟨by show (0 : Int) ≤ 1; decide, by show (1 : Int) ≤ 23; decide⟩, h, Nat.zero_le _, Nat.zero_le _⟩, ⟨⟨by decide, by decide⟩, rng0, by decide, by decide⟩⟩

def twoT : List (List UInt8) := [text5, text4]
def twoC : List Co := [gtC 5, gtC 4]
def twoTm : List Tm := [⟨1, 0, 0, 5, [], []⟩, ⟨0, 0, 0, 0, [97], []⟩, ⟨10, 0, 1, 0, [], []⟩, ⟨1, 0, 0, 4, [], []⟩, ⟨10, 3, 1, 0, [], []⟩]
theorem add2 : addK twoC 2 = (twoTm, [2, 4]) := by kernel_rfl
theorem add1 : (addK twoC 1).1.length = 3 := by kernel_rfl
def twoB : List UInt8 := bytesP twoTm [2, 4]
set_option maxRecDepth 100000 in
theorem run2 : runR twoB evs = ([1], 0) := by kernel_rfl

theorem OB.bytes {w : World} {base : Nat} {v : Value} {l : List UInt8} (h : OB w base v l) : BytesAt w w.heap.size v l := by
  have h0 := h
  rcases h.2 with ⟨rfl, hn⟩ | ⟨g, cap, cur, rfl, hbg, hgg, hcap, _⟩
  · refine ⟨none, 0, by rw [hn], by omega, fun i x hi => ?_⟩
    have := (List.getElem?_eq_some_iff.1 hi).1
    omega
  · refine ⟨_, cap, rfl, hcap, fun i x hi => ⟨g, 0, rfl, (Array.getElem?_eq_some_iff.1 hgg).1, ?_⟩⟩
    have := World.ownsRow.cells h0 (g := g) rfl i (.int .u8 (x.toNat : Int)) (by simp [byCells, hi])
    have hadd : (⟨g, 0, none⟩ : Addr).add i = ⟨g, i, none⟩ := by unfold Addr.add; split <;> simp_all
    rw [hadd] at this
    rw [Nat.zero_add]
    exact this

theorem compile_two (w : World) (hL : LibOk w) (sb : Nat) (hlt : sb < w.heap.size) (h0 : w.cell? ⟨sb, 0, none⟩ = some (.string (BS text5))) (h1 : w.cell? ⟨sb, 1, none⟩ = some (.string (BS text4))) :
    Calls Tryz.prog 41 #[.slice (some ⟨sb, 0, none⟩) 2 2] w fun e w' => ∃ v, e = .returned (.tuple #[v, .int .i64 0, .int .i64 0]) ∧ OB w' w.heap.size v twoB ∧ Below w.heap.size w w' := by
  refine compile_ok twoT twoC rfl (by decide) (fun k s c hs hc => ?_) (fun k hk => ?_) (fun t ht => ?_) _ 2 w hL (fun k s hs => ?_) _ (fun v w' ho hb => ?_)
  · match k, hs, hc with
    | 0, hs, hc =>
      obtain rfl : text5 = s := by simpa [twoT] using hs
      obtain rfl : gtC 5 = c := by simpa [twoC] using hc
      exact ⟨gtA 5, read5, core5, fun h => absurd h (notIn 5), gtC_good 5 ⟨by decide, by decide⟩, by decide, by decide⟩
    | 1, hs, hc =>
      obtain rfl : text4 = s := by simpa [twoT] using hs
      obtain rfl : gtC 4 = c := by simpa [twoC] using hc
      exact ⟨gtA 4, read4, core4, fun h => absurd h (notIn 4), gtC_good 4 ⟨by decide, by decide⟩, by decide, by decide⟩
    | k + 2, hs, hc => simp [twoT] at hs
  · have hk2 : k ≤ 2 := hk
    match k, hk2 with
    | 0, _ => exact Nat.zero_le _
    | 1, _ => rw [add1]; decide
    | 2, _ => rw [add2]; decide
  · have ht' : t ∈ twoTm := by have := ht; rw [show twoT.length = 2 from rfl, add2] at this; exact this
    have hs : SmallT t := by
      simp only [twoTm, List.mem_cons, List.not_mem_nil, or_false] at ht'
      rcases ht' with rfl | rfl | rfl | rfl | rfl <;> exact ⟨by decide, by decide, by decide, by decide⟩
    refine ⟨hs, writeOk_plain t hs ?_⟩
    simp only [twoTm, List.mem_cons, List.not_mem_nil, or_false] at ht'
    rcases ht' with rfl | rfl | rfl | rfl | rfl <;> decide
  · match k, hs with
    | 0, hs =>
      obtain rfl : text5 = s := by simpa [twoT] using hs
      exact ⟨sb, 0, rfl, hlt, h0⟩
    | 1, hs =>
      obtain rfl : text4 = s := by simpa [twoT] using hs
      exact ⟨sb, 0, rfl, hlt, h1⟩
    | k + 2, hs => simp [twoT] at hs
  · rw [show twoT.length = 2 from rfl, add2] at ho
    exact ⟨v, rfl, ho, hb⟩

set_option maxHeartbeats 1000000 in
set_option maxRecDepth 100000 in
theorem runs_any (w : World) (hL : LibOk w) : Calls Tryz.prog 29 #[] w fun e w' => e = .returned (.bool true) ∧ Below w.heap.size w w' := by
  have RD := hide (reads_any w hL.err)
  have CT : Hid (∀ w1, Below w.heap.size w w1 → Calls Tryz.prog 41 #[.slice (some ⟨w1.heap.size, 0, none⟩) 2 2] (w1.alloc (.cells #[.string ⟨#[97, 32, 62, 32, 53]⟩, .string ⟨#[97, 32, 62, 32, 52]⟩] 9)) fun e w' => ∃ v, e = .returned (.tuple #[v, .int .i64 0, .int .i64 0]) ∧ OB w' (w1.heap.size + 1) v twoB ∧ Below w1.heap.size w1 w') := hide (by
    intro w1 hb
    have hL1 := (hL.below hb (Nat.le_refl _)).alloc (.cells #[.string ⟨#[97, 32, 62, 32, 53]⟩, .string ⟨#[97, 32, 62, 32, 52]⟩] 9)
    refine (compile_two _ hL1 w1.heap.size (by simp) (by simp [go_sem]; rfl) (by simp [go_sem]; rfl)).mono ?_
    rintro e w' ⟨v, rfl, ho, hb'⟩
    exact ⟨v, rfl, by simpa using ho, below_any ((Below.refl _ _).alloc (Nat.le_refl _) _) hb'⟩)
  have SR : Hid (∀ (w1 : World) (cv ev : Value), BytesAt w1 w1.heap.size cv twoB → EvIn w1 ev evs → Calls Tryz.prog 30 #[cv, ev] w1 (SrEnds w1 ([1], 0))) := hide (fun w1 cv ev h1 h2 => run2 ▸ srun_any twoB cv evs ev w1 h1 h2 evs_good)
  clear hL
  go_enter Tryz.func29, Tryz.ntmps29
  go_wp2_with (first | (go_at_call 22; refine (unhide RD).mono ?_; rintro e w1 ⟨rfl, hb1⟩; have B1 := hide hb1; clear hb1) | (go_at_call 41; refine (unhide CT _ (unhide B1)).mono ?_; rintro e w2 ⟨v2, rfl, ho2, hb2⟩; obtain ⟨a2, c2, rfl⟩ := ho2.form; have O2 := hide ho2.bytes; have B2 := hide (below_any (unhide B1) hb2); clear ho2 hb2) | (go_at_call 35; refine (small_any _).mono ?_; rintro e w3 ⟨rfl, rfl⟩; have E3 := hide (evs_in (w := w2) (Below.refl _ _)); have B3 := hide (below_any (unhide B2) ((Below.refl _ _).alloc (Nat.le_refl _) _ : Below w2.heap.size w2 (eventedS w2))); have O3 := hide ((unhide O2).below ((Below.refl _ _).alloc (Nat.le_refl _) _ : Below w2.heap.size w2 (eventedS w2)))) | (go_at_call 30; refine (unhide SR _ _ _ (unhide O3) (unhide E3)).mono ?_; rintro e w4 ⟨v4, rfl, hi4, hb4⟩; obtain ⟨a4, c4, hv4, hc4⟩ := hi4.cells; obtain ⟨g, rfl, glt, t0⟩ := hc4 0 1 rfl; subst hv4; have B4 := hide (below_any (unhide B3) hb4); clear hc4 hi4 hb4))
  go_ret
  exact ⟨rfl, unhide B4⟩
end

section
open Go.ChangeShapes Go.WideShapes Go.ChangeAt Go.RowKit Go.Deep

theorem cellsByte : Tryz.prog.cellsOf 5 = 1 := by kernel_rfl

section
variable {H : Type} {enc : TypeId × Value → H}

set_option maxRecDepth 100000 in
/-- A list of bytes, opened. -/
theorem open_code {W : World} {base : Nat} {v : Value} {d : DataW H} {pl : List MemPlace} (hval : Value.okWide Tryz.prog W .any base 51 v) (h : DataW.Trod enc Tryz.prog W 0 (fun _ => true) true 51 v d pl) : ∃ code, BytesAt W W.heap.size v code := by
  obtain ⟨fuel, ht⟩ := h
  obtain ⟨a0, len0, cap0, rfl⟩ := okWide_slice Tryz.underlying51 hval
  rcases open_slice Tryz.underlying51 ht with ⟨hc, hx⟩ | ⟨a, len, cap, m, n, D, Pl, hc, _, hl, hm, hmm, hx, hall⟩
  · simp [Value.cells] at hc
    obtain ⟨rfl, rfl, rfl⟩ := hc
    exact ⟨[], BytesAt.nil _ _⟩
  · simp [Value.cells] at hc
    obtain ⟨rfl, rfl, rfl⟩ := hc
    simp only [if_true] at hmm
    subst hmm
    rw [cellsByte] at hall
    have each : ∀ i, i < len0 → ∃ x : UInt8, W.cell? (a.add i) = some (.int .u8 (x.toNat : Int)) := by
      intro i hi
      obtain ⟨cs', h1, h2⟩ := hall i (by omega)
      obtain ⟨k, h3, _, wk⟩ := DataW.trod_int Tryz.underlying5 h2
      subst h3
      obtain ⟨_, _, hcell⟩ := World.cells?_some h1
      have c0 := hcell 0 (by decide)
      rw [add_add, Nat.mul_one, Nat.add_zero] at c0
      have hk : 0 ≤ k ∧ k ≤ 255 := by
        simp only [Lit.wf, Bool.and_eq_true, decide_eq_true_eq] at wk
        exact ⟨wk.1, wk.2⟩
      refine ⟨UInt8.ofNat k.toNat, ?_⟩
      rw [UInt8.toNat_ofNat', show ((k.toNat % 2 ^ 8 : Nat) : Int) = k by omega]
      exact c0
    have inh : Inhabited UInt8 := ⟨0⟩
    obtain ⟨f, hf⟩ := choose_lt each
    have hlen : ((List.range len0).map f).length = len0 := by rw [List.length_map, List.length_range]
    have hget : ∀ (k : Nat) (p : UInt8), ((List.range len0).map f)[k]? = some p → k < len0 ∧ p = f k := by
      intro k p hk
      rw [List.getElem?_map] at hk
      cases hr : (List.range len0)[k]? with
      | none => rw [hr] at hk; cases hk
      | some j =>
        rw [hr] at hk
        obtain ⟨h1, h2⟩ := List.getElem?_eq_some_iff.1 hr
        rw [List.length_range] at h1
        rw [List.getElem_range] at h2
        subst h2
        exact ⟨h1, by simpa using hk.symm⟩
    refine ⟨(List.range len0).map f, some a, _, by rw [hlen], by rw [hlen]; exact hl, fun i x hi => ?_⟩
    obtain ⟨h1, rfl⟩ := hget i x hi
    obtain ⟨b, off, spot⟩ := a
    have hc := hf i h1
    have hs : spot = none := by
      have := World.cell?_spot (hf 0 (by omega))
      simpa [Addr.add] using this
    subst hs
    have hadd : (⟨b, off, none⟩ : Addr).add i = ⟨b, off + i, none⟩ := by simp [Addr.add]
    rw [hadd] at hc
    exact ⟨b, off, rfl, block_lt_of_cell hc, hc⟩
end

theorem powNamed : Tryz.prog.globalNamed "internal/strconv.uint64pow10" = some 1 := by kernel_rfl

set_option maxRecDepth 100000 in
theorem max_ok {W : World} (h : W.ShapedOpen Tryz.prog) : 4 < W.heap.size ∧ ∃ m, W.cell? ⟨4, 0, none⟩ = some (.int .i64 m) := by
  obtain ⟨m, hm⟩ := cell_of_shapedOpen_int (g := 4) (zero := #[.int .i64 0]) (t := 3) h (of_decide_eq_true (by kernel_rfl)) (by kernel_rfl) rfl (by kernel_rfl) (by kernel_rfl) Tryz.underlying3
  exact ⟨block_lt_of_cell hm, m, hm⟩

theorem powType : (Tryz.prog.globals[1]?).map (·.type) = some 343 := by kernel_rfl
theorem cellsPow : Tryz.prog.cellsOf 343 = 20 := by kernel_rfl
theorem cellsU64 : Tryz.prog.cellsOf 317 = 1 := by kernel_rfl
theorem powLaid : (Rows.laid_internal_strconv_uint64pow10 : DataW Unit) = Lib.tabData .u64 Lib.pow10Tab := by kernel_rfl
theorem pow_ok {W : World} {l : List (String × DataW Unit)} (hm : ("internal/strconv.uint64pow10", Rows.laid_internal_strconv_uint64pow10) ∈ l) (h : laidMet Tryz.prog l W) : Lib.TabIs Tryz.prog W "internal/strconv.uint64pow10" .u64 Lib.pow10Tab := by
  obtain ⟨g, t, cs, fuel, p, h1, h2, h3, h4⟩ := Lib.laidMet.reads h hm
  obtain rfl : 1 = g := Option.some.inj (powNamed.symm.trans h1)
  obtain rfl : 343 = t := Option.some.inj (powType.symm.trans h2)
  rw [powLaid] at h4
  unfold Lib.TabIs
  rw [h3, ← Lib.cells_of_tab Tryz.underlying343 Tryz.underlying317 cellsU64 cellsPow h4]
end

end Go.Proofs.YtfkcaldjphakpaaGreatDoor
