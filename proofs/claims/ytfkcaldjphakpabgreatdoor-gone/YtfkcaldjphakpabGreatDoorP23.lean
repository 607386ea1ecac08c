/- Program.Run: what it keeps in memory. A program as bytes. -/
import Derived.Test.YtfkcaldjphakpabGreatDoorZPr1
import Derived.Test.YtfkcaldjphakpabGreatDoorP20
import Derived.Test.YtfkcaldjphakpabGreatDoorP32
namespace Go.Proofs.YtfkcaldjphakpabGreatDoor
open Go.RowKit
section
def qr3 (ps : List Pr) (ts : List Tm) : Nat → List V
  | 0 => []
  | k + 1 => qr3 ps ts k ++ [ofT ps (qr3 ps ts k) (ts.getD k (.bare 0))]
def jx2 (vs : List V) (rs : List Nat) : Nat → List Nat
  | 0 => []
  | k + 1 => jx2 vs rs k ++ (if vs.getD (rs.getD k 0) nV = bV true then [k] else [])
def metR (ps : List Pr) (ts : List Tm) (rs : List Nat) : List Nat := jx2 (qr3 ps ts ts.length) rs rs.length
theorem qn8 (ps : List Pr) (ts : List Tm) (k : Nat) : (qr3 ps ts k).length = k := by
  induction k with
  | zero => rfl
  | succ k ih => rw [qr3, List.length_append, ih]; rfl
theorem vm7 (vs : List V) (rs : List Nat) (k : Nat) : (jx2 vs rs k).length ≤ k := by
  induction k with
  | zero => exact Nat.le_refl _
  | succ k ih => rw [jx2, List.length_append]; split <;> simp <;> omega
theorem metK_lt (vs : List V) (rs : List Nat) (k : Nat) : ∀ x ∈ jx2 vs rs k, x < k := by
  induction k with
  | zero => intro x hx; simp [jx2] at hx
  | succ k ih =>
    intro x hx
    rw [jx2, List.mem_append] at hx
    rcases hx with hx | hx
    · have := ih x hx; omega
    · split at hx
      · simp at hx; omega
      · simp at hx
def Gv (v : V) : Prop := Rng v.num ∧ Sh v
theorem gv_n : Gv nV := ⟨qy8, vn6⟩
theorem ofT_good {ps : List Pr} (h : jb9 ps) (hs : EvSh ps) {vs : List V} {k : Nat} {t : Tm} (ht : FitsT k t) : Gv (ofT ps vs t) := by
  unfold ofT
  split
  · refine ⟨jn4 h _, ?_⟩
    unfold qy6
    split
    · rename_i p hp
      exact hs p (List.mem_of_find?_eq_some hp)
    · exact vn6
  split
  · exact ⟨ht.num, sh_i _⟩
  split
  · exact ⟨rng0, by have := ht.str; show t.str.length ≤ 1000; omega⟩
  split
  · exact ⟨qz9 _, vn8 _⟩
  split
  · unfold vp5
    exact ⟨qi7 (qz9 _) qy8, qb1 (vn8 _) vn6⟩
  · exact ⟨jn9 _ _ _, sh_join _ _ _⟩
theorem jx3 {ps : List Pr} (h : jb9 ps) (hs : EvSh ps) {ts : List Tm} (hf : ∀ i t, ts[i]? = some t → FitsT i t) (k : Nat) (hk : k ≤ ts.length) : ∀ i, Gv ((qr3 ps ts k).getD i nV) := by
  induction k with
  | zero => intro i; exact gv_n
  | succ k ih =>
    intro i
    have ih := ih (by omega) i
    have hkl : ts[k]? = some ts[k] := List.getElem?_eq_getElem (by omega)
    rw [qr3, List.getD_eq_getElem?_getD]
    rw [List.getD_eq_getElem?_getD] at ih
    rcases Nat.lt_or_ge i k with hi | hi
    · rw [List.getElem?_append_left (by rw [qn8]; exact hi)]
      exact ih
    · rw [List.getElem?_append_right (by rw [qn8]; exact hi), qn8]
      rcases Nat.eq_zero_or_pos (i - k) with h0 | h0
      · rw [h0]
        show Gv (ofT _ _ _)
        rw [List.getD_eq_getElem?_getD, hkl]
        exact ofT_good h hs (hf k _ hkl)
      · rw [List.getElem?_eq_none (by simp; omega)]
        exact gv_n
theorem tof_any {w : World} {ps : List Pr} {ev : Value} {vb n c k : Nat} {vs : List V} {t : Tm} (hev : EvArg w ev ps) (hv : ValsAt w vb n vs) (hlt : vb < w.heap.size) (hg : ∀ i, Gv (vs.getD i nV)) (ht : FitsT k t) (hk : k ≤ n) : qw7 w ps ev (.slice (some ⟨vb, 0, none⟩) n c) vs t := by
  have hsl := hev.slice
  by_cases h0 : t.op = 0
  · exact tof_0 w ps ev _ n c vs t hev h0
  by_cases h1 : t.op = 1
  · exact tof_1 w ps ev _ n c vs t hev h1
  by_cases h2 : t.op = 2
  · exact tof_2 w ps ev _ n c vs t hev h2
  by_cases h3 : t.op = 3
  · exact tof_3 w ps ev _ n c vs t hev h3
  by_cases h4 : t.op = 4
  · exact tof_4 w ps ev _ n c vs t hev h4
  have hsd := ht.sides (by omega)
  by_cases h22 : t.op = 22
  · exact tof_22 w ps ev vb n c vs t hsl hv hlt (by omega) ht.str (hg _).2 h22
  · exact tof_x w ps ev vb n c vs t hsl hv hlt (by omega) (by omega) (hg _).1 (hg _).1 h0 h1 h2 h3 h4 h22
theorem jr6 : (Tryz.prog.info? 118).map (fun i => (i.zero, i.size, i.bytes)) = some (some (.agg #[.int .i64 0, .int .i64 0, .string ⟨#[]⟩]), 3, 32) := by kernel_rfl
structure RunAt (w wr : World) (vb n : Nat) (vs : List V) : Prop where
  vals : ValsAt wr vb n vs
  fz : ∀ j, wr.frozen? ⟨vb, j, none⟩ = false
  ge : w.heap.size ≤ vb
  lt : vb < wr.heap.size
  bel : Below w.heap.size w wr
theorem RunAt.next {w wr w' : World} {vb n : Nat} {vs : List V} (h : RunAt w wr vb n vs) (hb : Below wr.heap.size wr w') : RunAt w w' vb n vs :=
  ⟨h.vals.below hb h.lt, fun j => (hb.frozen (p := ⟨vb, j, none⟩) h.lt).trans (h.fz j), h.ge, Nat.lt_of_lt_of_le h.lt hb.size, v7 h.bel hb⟩
theorem RunAt.made {w w1 : World} {n : Nat} (h : w1.ownsRow w.heap.size 118 3 (.slice (some ⟨w.heap.size, 0, none⟩) n n) n (madeCells (Value.agg #[.int .i64 0, .int .i64 0, .string ⟨#[]⟩]).cells (n * 3)).toList) (hg : w.grownBy w1 none) : RunAt w w1 w.heap.size n [] := by
  have hl := h.lt w.heap.size rfl
  refine ⟨fun i hi => ?_, fun j => ?_, Nat.le_refl _, hl.2, ⟨hg.os, hg.tape, hg.output, hg.size, fun k hk => hg.block k hk (by simp)⟩⟩
  · have hc := h.cells (g := w.heap.size) rfl
    have hadd : ∀ j, (⟨w.heap.size, 0, none⟩ : Addr).add j = ⟨w.heap.size, j, none⟩ := fun j => by unfold Addr.add; split <;> simp_all
    have hm : ∀ j, j < 3 → (madeCells (Value.agg #[.int .i64 0, .int .i64 0, .string ⟨#[]⟩]).cells (n * 3)).toList[i * 3 + j]? = ([.int .i64 0, .int .i64 0, .string ⟨#[]⟩] : List Value)[j]? := by
      intro j hj
      have h1 : i * 3 + j < n * 3 := by omega
      have h2 : (i * 3 + j) % 3 = j := by omega
      have hcs : (Value.agg #[.int .i64 0, .int .i64 0, .string ⟨#[]⟩]).cells = #[.int .i64 0, .int .i64 0, .string ⟨#[]⟩] := by rfl
      rw [hcs]
      simp [madeCells, h1, h2]
      match j, hj with
      | 0, _ => rfl
      | 1, _ => rfl
      | 2, _ => rfl
    refine ⟨?_, ?_, ?_⟩
    · have := hc (i * 3 + 0) _ (hm 0 (by decide)); rwa [hadd] at this
    · have := hc (i * 3 + 1) _ (hm 1 (by decide)); rwa [hadd] at this
    · have := hc (i * 3 + 2) _ (hm 2 (by decide)); rwa [hadd] at this
  · rcases h.2 with ⟨hv, _⟩ | ⟨g, cap, cur, hv, _, hgg, _⟩
    · simp at hv
    · simp at hv
      obtain ⟨rfl, _⟩ := hv
      simp [World.frozen?, hgg]
theorem RunAt.store {w wr : World} {vb n k : Nat} {vs : List V} (h : RunAt w wr vb n vs) (hl : vs.length = k) (hk : k < n) (x : V) :
    RunAt w (((wr.setCell ⟨vb, k * 3, none⟩ (.int .i64 x.kind)).setCell ⟨vb, k * 3 + 1, none⟩ (.int .i64 x.num)).setCell ⟨vb, k * 3 + 2, none⟩ (.string (BS x.str))) vb n (vs ++ [x]) := by
  have hge := h.ge
  refine ⟨fun i hi => ?_, fun j => by simp [go_sem, h.fz], hge, by have := h.lt; simpa using this, ((h.bel.setCell (by exact hge) _).setCell (by exact hge) _).setCell (by exact hge) _⟩
  obtain ⟨a0, a1, a2⟩ := h.vals k hk
  by_cases he : i = k
  · subst he
    have hx : (vs ++ [x]).getD i nV = x := by rw [List.getD_eq_getElem?_getD, List.getElem?_append_right (by omega), hl, Nat.sub_self]; rfl
    rw [hx]
    refine ⟨?_, ?_, ?_⟩ <;> simp [go_sem, a0, a1, a2]
  · have hx : (vs ++ [x]).getD i nV = vs.getD i nV := by
      rw [List.getD_eq_getElem?_getD, List.getD_eq_getElem?_getD]
      rcases Nat.lt_or_ge i k with h1 | h1
      · rw [List.getElem?_append_left (by omega)]
      · rw [List.getElem?_eq_none (by simp; omega), List.getElem?_eq_none (by omega)]
    rw [hx]
    obtain ⟨b0, b1, b2⟩ := h.vals i hi
    have e00 : ¬ i * 3 = k * 3 := by omega
    have e01 : ¬ i * 3 = k * 3 + 1 := by omega
    have e02 : ¬ i * 3 = k * 3 + 2 := by omega
    have e10 : ¬ i * 3 + 1 = k * 3 := by omega
    have e11 : ¬ i * 3 + 1 = k * 3 + 1 := by omega
    have e12 : ¬ i * 3 + 1 = k * 3 + 2 := by omega
    have e20 : ¬ i * 3 + 2 = k * 3 := by omega
    have e21 : ¬ i * 3 + 2 = k * 3 + 1 := by omega
    have e22 : ¬ i * 3 + 2 = k * 3 + 2 := by omega
    refine ⟨?_, ?_, ?_⟩
    · simp [go_sem, b0]
    · simp [go_sem, b1]
    · simp [go_sem, b2]
theorem TsAt.cells {w : World} {base : Nat} {v : Value} {ts : List Tm} (h : TsAt w base v ts) : ∃ a c, v = .slice a ts.length c ∧ ∀ (k : Nat) (t : Tm), ts[k]? = some t → ∃ g, a = some ⟨g, 0, none⟩ ∧ g < w.heap.size ∧
    w.cell? ⟨g, k * 6, none⟩ = some (.int .i64 t.op) ∧ w.cell? ⟨g, k * 6 + 1, none⟩ = some (.int .i64 t.left) ∧ w.cell? ⟨g, k * 6 + 2, none⟩ = some (.int .i64 t.right) ∧ w.cell? ⟨g, k * 6 + 3, none⟩ = some (.int .i64 t.num) ∧ w.cell? ⟨g, k * 6 + 4, none⟩ = some (.string (BS t.str)) ∧ w.cell? ⟨g, k * 6 + 5, none⟩ = some (.string (BS t.esc)) := by
  have h0 := h
  rcases h.2 with ⟨rfl, hn⟩ | ⟨g, cap, cur, rfl, hbg, hgg, _⟩
  · refine ⟨none, 0, by rw [hn], fun k t hk => ?_⟩
    have := (List.getElem?_eq_some_iff.1 hk).1
    omega
  · refine ⟨_, cap, rfl, fun k t hk => ⟨g, rfl, (Array.getElem?_eq_some_iff.1 hgg).1, ?_⟩⟩
    have hadd : ∀ j, (⟨g, 0, none⟩ : Addr).add j = ⟨g, j, none⟩ := fun j => by unfold Addr.add; split <;> simp_all
    have hc : ∀ j u, (qr1 t)[j]? = some u → w.cell? ⟨g, k * 6 + j, none⟩ = some u := fun j u hj => by
      have := World.ownsRow.cells h0 (g := g) rfl (k * 6 + j) u (vy4 hk hj)
      rwa [hadd] at this
    exact ⟨hc 0 _ rfl, hc 1 _ rfl, hc 2 _ rfl, hc 3 _ rfl, hc 4 _ rfl, hc 5 _ rfl⟩
theorem IsAt.cells {w : World} {base : Nat} {v : Value} {l : List Nat} (h : IsAt w base v l) : ∃ a c, v = .slice a l.length c ∧ ∀ (k : Nat) (x : Nat), l[k]? = some x → ∃ g, a = some ⟨g, 0, none⟩ ∧ g < w.heap.size ∧ w.cell? ⟨g, k, none⟩ = some (.int .i64 x) := by
  have h0 := h
  rcases h.2 with ⟨rfl, hn⟩ | ⟨g, cap, cur, rfl, hbg, hgg, _⟩
  · refine ⟨none, 0, by rw [hn], fun k t hk => ?_⟩
    have := (List.getElem?_eq_some_iff.1 hk).1
    omega
  · refine ⟨_, cap, rfl, fun k x hk => ⟨g, rfl, (Array.getElem?_eq_some_iff.1 hgg).1, ?_⟩⟩
    have hadd : ∀ j, (⟨g, 0, none⟩ : Addr).add j = ⟨g, j, none⟩ := fun j => by unfold Addr.add; split <;> simp_all
    have := World.ownsRow.cells h0 (g := g) rfl k (.int .i64 x) (by simp [qk3, hk])
    rwa [hadd] at this
end
section
attribute [local go_sem ↓] qd6
def jh9 (t : Tm) : Prop := ∀ (base : Nat) (v : Value) (l : List UInt8) (W : World), OB W base v l → base ≤ W.heap.size → l.length ≤ 800000 → Calls Tryz.prog 63 #[tmV t, v] W (vg0 base W (l ++ jd6 t))
theorem vv5 (t : Tm) (ht : SmallT t) (h : t.op = 0 ∨ t.op = 1 ∨ t.op = 10) : jh9 t := by
  intro base v l W h1 h2 h3
  rcases h with h | h | h
  · exact write_0 base v l t W h1 h2 h3 ht h _ fun _ _ h => h
  · exact write_1 base v l t W h1 h2 h3 ht h _ fun _ _ h => h
  · exact write_10 base v l t W h1 h2 h3 ht h _ fun _ _ h => h
def jn3 (hd : List UInt8) (ts : List Tm) : Nat → List UInt8
  | 0 => hd
  | k + 1 => jn3 hd ts k ++ jd6 (ts.getD k (.bare 3))
def encR (hd : List UInt8) (rs : List Nat) : Nat → List UInt8
  | 0 => hd
  | k + 1 => encR hd rs k ++ [UInt8.ofNat (rs.getD k 0)]
def jq6 (ts : List Tm) (rs : List Nat) : List UInt8 := encR (jn3 [UInt8.ofNat ts.length, UInt8.ofNat rs.length] ts ts.length) rs rs.length
theorem vk6 (s : List UInt8) : (lenB s).length = s.length + 1 := rfl
theorem jh8 (t : Tm) (ht : SmallT t) : (jd6 t).length ≤ 1000 := by
  have h1 := ht.str
  have h2 := ht.esc
  unfold jd6
  split
  · simp [vb2]
  split
  · simp [vk6]; omega
  split
  · simp [vk6]; omega
  split
  · simp
  split <;> simp
theorem ji6 (hd : List UInt8) (ts : List Tm) (h : ∀ t ∈ ts, SmallT t) (k : Nat) : (jn3 hd ts k).length ≤ hd.length + k * 1000 := by
  induction k with
  | zero => simp [jn3]
  | succ k ih =>
    rw [jn3, List.length_append]
    have : (jd6 (ts.getD k (.bare 3))).length ≤ 1000 := by
      apply jh8
      rw [List.getD_eq_getElem?_getD]
      cases hk : ts[k]? with
      | none => exact ⟨Nat.zero_le _, Nat.zero_le _, Nat.zero_le _, Nat.zero_le _⟩
      | some t => exact h t (List.mem_of_getElem? hk)
    omega
theorem jg0 (hd : List UInt8) (rs : List Nat) (k : Nat) : (encR hd rs k).length = hd.length + k := by
  induction k with
  | zero => rfl
  | succ k ih => rw [encR, List.length_append, ih, List.length_singleton]; omega
theorem OB.below {B : Nat} {w w' : World} {base : Nat} {v : Value} {l : List UInt8} (h : OB w base v l) (hb : Below B w w') (hB : w.heap.size ≤ B) : OB w' base v l := qf4 h hb hB
set_option maxHeartbeats 2000000 in
set_option maxRecDepth 100000 in
theorem jv0 (pb o : Nat) (ts : List Tm) (rs : List Nat) (W : World) (hp : ProgAt W pb o ts rs) (h80 : ts.length ≤ 200) (h8 : rs.length ≤ 200) (hsm : ∀ t ∈ ts, SmallT t) (hw : ∀ t ∈ ts, jh9 t) (hrs : ∀ r ∈ rs, r ≤ 255) (Q : Ending → World → Prop) (hQ : ∀ e w', vg0 W.heap.size W (jq6 ts rs) e w' → Q e w') :
    Calls Tryz.prog 39 #[.pointer (some ⟨pb, o, none⟩)] W Q := by
  have HQ := v6 hQ
  clear hQ
  unfold jq6 at HQ
  obtain ⟨plt, ⟨tv, tb, c0, hts⟩, rv, rb, c1, hrs'⟩ := hp
  obtain ⟨ta, tc, rfl, hTC⟩ := hts.cells
  obtain ⟨ra, rc, rfl, hRC⟩ := hrs'.cells
  have HTC : Hid _ := v6 hTC
  have HRC : Hid _ := v6 hRC
  have HW := v6 hw
  have HRS := v6 hrs
  have HLN : Hid _ := v6 (ji6 [UInt8.ofNat ts.length, UInt8.ofNat rs.length] ts hsm)
  clear hTC hRC hts hrs' hw hrs hsm
  obtain ⟨n, hn⟩ : ∃ n, n = ts.length := ⟨_, rfl⟩
  obtain ⟨m, hm⟩ : ∃ m, m = rs.length := ⟨_, rfl⟩
  have HN := v6 hn
  have HM := v6 hm
  rw [← hn] at c0 h80
  rw [← hm] at c1 h8
  rw [← hn, ← hm] at HQ HLN
  clear hn hm
  have n0 : (0 : Int) ≤ (n : Int) := by omega
  have n1 : (n : Int) < 256 := by omega
  have m0 : (0 : Int) ≤ (m : Int) := by omega
  have m1 : (m : Int) < 256 := by omega
  have O0 : Hid (OB (W.alloc (.cells #[.int .u8 n, .int .u8 m] 5)).drew W.heap.size (.slice (some ⟨W.heap.size, 0, none⟩) 2 2) [UInt8.ofNat n, UInt8.ofNat m]) := v6 (by
    refine ⟨rfl, .inr ⟨W.heap.size, 2, #[.int .u8 n, .int .u8 m], rfl, Nat.le_refl _, heap_alloc_new W _, Nat.le_refl _, by decide, rfl, ?_⟩⟩
    show [Value.int .u8 n, Value.int .u8 m] = [Value.int .u8 ((UInt8.ofNat n).toNat : Int), Value.int .u8 ((UInt8.ofNat m).toNat : Int)]
    rw [← u8_of (by omega), ← u8_of (by omega)])
  have B0 : Hid (Below W.heap.size W (W.alloc (.cells #[.int .u8 n, .int .u8 m] 5)).drew) := v6 ((Below.refl _ _).alloc (Nat.le_refl _) _).drew
  have HHD : Hid ([UInt8.ofNat n, UInt8.ofNat m].length = 2) := v6 rfl
  generalize [UInt8.ofNat n, UInt8.ofNat m] = hd at *
  go_enter Tryz.func39, Tryz.ntmps39
  go_wp2_with fail
  go_region
  all_goals go_wp2_with fail
  go_loopw [3, 26] (fun u i wr => ∃ k : Nat, k ≤ n ∧ i = .int .i64 k ∧ Hid (OB wr W.heap.size u (jn3 hd ts k)) ∧ Hid (Below W.heap.size W wr)) (fun _ i _ => n - (intOf i).toNat)
  case atStart => exact ⟨0, Nat.zero_le _, rfl, O0, B0⟩
  case round =>
    obtain ⟨k, hk, rfl, HO, HB⟩ := hrel
    have hlen : (jn3 hd ts k).length ≤ 700000 := by have h1 := q9 HLN k; have h2 := q9 HHD; omega
    by_cases hlt : k < n
    · obtain ⟨t, ht⟩ : ∃ t, ts[k]? = some t := ⟨_, List.getElem?_eq_getElem (by have := q9 HN; omega)⟩
      obtain ⟨g, rfl, glt, t0, t1, t2, t3, t4, t5⟩ := q9 HTC k t ht
      have WT : Hid (∀ (u : Value) (U : World), OB U W.heap.size u (jn3 hd ts k) → W.heap.size ≤ U.heap.size → Calls Tryz.prog 63 #[tmV t, u] U (vg0 W.heap.size U (jn3 hd ts k ++ jd6 t))) := v6 fun u U h1 h2 => q9 HW t (List.mem_of_getElem? ht) _ u _ U h1 h2 (by omega)
      have hS : Hid (jn3 hd ts (k + 1) = jn3 hd ts k ++ jd6 t) := v6 (by rw [jn3, List.getD_eq_getElem?_getD, ht]; rfl)
      obtain ⟨L, hL⟩ : ∃ L, jn3 hd ts k = L := ⟨_, rfl⟩
      rw [hL] at HO WT hS hlen
      obtain ⟨hcB, hfB⟩ := j6 (q9 HB)
      rw [← hcB g (k * 6) glt] at t0
      rw [← hcB g (k * 6 + 1) glt] at t1
      rw [← hcB g (k * 6 + 2) glt] at t2
      rw [← hcB g (k * 6 + 3) glt] at t3
      rw [← hcB g (k * 6 + 4) glt] at t4
      rw [← hcB g (k * 6 + 5) glt] at t5
      have hbz := (q9 HB).size
      have hzg : g < wr.heap.size := by omega
      have hk0 : (0 : Int) ≤ (k : Int) := by omega
      have hk1 : (k : Int) < (n : Int) := by omega
      have O1 := v6 (fun o => World.ownsRow.alloc (q9 HO) o)
      obtain ⟨a', c', rfl⟩ := (q9 HO).form
      unfold tmV at WT
      clear hcB hfB ht hL hlen
      go_wp2_with (go_at_call 63; refine (q9 WT _ _ (q9 O1 _) (by simp; omega)).mono ?_; rintro e w2 ⟨v2, rfl, ho2, hb2⟩; have HO2 := v6 ho2; have HB2 := v6 (((q9 HB).alloc hbz _).trans hb2); clear ho2 hb2)
      exact ⟨⟨k + 1, by omega, rfl, v6 (by rw [q9 hS]; exact q9 HO2), HB2⟩, by simp [intOf]; omega⟩
    · have : k = n := by omega
      subst this
      have d1 : wr.cell? ⟨pb, o + 1, none⟩ = some (.slice ra m rc) := ((q9 HB).cell (p := ⟨pb, o + 1, none⟩) plt).trans c1
      generalize jn3 hd ts k = L at *
      go_wp2_with fail
      go_loopw [3, 39] (fun u i wr => ∃ j : Nat, j ≤ m ∧ i = .int .i64 j ∧ Hid (OB wr W.heap.size u (encR L rs j)) ∧ Hid (Below W.heap.size W wr)) (fun _ i _ => m - (intOf i).toNat)
      case atStart => exact ⟨0, Nat.zero_le _, rfl, HO, HB⟩
      case round =>
        obtain ⟨j, hj, rfl, HO', HB'⟩ := hrel
        by_cases hlt2 : j < m
        · obtain ⟨r, hr⟩ : ∃ r, rs[j]? = some r := ⟨_, List.getElem?_eq_getElem (by have := q9 HM; omega)⟩
          obtain ⟨g, rfl, glt, t0⟩ := q9 HRC j r hr
          have hr255 : r ≤ 255 := q9 HRS r (List.mem_of_getElem? hr)
          have hS : Hid (encR L rs (j + 1) = encR L rs j ++ [UInt8.ofNat r]) := v6 (by rw [encR, List.getD_eq_getElem?_getD, hr]; rfl)
          have hlen2 : (encR L rs j).length ≤ 1000000 := by rw [jg0]; omega
          obtain ⟨L2, hL2⟩ : ∃ L2, encR L rs j = L2 := ⟨_, rfl⟩
          rw [hL2] at HO' hS hlen2
          obtain ⟨hcB, hfB⟩ := j6 (q9 HB')
          rw [← hcB g j glt] at t0
          have hbz := (q9 HB').size
          have hzg : g < wr.heap.size := by omega
          have hj0 : (0 : Int) ≤ (j : Int) := by omega
          have hj1 : (j : Int) < (m : Int) := by omega
          have hr0 : (0 : Int) ≤ (r : Int) := by omega
          have hr1 : (r : Int) < 256 := by omega
          obtain ⟨g5, cap5, w5, hap, HO5, HB5⟩ := OB.app (q9 HO') hbz (UInt8.ofNat r) (r : Int) (u8_of hr255) hlen2 36 _ rfl rfl
          have HB6 := v6 ((q9 HB').trans (q9 HB5))
          obtain ⟨a', c', rfl⟩ := OB.form (q9 HO')
          clear hcB hfB hr hL2 hlen2 HB5
          go_wp2_with fail
          exact ⟨⟨j + 1, by omega, rfl, v6 (by rw [q9 hS]; exact q9 HO5), HB6⟩, by simp [intOf]; omega⟩
        · have : j = m := by omega
          subst this
          go_wp2_with fail
          exact q9 HQ _ _ ⟨_, rfl, q9 HO', q9 HB'⟩
end
end Go.Proofs.YtfkcaldjphakpabGreatDoor
