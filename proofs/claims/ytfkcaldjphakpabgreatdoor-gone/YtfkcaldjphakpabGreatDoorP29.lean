/- The cores of what is read may be put into a program. Program.Run of any program that may be run. find; Live, Nodes, New. sieve.Run of any bytes and any event. Served: the messages that wait, by themselves; pick. -/
import Derived.Test.YtfkcaldjphakpabGreatDoorP26
import Derived.Test.YtfkcaldjphakpabGreatDoorP22
import Derived.Test.YtfkcaldjphakpabGreatDoorP20
import Derived.Test.YtfkcaldjphakpabGreatDoorP23
import Derived.Test.YtfkcaldjphakpabGreatDoorP09
import Derived.Deep.RegionWith
import Derived.Test.YtfkcaldjphakpabGreatDoorP25
import Derived.Test.YtfkcaldjphakpabGreatDoorP32
namespace Go.Proofs.YtfkcaldjphakpabGreatDoor
open Go.RowKit
section
def FldP (p : CP) : Prop := (0 ≤ p.op ∧ p.op ≤ 23) ∧ Rng p.num ∧ p.str.length ≤ 200 ∧ p.esc.length ≤ 1
def vh2 : Co → Prop
  | .leaf p => FldP p
  | .un p x => FldP p ∧ vh2 x
  | .bin p x y => FldP p ∧ vh2 x ∧ vh2 y
theorem qr0 {op : Int} (h : 0 ≤ op ∧ op ≤ 23) : FldP (qb2 op) := ⟨h, rng0, Nat.zero_le _, Nat.zero_le _⟩
theorem qf8 {op : Int} (ho : 0 ≤ op ∧ op ≤ 23) {x y : Co} (hx : vh2 x) (hy : vh2 y) : vh2 (z8 op x y) := by
  unfold z8
  split
  · exact ⟨qr0 ho, hy, hx⟩
  · exact ⟨qr0 ho, hx, hy⟩
theorem fld_not : ∀ {c : Co}, vh2 c → vh2 (qh8 c) := by
  intro c
  induction c with
  | leaf p =>
    intro h
    unfold qh8
    split
    · exact qr0 (by decide)
    · split
      · exact qr0 (by decide)
      · exact ⟨qr0 (by decide), h⟩
  | un p x ih =>
    intro h
    unfold qh8
    split
    · exact h.2
    · exact ⟨qr0 (by decide), h⟩
  | bin p x y ihx ihy =>
    intro h
    unfold qh8
    split
    · exact qf8 (by decide) (ihx h.2.1) (ihy h.2.2)
    · split
      · exact qf8 (by decide) (ihx h.2.1) (ihy h.2.2)
      · split
        · exact qf8 (by decide) h.2.2 h.2.1
        · split
          · exact qf8 (by decide) h.2.2 h.2.1
          · exact ⟨qr0 (by decide), h⟩
theorem jp0 {t : List UInt8} (h : t.length ≤ 200) : vh2 (qp5 t) := ⟨(by show (0 : Int) ≤ 2 ∧ (2 : Int) ≤ 23; decide), rng0, h, Nat.zero_le _⟩
theorem fld_num {n : Int} (h : Rng n) : vh2 (vp6 n) := ⟨(by show (0 : Int) ≤ 1 ∧ (1 : Int) ≤ 23; decide), h, Nat.zero_le _, Nat.zero_le _⟩
theorem fld_orAll {x : Co} (hx : vh2 x) : ∀ (r : List (List UInt8)) (f : Co), vh2 f → (∀ t ∈ r, t.length ≤ 200) → vh2 (qx6 x f r) := by
  intro r
  induction r with
  | nil => intro f hf _; exact hf
  | cons t r ih =>
    intro f hf h
    exact ih _ (qf8 (by decide) hf (qf8 (by decide) hx (jp0 (h t List.mem_cons_self)))) fun u hu => h u (List.mem_cons_of_mem _ hu)
theorem fld_among {x : Co} (hx : vh2 x) {ts : List (List UInt8)} (h : ∀ t ∈ ts, t.length ≤ 200) : vh2 (qv8 x ts) := by
  have hm : ∀ u ∈ qr4 ts, u.length ≤ 200 := fun u hu => h u (vj2 hu)
  unfold qv8
  cases hs : qr4 ts with
  | nil => exact hx
  | cons t r =>
    rw [hs] at hm
    exact fld_orAll hx r _ (qf8 (by decide) hx (jp0 (hm t List.mem_cons_self))) fun u hu => hm u (List.mem_cons_of_mem _ hu)
theorem fld_core : ∀ t, ShA t → ve4 t → vd8 t → BqA t → vh2 (j4 t) := by
  intro t
  induction t with
  | leaf p => intro h0 h1 h2 h3; exact ⟨⟨h0.1, by have := h0.2; show p.op ≤ 23; omega⟩, h1, h2.1, h3.1⟩
  | un p x ih =>
    intro h0 h1 h2 h3
    have hx := ih h0.2.2.2 h1.2 h2.2 h3.2
    rw [j4]
    split
    · exact qf8 (by decide) (fld_num rng0) hx
    · split
      · exact qf8 (by decide) (fld_num rng0) hx
      · split
        · exact fld_not hx
        · split
          · exact fld_among hx h3.1.2
          · exact ⟨⟨by have := h0.1; show 0 ≤ p.op ∧ p.op ≤ 23; omega, h1.1, h2.1.1, h3.1.1⟩, hx⟩
  | bin p x y ihx ihy =>
    intro h0 h1 h2 h3
    have hx := ihx h0.2.1 h1.2.1 h2.2.1 h3.2.1
    have hy := ihy h0.2.2 h1.2.2 h2.2.2 h3.2.2
    rw [j4]
    split
    · exact qf8 (by decide) hy hx
    · split
      · exact qf8 (by decide) hy hx
      · split
        · exact fld_not (qf8 (by decide) hx hy)
        · exact qf8 (by have := h0.1; omega) hx hy
  | tri p x y z ihx ihy ihz =>
    intro h0 h1 h2 h3
    have hx := ihx h0.2.1 h1.2.1 h2.2.1 h3.2.1
    have hy := ihy h0.2.2.1 h1.2.2.1 h2.2.2.1 h3.2.2.1
    have hz := ihz h0.2.2.2 h1.2.2.2 h2.2.2.2 h3.2.2.2
    exact qf8 (by decide) (qf8 (by decide) hy hx) (qf8 (by decide) hx hz)
theorem good_fld : ∀ {c : Co}, vh2 c → vg5 c := by
  have hp : ∀ {p : CP}, FldP p → GoodP p := fun h => ⟨h.1, h.2.1, by have := h.2.2.1; omega, by have := h.2.2.2; omega⟩
  intro c
  induction c with
  | leaf p => exact fun h => hp h
  | un p x ih => exact fun h => ⟨hp h.1, ih h.2⟩
  | bin p x y ihx ihy => exact fun h => ⟨hp h.1, ihx h.2.1, ihy h.2.2⟩
theorem jy7 : ∀ {c : Co}, WfC c → qs5 c ≤ 2 * (z9 c).length + 1 := by
  intro c
  induction c with
  | leaf p => intro _; show 1 ≤ _; omega
  | un p x ih =>
    intro h
    have hx := ih h.2
    have hl : (z9 x).length + 1 ≤ (z9 (.un p x)).length := by
      show _ ≤ (y8 p (z9 x) []).length
      have hu := h.1
      unfold unB at hu
      simp only [Bool.or_eq_true, beq_iff_eq] at hu
      unfold y8
      rcases hu with (hu | hu) | hu <;> rw [hu] <;> simp <;> omega
    show qs5 x + 1 ≤ _
    omega
  | bin p x y ihx ihy =>
    intro h
    have hx := ihx h.2.1
    have hy := ihy h.2.2
    have hl := qt8 h.1 x y
    show qs5 x + qs5 y + 1 ≤ _
    omega
structure CoreOk (c : Co) : Prop where
  fld : vh2 c
  wf : WfC c
  size : qs5 c ≤ 250000000
theorem vu6 {s : ByteArray} {t : Ast} (h : qh5 s = .ok t) : CoreOk (j4 t) := by
  obtain ⟨h1, h2, h3, h4, h5, h6⟩ := vs6 h
  refine ⟨fld_core t h3 h4 h5 h6, h1.gd.wf, ?_⟩
  have h7 := jy7 h1.gd.wf
  have h8 := h1.gd.len
  have h9 : ndA t * ndA t ≤ 200 * 200 := Nat.mul_le_mul h2 h2
  omega
def FitsL (ts : List Tm) : Prop := ∀ i t, ts[i]? = some t → FitsT i t
theorem vv4 {ts : List Tm} (h : FitsL ts) {t : Tm} (ht : FitsT ts.length t) : FitsL (vd7 ts t).1 := by
  unfold vd7
  cases hw : qi3 ts t with
  | some i => exact h
  | none =>
    intro i x hi
    by_cases hl : i < ts.length
    · rw [List.getElem?_append_left hl] at hi
      exact h i x hi
    · have e : i = ts.length := by
        have := (List.getElem?_eq_some_iff.1 hi).1
        simp at this
        omega
      subst e
      simp at hi
      subst hi
      exact ht
theorem jg8 {p : CP} (h : FldP p) {n l r : Nat} (hs : 5 ≤ p.op → l < n ∧ r < n) : FitsT n (qy4 p l r) := by
  obtain ⟨⟨o1, o2⟩, h1, h2, h3⟩ := h
  refine ⟨by show p.op.toNat ≤ 23; omega, h1, h2, h3, fun h5 => hs ?_⟩
  have h5' : 5 ≤ p.op.toNat := h5
  omega
theorem jv5 : ∀ (c : Co) (ts : List Tm), vh2 c → WfC c → FitsL ts → FitsL (j9 ts c).1 := by
  intro c
  induction c with
  | leaf p =>
    intro ts hf hw h
    refine vv4 h (jg8 hf fun h5 => ?_)
    have hl : qi9 p.op = true := hw
    unfold qi9 at hl
    simp only [Bool.or_eq_true, beq_iff_eq] at hl
    omega
  | un p x ih =>
    intro ts hf hw h
    have h1 := ih ts hf.2 hw.2 h
    have hlt := (qm0 ts x).2.2
    exact vv4 h1 (jg8 hf.1 fun _ => ⟨hlt, by omega⟩)
  | bin p x y ihx ihy =>
    intro ts hf hw h
    have h1 := ihx ts hf.2.1 hw.2.1 h
    have h2 := ihy (j9 ts x).1 hf.2.2 hw.2.2 h1
    have l1 := qm0 ts x
    have l2 := qm0 (j9 ts x).1 y
    exact vv4 h2 (jg8 hf.1 fun _ => ⟨by omega, l2.2.2⟩)
end
section
attribute [local go_sem ↓] qd6
def RunEnds (w : World) (l : List Nat) (e : Ending) (w' : World) : Prop := ∃ v, e = .returned v ∧ IsAt w' w.heap.size v l ∧ Below w.heap.size w w'
theorem IsAt.mono {w : World} {lo hi : Nat} {v : Value} {l : List Nat} (h : IsAt w hi v l) (hl : lo ≤ hi) : IsAt w lo v l := by
  refine ⟨h.1, ?_⟩
  rcases h.2 with hn | ⟨g, cap, cur, rfl, hbg, rest⟩
  · exact .inl hn
  · exact .inr ⟨g, cap, cur, rfl, by omega, rest⟩
theorem IsAt.app {W : World} {base : Nat} {v : Value} {l : List Nat} (h : IsAt W base v l) (hb : base ≤ W.heap.size) (x : Nat) (hn : l.length ≤ 1000) (ty : TypeId) :
    ∃ g cap w5, (qn1 #[29, 29] ty #[v, .slice (some ⟨W.heap.size, 0, none⟩) 1 1]).run Tryz.prog (W.alloc (.cells #[.int .i64 x] 3)) = .ok (.slice (some ⟨g, 0, none⟩) (l.length + 1) cap) w5 ∧
      Hid (IsAt w5 base (.slice (some ⟨g, 0, none⟩) (l.length + 1) cap) (l ++ [x])) ∧ Hid (Below base W w5) := by
  obtain ⟨i0, hi, hz0, hz1, hz2⟩ := info_parts qs9
  have ha := World.ownsRow.alloc h (.cells #[.int .i64 x] 3)
  obtain ⟨g, cap, w5, hr, hown, hgrow, hat, _⟩ := run_append_lies (P := Tryz.prog) (W.alloc (.cells #[.int .i64 x] 3)) 29 ty base 3 i0 _ 1 8 Tryz.underlying29 hi hz0 hz1 hz2 rfl (by omega) v l.length (qk3 l) ha
    ⟨W.heap.size, 0, none⟩ 1 1 [.int .i64 x] rfl (World.news_of_block (cs := #[.int .i64 x]) (t := 3) (fr := (0, 0)) (heap_alloc_new W _)) (by simp [Value.oneCell']) (by omega) (by unfold maxLen; omega) (by omega) (by simp; omega) _ rfl
  refine ⟨g, cap, w5, hr, v6 ?_, v6 ?_⟩
  · show World.ownsRow _ _ _ _ _ _ _
    rw [List.length_append, List.length_singleton, qk3, List.map_append]
    exact hown
  · exact Go.RowKit.Below.grown (((Below.refl base W).alloc hb _)) hgrow (by simp; omega) (fun k hk => (ha.lt k hk).1)
theorem IsAt.app' {W W' : World} {base : Nat} {v : Value} {l : List Nat} (h : IsAt W base v l) (hb : base ≤ W.heap.size) (x : Nat) (hn : l.length ≤ 1000) (ty : TypeId) (H : Nat) (hH : W.heap.size = H) (hW : W' = W.alloc (.cells #[.int .i64 x] 3)) :
    ∃ g cap w5, (qn1 #[29, 29] ty #[v, .slice (some ⟨H, 0, none⟩) 1 1]).run Tryz.prog W' = .ok (.slice (some ⟨g, 0, none⟩) (l.length + 1) cap) w5 ∧
      Hid (IsAt w5 base (.slice (some ⟨g, 0, none⟩) (l.length + 1) cap) (l ++ [x])) ∧ Hid (Below base W w5) := by
  subst hH hW
  exact h.app hb x hn ty
theorem RunAt.nextB {w wr w' : World} {vb n B : Nat} {vs : List V} (h : RunAt w wr vb n vs) (hb : Below B wr w') (hB : vb < B) : RunAt w w' vb n vs :=
  ⟨h.vals.below hb hB, fun j => (hb.frozen (p := ⟨vb, j, none⟩) hB).trans (h.fz j), h.ge, Nat.lt_of_lt_of_le h.lt hb.size, h.bel.trans (hb.mono (by have := h.ge; omega))⟩
theorem IsAt.below {B : Nat} {w w' : World} {base : Nat} {v : Value} {l : List Nat} (h : IsAt w base v l) (hb : Below B w w') (hB : w.heap.size ≤ B) : IsAt w' base v l := qf4 h hb hB
theorem qs6 (w : World) (o : Obj) : Below w.heap.size w (w.alloc o) := (Below.refl _ _).alloc (Nat.le_refl _) o
set_option maxHeartbeats 2000000 in
set_option maxRecDepth 100000 in
theorem jr3 (ps : List Pr) (ev : Value) (pb o : Nat) (ts : List Tm) (rs : List Nat) (w : World) (hp : ProgAt w pb o ts rs) (hg : Prg ts rs) (hev : EvArg w ev ps) (hr : jb9 ps) (hs : EvSh ps) :
    Calls Tryz.prog 42 #[.pointer (some ⟨pb, o, none⟩), ev] w (RunEnds w (metR ps ts rs)) := by
  obtain ⟨i0, hi, hz0, hz1, hz2⟩ := info_parts jr6
  obtain ⟨i1, hj, hy0, hy1, hy2⟩ := info_parts qs9
  obtain ⟨plt, ⟨tv, tb, c0, hts⟩, rv, rb, c1, hrs⟩ := hp
  have HTS := v6 hts
  have HRS := v6 hrs
  have HEV := v6 hev
  obtain ⟨ea, en, ec, rfl⟩ := hev.slice
  obtain ⟨ta, tc, rfl, hTC⟩ := hts.cells
  obtain ⟨ra, rc, rfl, hRC⟩ := hrs.cells
  have HTC : Hid _ := v6 hTC
  have HRC : Hid _ := v6 hRC
  have HG := v6 hg
  have HVG : Hid (∀ k, k ≤ ts.length → ∀ i, Gv ((qr3 ps ts k).getD i nV)) := v6 fun k hk => jx3 hr hs hg.fits k hk
  have h80 := hg.terms
  have h8 := hg.roots
  clear hTC hRC hts hrs hev hg hr hs
  obtain ⟨n, hn⟩ : ∃ n, n = ts.length := ⟨_, rfl⟩
  obtain ⟨m, hm⟩ : ∃ m, m = rs.length := ⟨_, rfl⟩
  have HN : Hid (n = ts.length) := v6 hn
  have HM : Hid (m = rs.length) := v6 hm
  rw [← hn] at c0 h80
  rw [← hm] at c1 h8
  obtain ⟨R, hR⟩ : ∃ R, metR ps ts rs = R := ⟨_, rfl⟩
  have HR : Hid (R = jx2 (qr3 ps ts n) rs m) := v6 (by rw [hn, hm, ← hR]; rfl)
  rw [hR]
  clear hn hm hR
  have nv : ¬ pb = w.heap.size := by omega
  go_enter Tryz.func42, Tryz.ntmps42
  go_wp2_with (at_make; refine wpList_make_full _ rfl _ _ 151 rfl w.heap.size 118 i0 _ 3 Tryz.underlying151 hi hz0 hz1 .i64 .i64 _ _ n rfl rfl rfl rfl (by rw [hz2]; omega) (by unfold maxLen; omega) (Nat.le_refl _) ?_; intro w1 hown1 hgrow1; have R0 := v6 (RunAt.made hown1 hgrow1); have d0 := hgrow1.cell c0 (by simp); have d1 := hgrow1.cell c1 (by simp); clear hown1 hgrow1)
  go_loopw [22] (fun i wr => ∃ k : Nat, k ≤ n ∧ i = .int .i64 k ∧ Hid (RunAt w wr w.heap.size n (qr3 ps ts k))) (fun i _ => n - (intOf i).toNat)
  case atStart => exact ⟨0, Nat.zero_le _, rfl, R0⟩
  case round =>
    obtain ⟨k, hk, rfl, HL⟩ := hrel
    by_cases hlt : k < n
    · obtain ⟨t, ht⟩ : ∃ t, ts[k]? = some t := ⟨_, List.getElem?_eq_getElem (by have := q9 HN; omega)⟩
      obtain ⟨g, rfl, glt, t0, t1, t2, t3, t4, t5⟩ := q9 HTC k t ht
      have hB := (q9 HL).bel
      obtain ⟨hcB, hfB⟩ := j6 hB
      rw [← hcB g (k * 6) glt] at t0
      rw [← hcB g (k * 6 + 1) glt] at t1
      rw [← hcB g (k * 6 + 2) glt] at t2
      rw [← hcB g (k * 6 + 3) glt] at t3
      rw [← hcB g (k * 6 + 4) glt] at t4
      rw [← hcB g (k * 6 + 5) glt] at t5
      have hS : Hid (qr3 ps ts (k + 1) = qr3 ps ts k ++ [ofT ps (qr3 ps ts k) t]) := v6 (by rw [qr3, List.getD_eq_getElem?_getD, ht]; rfl)
      have hVL : Hid ((qr3 ps ts k).length = k) := v6 (qn8 _ _ _)
      have hzr := (q9 HL).lt
      have hzg : g < wr.heap.size := by have := hB.size; omega
      have hk0 : (0 : Int) ≤ (k : Int) := by omega
      have hk1 : (k : Int) < (n : Int) := by omega
      have TO : Hid (∀ W, EvArg W (.slice ea en ec) ps → ValsAt W w.heap.size n (qr3 ps ts k) → w.heap.size < W.heap.size → qw7 W ps (.slice ea en ec) (.slice (some ⟨w.heap.size, 0, none⟩) n n) (qr3 ps ts k) t) := v6 fun W h1 h2 h3 => tof_any h1 h2 h3 (q9 HVG k (by have := q9 HN; omega)) ((q9 HG).fits k t ht) (by omega)
      generalize qr3 ps ts k = vs at *
      obtain ⟨x, hx⟩ : ∃ x, ofT ps vs t = x := ⟨_, rfl⟩
      unfold qw7 at TO
      rw [hx] at TO hS
      simp only [tmV] at TO
      clear hcB hfB hB ht hx
      go_wp2_with (go_at_call 69; refine (q9 TO _ ((q9 HEV).below (v7 (q9 HL).bel (qs6 wr _))) ((q9 HL).vals.below (qs6 wr _) hzr) (by simp; omega)).mono ?_; rintro e w2 ⟨rfl, hb2⟩; have HL2 := v6 ((q9 HL).next (v7 (qs6 wr _) hb2)); have fz2 := (q9 HL2).fz; obtain ⟨v0, v1, v2⟩ := (q9 HL2).vals k hlt; have lt2 := (q9 HL2).lt; clear hb2; simp only [vV])
      case roundEnd => exact ⟨⟨k + 1, by omega, rfl, v6 (by rw [q9 hS]; exact (q9 HL2).store (q9 hVL) hlt x)⟩, by simp [intOf]; omega⟩
    · have : k = n := by omega
      subst this
      have d2 : wr.cell? ⟨pb, o + 1, none⟩ = some (.slice ra m rc) := ((q9 HL).bel.cell (p := ⟨pb, o + 1, none⟩) plt).trans c1
      obtain ⟨hVG, hVL⟩ : Hid (∀ i, Gv ((qr3 ps ts k).getD i nV)) ∧ Hid ((qr3 ps ts k).length = k) := ⟨v6 (q9 HVG k (by have := q9 HN; omega)), v6 (qn8 _ _ _)⟩
      have hzr := (q9 HL).lt
      generalize qr3 ps ts k = vs at *
      go_wp2_with fail
      go_loopw [8, 40] (fun v i wr => ∃ j : Nat, j ≤ m ∧ i = .int .i64 j ∧ Hid (RunAt w wr w.heap.size k vs) ∧ Hid (IsAt wr (w.heap.size + 1) v (jx2 vs rs j))) (fun _ i _ => m - (intOf i).toNat)
      case atStart => exact ⟨0, Nat.zero_le _, rfl, HL, v6 (IsAt.nil _ _)⟩
      case round =>
        obtain ⟨j, hj2, rfl, HL2, HI⟩ := hrel
        by_cases hlt2 : j < m
        · obtain ⟨r, hr⟩ : ∃ r, rs[j]? = some r := ⟨_, List.getElem?_eq_getElem (by have := q9 HM; omega)⟩
          obtain ⟨g, rfl, glt, t0⟩ := q9 HRC j r hr
          have hrk : r < k := by have h1 := (q9 HG).below r (List.mem_of_getElem? hr); have h2 := q9 HN; omega
          have hS : Hid (jx2 vs rs (j + 1) = jx2 vs rs j ++ (if vs.getD r nV = bV true then [j] else [])) := v6 (by rw [jx2, List.getD_eq_getElem?_getD (l := rs), hr]; rfl)
          have hML : Hid ((jx2 vs rs j).length ≤ j) := v6 (vm7 _ _ _)
          obtain ⟨hcB, hfB⟩ := j6 (q9 HL2).bel
          rw [← hcB g j glt] at t0
          obtain ⟨v0, v1, v2⟩ := (q9 HL2).vals r hrk
          have hzr2 := (q9 HL2).lt
          have hzg : g < wr.heap.size := by have := (q9 HL2).bel.size; omega
          have hj0 : (0 : Int) ≤ (j : Int) := by omega
          have hj1 : (j : Int) < (m : Int) := by omega
          have hr0 : (0 : Int) ≤ (r : Int) := by omega
          have hr1 : (r : Int) < (k : Int) := by omega
          obtain ⟨x, hx⟩ : ∃ x, vs.getD r nV = x := ⟨_, rfl⟩
          rw [hx] at v0 v1 v2 hS
          have ex := fun w => vk7 x (bV true) w
          simp only [vV] at ex
          clear hcB hfB hr hx
          by_cases hb : x = bV true
          · have hd : decide (x = bV true) = true := decide_eq_true hb
            simp only [hd] at ex
            rw [if_pos hb] at hS
            clear hd hb
            have hbb : Below wr.heap.size wr (wr.alloc (.cells #[.int .i64 (bV true).kind, .int .i64 (bV true).num, .string (BS (bV true).str)] 118)).drew := (qs6 wr _).drew
            obtain ⟨g5, cap5, w5, hap, HI5, HB5⟩ := IsAt.app' (W' := ((wr.alloc (.cells #[.int .i64 (bV true).kind, .int .i64 (bV true).num, .string (BS (bV true).str)] 118)).alloc (.cells #[.int .i64 j] 3)).drew) ((q9 HI).below hbb (Nat.le_refl _)) (by simp; omega) j (by have := q9 hML; omega) 29 (wr.heap.size + 1) (by simp) rfl
            have HL5 := v6 (((q9 HL2).next hbb).nextB (q9 HB5) (Nat.lt_succ_self _))
            clear hbb HB5
            go_wp2_with fail
            go_region_with (go_at_call 70; refine (qa8 _ _).mono ?_; rintro e w' ⟨rfl, rfl⟩; simp only [vV])
            all_goals go_wp2_with fail
            all_goals exact ⟨⟨j + 1, by omega, rfl, HL5, v6 (by rw [q9 hS]; exact q9 HI5)⟩, by simp [intOf]; omega⟩
          · have hd : decide (x = bV true) = false := decide_eq_false hb
            simp only [hd] at ex
            rw [if_neg hb] at hS
            clear hd hb
            go_wp2_with fail
            go_region_with (go_at_call 70; refine (qa8 _ _).mono ?_; rintro e w' ⟨rfl, rfl⟩; simp only [vV])
            all_goals go_wp2_with fail
            all_goals exact ⟨⟨j + 1, by omega, rfl, v6 ((q9 HL2).next (by repeat (first | exact Below.refl _ _ | apply Below.drew | apply x3))), v6 (by rw [q9 hS, List.append_nil]; exact IsAt.below (q9 HI) (by repeat (first | exact Below.refl _ _ | apply Below.drew | apply x3)) (Nat.le_refl _))⟩, by simp [intOf]; omega⟩
        · have : j = m := by omega
          subst this
          have HI' := v6 (IsAt.mono (q9 HI) (Nat.le_succ _))
          have HB' := v6 (q9 HL2).bel
          go_wp2_with fail
          go_ret
          exact ⟨_, rfl, by rw [q9 HR]; exact q9 HI', q9 HB'⟩
end
section
attribute [local go_sem ↓] qd6
theorem SubsAt.form {w : World} {lo : Nat} {v : Value} {l : List Sb} (h : SubsAt w lo v l) : ∃ a c, v = .slice a l.length c := by
  obtain ⟨a, c, hv, _⟩ := h
  exact ⟨a, c, hv⟩
set_option maxHeartbeats 400000 in
theorem vb6 (bb : Nat) (l : List Sb) (id : Int) (v : Value) (w : World) (hc : w.cell? ⟨bb, 1, none⟩ = some v) (h : SubsAt w w.heap.size v l) (hup : qp0 l) (hn : l.length ≤ 8) :
    Calls Tryz.prog 30 #[.pointer (some ⟨bb, 0, none⟩), .int .i64 id] w fun e w' => e = .returned (.tuple #[.int .i64 (qb9 l id), .bool (l.any fun s => s.id == id)]) ∧ Below w.heap.size w w' := by
  have BS := v6 (jk7 l id v w h hup hn)
  obtain ⟨a, c, rfl⟩ := h.form
  obtain ⟨F, hF⟩ : ∃ F, (l.any fun s => s.id == id) = F := ⟨_, rfl⟩
  obtain ⟨P, hP⟩ : ∃ P, qb9 l id = P := ⟨_, rfl⟩
  rw [hF, hP] at BS ⊢
  clear hF hP h
  go_enter Tryz.func30, Tryz.ntmps30
  go_wp2_with (go_at_call 51; refine (q9 BS).mono ?_; rintro e w1 ⟨rfl, hb1⟩; have B1 := v6 hb1; clear hb1)
  go_ret2
  exact ⟨rfl, q9 B1⟩
set_option maxHeartbeats 400000 in
theorem new_any (w : World) : Calls Tryz.prog 10 #[] w fun e w' => e = .returned (.pointer (some ⟨w.heap.size, 0, none⟩)) ∧ w' = w.alloc (.cells #[.int .i64 0, .slice none 0 0, .slice none 0 0, .slice none 0 0] 67) := by
  go_enter Tryz.func10, Tryz.ntmps10
  go_wp2_with fail
  go_ret
  exact ⟨rfl, rfl⟩
set_option maxHeartbeats 400000 in
theorem nodes_any (bb n : Nat) (a : Option Addr) (c : Nat) (w : World) (h : w.cell? ⟨bb, 2, none⟩ = some (.slice a n c)) : Calls Tryz.prog 18 #[.pointer (some ⟨bb, 0, none⟩)] w fun e w' => e = .returned (.int .i64 n) ∧ w' = w := by
  have T := v6 (vb8 bb 2 n a c w h)
  go_enter Tryz.func18, Tryz.ntmps18
  go_wp2_with (go_at_call 36; refine (q9 T).mono ?_; rintro e w1 ⟨rfl, rfl⟩)
  go_ret
  exact ⟨rfl, rfl⟩
end
section
def runR (code : List UInt8) (ps : List Pr) : List Nat × Int :=
  if vf9 ps then (if (qt9 code).2.2 then (metR ps (qt9 code).1 (qt9 code).2.1, 0) else ([], 9)) else ([], 7)
theorem BytesAt.below {w w' : World} {v : Value} {l : List UInt8} (h : BytesAt w w.heap.size v l) (hb : Below w.heap.size w w') : BytesAt w' w'.heap.size v l := by
  obtain ⟨a, c, hv, hc, hx⟩ := h
  refine ⟨a, c, hv, hc, fun i x hi => ?_⟩
  obtain ⟨b, o, ha, hbl, hcell⟩ := hx i x hi
  exact ⟨b, o, ha, Nat.lt_of_lt_of_le hbl hb.size, (hb.cell (p := ⟨b, o + i, none⟩) hbl).trans hcell⟩
def SrEnds (w : World) (r : List Nat × Int) (e : Ending) (w' : World) : Prop := ∃ v, e = .returned (.tuple #[v, .int .i64 r.2]) ∧ IsAt w' w.heap.size v r.1 ∧ Below w.heap.size w w'
set_option maxHeartbeats 800000 in
theorem srun_ok (code : List UInt8) (hT : ∀ k, k < (vn2 code).1 → jc2 (qe2 (vc9 code).2 k).2 k) (cv : Value) (ps : List Pr) (ev : Value) (w : World) (h : BytesAt w w.heap.size cv code) (hev : EvIn w ev ps) (hg : EvGood ps) :
    Calls Tryz.prog 14 #[cv, ev] w (SrEnds w (runR code ps)) := by
  have HV := v6 (vd1 hev hg)
  obtain ⟨a, c, rfl, _⟩ : ∃ a c, cv = .slice a code.length c ∧ True := by obtain ⟨a, c, h1, _⟩ := h; exact ⟨a, c, h1, trivial⟩
  have HB := v6 h
  have HE := v6 hev
  obtain ⟨ea, en, ec, rfl⟩ := hev.slice
  cases hok : vf9 ps with
  | false =>
    have hR : runR code ps = ([], 7) := by rw [runR, hok]; rfl
    rw [hR]
    rw [hok] at HV
    clear hok hR
    go_enter Tryz.func14, Tryz.ntmps14
    go_wp2_with (go_at_call 40; refine (q9 HV).mono ?_; rintro e w1 ⟨rfl, hb1⟩)
    go_ret2
    exact ⟨_, rfl, IsAt.nil _ _, hb1⟩
  | true =>
    rw [hok] at HV
    have H8 := evOk_8 hok
    have HSH := v6 (vt3 hok)
    have HRG := v6 hg.rng
    have RD : Hid (∀ w1, Below w.heap.size w w1 → Calls Tryz.prog 41 #[.slice a code.length c] w1 (vw3 w1 (qt9 code))) := v6 fun w1 hb => pread_ok code hT _ w1 ((q9 HB).below hb)
    cases hP : (qt9 code).2.2 with
    | false =>
      have hR : runR code ps = ([], 9) := by rw [runR, hok, hP]; rfl
      rw [hR]
      unfold vw3 at RD
      rw [hP] at RD
      clear hok hR hP
      go_enter Tryz.func14, Tryz.ntmps14
      go_wp2_with (first | (go_at_call 40; refine (q9 HV).mono ?_; rintro e w1 ⟨rfl, hb1⟩; have hb1 := v6 hb1) | (go_at_call 41; refine (q9 RD _ (q9 hb1)).mono ?_; rintro e w2 ⟨pb, rfl, hp2, hb2⟩; have hp2 := v6 hp2; have hb2 := v6 hb2))
      go_ret2
      exact ⟨_, rfl, IsAt.nil _ _, v7 (q9 hb1) (q9 hb2)⟩
    | true =>
      have hR : runR code ps = (metR ps (qt9 code).1 (qt9 code).2.1, 0) := by rw [runR, hok, hP]; rfl
      rw [hR]
      have HF := v6 (jv6 hP)
      unfold vw3 at RD
      rw [hP] at RD
      generalize (qt9 code).1 = ts at *
      generalize (qt9 code).2.1 = rs at *
      clear hok hR hP
      obtain ⟨R, hR⟩ : ∃ R, metR ps ts rs = R := ⟨_, rfl⟩
      have PR : Hid (∀ w1 pb, EvArg w1 (.slice ea en ec) ps → ProgAt w1 pb 0 ts rs → Calls Tryz.prog 42 #[.pointer (some ⟨pb, 0, none⟩), .slice ea en ec] w1 (RunEnds w1 R)) := v6 fun w1 pb h1 h2 => hR ▸ jr3 ps _ pb 0 ts rs w1 h2 (q9 HF) h1 (q9 HRG) (q9 HSH)
      rw [hR]
      clear hR
      go_enter Tryz.func14, Tryz.ntmps14
      go_wp2_with (first | (go_at_call 40; refine (q9 HV).mono ?_; rintro e w1 ⟨rfl, hb1⟩; have hb1 := v6 hb1) | (go_at_call 41; refine (q9 RD _ (q9 hb1)).mono ?_; rintro e w2 ⟨pb, rfl, hp2, hb2⟩; have hp2 := v6 hp2; have hb2 := v6 hb2) | (go_at_call 42; refine (q9 PR _ _ (((q9 HE).below (v7 (q9 hb1) (q9 hb2))).arg H8) (q9 hp2)).mono ?_; rintro e w3 ⟨v, rfl, hi3, hb3⟩; have hi3 := v6 hi3; have hb3 := v6 hb3))
      go_ret2
      exact ⟨_, rfl, IsAt.mono (q9 hi3) (Nat.le_trans (q9 hb1).size (q9 hb2).size), v7 (v7 (q9 hb1) (q9 hb2)) (q9 hb3)⟩
end
section
def jt9 (c n : Int) : Int := if c < 0 then -(c + 1).tmod n else c % n
set_option maxHeartbeats 400000 in
theorem pick_any (c n : Int) (hc : Rng c) (hn : 0 < n) (w : World) : Calls Tryz.prog 21 #[.int .i64 c, .int .i64 n] w fun e w' => e = .returned (.int .i64 (jt9 c n)) ∧ w' = w := by
  have h1 := hc.1
  have h2 := hc.2
  unfold jt9
  have hn0 : n ≠ 0 := by omega
  by_cases h : c < 0
  · rw [if_pos h]
    have hd : decide (c < 0) = true := decide_eq_true h
    have w1 : IntKind.i64.wrap (c + 1) = c + 1 := by rw [IntKind.wrap_i64]; omega
    have w2 : IntKind.i64.wrap (-(c + 1)) = -(c + 1) := by rw [IntKind.wrap_i64]; omega
    go_enter Tryz.func21, Tryz.ntmps21
    go_wp2_with fail
    go_ret
    exact ⟨rfl, rfl⟩
  · rw [if_neg h]
    have hd : decide (c < 0) = false := decide_eq_false h
    go_enter Tryz.func21, Tryz.ntmps21
    go_wp2_with fail
    go_ret
    exact ⟨rfl, rfl⟩
end
end Go.Proofs.YtfkcaldjphakpabGreatDoor
