/- A program as bytes. Program.Run of any program that may be run. -/
import Derived.Test.YtfkcaldjphakpabGreatDoorM27
import Derived.Test.YtfkcaldjphakpabGreatDoorXPr2
import Derived.Test.YtfkcaldjphakpabGreatDoorXVal2
import Derived.Deep.RegionWith
namespace Go.Proofs.YtfkcaldjphakpabGreatDoor
open Go.RowKit

section
attribute [local go_sem ↓] app_fold

theorem OB.below {B : Nat} {w w' : World} {base : Nat} {v : Value} {l : List UInt8} (h : OB w base v l) (hb : Below B w w') (hB : w.heap.size ≤ B) : OB w' base v l := ownsRow_below h hb hB
end

section
attribute [local go_sem ↓] app_fold

/-- How Run ends. -/
def RunEnds (w : World) (l : List Nat) (e : Ending) (w' : World) : Prop := ∃ v, e = .returned v ∧ IsAt w' w.heap.size v l ∧ Below w.heap.size w w'

theorem IsAt.mono {w : World} {lo hi : Nat} {v : Value} {l : List Nat} (h : IsAt w hi v l) (hl : lo ≤ hi) : IsAt w lo v l := by
  refine ⟨h.1, ?_⟩
  rcases h.2 with hn | ⟨g, cap, cur, rfl, hbg, rest⟩
  · exact .inl hn
  · exact .inr ⟨g, cap, cur, rfl, by omega, rest⟩

theorem IsAt.app {W : World} {base : Nat} {v : Value} {l : List Nat} (h : IsAt W base v l) (hb : base ≤ W.heap.size) (x : Nat) (hn : l.length ≤ 1000) (ty : TypeId) :
    ∃ g cap w5, (appSem #[29, 29] ty #[v, .slice (some ⟨W.heap.size, 0, none⟩) 1 1]).run Tryz.prog (W.alloc (.cells #[.int .i64 x] 3)) = .ok (.slice (some ⟨g, 0, none⟩) (l.length + 1) cap) w5 ∧
      Hid (IsAt w5 base (.slice (some ⟨g, 0, none⟩) (l.length + 1) cap) (l ++ [x])) ∧ Hid (Below base W w5) := by
  obtain ⟨i0, hi, hz0, hz1, hz2⟩ := info_parts info_intg
  have ha := World.ownsRow.alloc h (.cells #[.int .i64 x] 3)
  obtain ⟨g, cap, w5, hr, hown, hgrow, hat, _⟩ := run_append_lies (P := Tryz.prog) (W.alloc (.cells #[.int .i64 x] 3)) 29 ty base 3 i0 _ 1 8 Tryz.underlying29 hi hz0 hz1 hz2 rfl (by omega) v l.length (intCells l) ha
    ⟨W.heap.size, 0, none⟩ 1 1 [.int .i64 x] rfl (World.news_of_block (cs := #[.int .i64 x]) (t := 3) (fr := (0, 0)) (heap_alloc_new W _)) (by simp [Value.oneCell']) (by omega) (by unfold maxLen; omega) (by omega) (by simp; omega) _ rfl
  refine ⟨g, cap, w5, hr, hide ?_, hide ?_⟩
  · show World.ownsRow _ _ _ _ _ _ _
    rw [List.length_append, List.length_singleton, intCells, List.map_append]
    exact hown
  · exact Go.RowKit.Below.grown (((Below.refl base W).alloc hb _)) hgrow (by simp; omega) (fun k hk => (ha.lt k hk).1)

theorem IsAt.app' {W W' : World} {base : Nat} {v : Value} {l : List Nat} (h : IsAt W base v l) (hb : base ≤ W.heap.size) (x : Nat) (hn : l.length ≤ 1000) (ty : TypeId) (H : Nat) (hH : W.heap.size = H) (hW : W' = W.alloc (.cells #[.int .i64 x] 3)) :
    ∃ g cap w5, (appSem #[29, 29] ty #[v, .slice (some ⟨H, 0, none⟩) 1 1]).run Tryz.prog W' = .ok (.slice (some ⟨g, 0, none⟩) (l.length + 1) cap) w5 ∧
      Hid (IsAt w5 base (.slice (some ⟨g, 0, none⟩) (l.length + 1) cap) (l ++ [x])) ∧ Hid (Below base W w5) := by
  subst hH hW
  exact h.app hb x hn ty

theorem RunAt.nextB {w wr w' : World} {vb n B : Nat} {vs : List V} (h : RunAt w wr vb n vs) (hb : Below B wr w') (hB : vb < B) : RunAt w w' vb n vs :=
  ⟨h.vals.below hb hB, fun j => (hb.frozen (p := ⟨vb, j, none⟩) hB).trans (h.fz j), h.ge, Nat.lt_of_lt_of_le h.lt hb.size, h.bel.trans (hb.mono (by have := h.ge; omega))⟩

theorem IsAt.below {B : Nat} {w w' : World} {base : Nat} {v : Value} {l : List Nat} (h : IsAt w base v l) (hb : Below B w w') (hB : w.heap.size ≤ B) : IsAt w' base v l := ownsRow_below h hb hB

theorem below1 (w : World) (o : Obj) : Below w.heap.size w (w.alloc o) := (Below.refl _ _).alloc (Nat.le_refl _) o

set_option maxHeartbeats 2000000 in
set_option maxRecDepth 100000 in
theorem prun_any (ps : List Pr) (ev : Value) (pb o : Nat) (ts : List Tm) (rs : List Nat) (w : World) (hp : ProgAt w pb o ts rs) (hg : Prg ts rs) (hev : EvArg w ev ps) (hr : EvRng ps) (hs : EvSh ps) :
    Calls Tryz.prog 42 #[.pointer (some ⟨pb, o, none⟩), ev] w (RunEnds w (metR ps ts rs)) := by
  obtain ⟨i0, hi, hz0, hz1, hz2⟩ := info_parts info_value
  obtain ⟨i1, hj, hy0, hy1, hy2⟩ := info_parts info_intg
  obtain ⟨plt, ⟨tv, tb, c0, hts⟩, rv, rb, c1, hrs⟩ := hp
  have HTS := hide hts
  have HRS := hide hrs
  have HEV := hide hev
  obtain ⟨ea, en, ec, rfl⟩ := hev.slice
  obtain ⟨ta, tc, rfl, hTC⟩ := hts.cells
  obtain ⟨ra, rc, rfl, hRC⟩ := hrs.cells
  have HTC : Hid _ := hide hTC
  have HRC : Hid _ := hide hRC
  have HG := hide hg
  have HVG : Hid (∀ k, k ≤ ts.length → ∀ i, Gv ((valsK ps ts k).getD i nV)) := hide fun k hk => valsK_good hr hs hg.fits k hk
  have h80 := hg.terms
  have h8 := hg.roots
  clear hTC hRC hts hrs hev hg hr hs
  obtain ⟨n, hn⟩ : ∃ n, n = ts.length := ⟨_, rfl⟩
  obtain ⟨m, hm⟩ : ∃ m, m = rs.length := ⟨_, rfl⟩
  have HN : Hid (n = ts.length) := hide hn
  have HM : Hid (m = rs.length) := hide hm
  rw [← hn] at c0 h80
  rw [← hm] at c1 h8
  obtain ⟨R, hR⟩ : ∃ R, metR ps ts rs = R := ⟨_, rfl⟩
  have HR : Hid (R = metK (valsK ps ts n) rs m) := hide (by rw [hn, hm, ← hR]; rfl)
  rw [hR]
  clear hn hm hR
  have nv : ¬ pb = w.heap.size := by omega
  go_enter Tryz.func42, Tryz.ntmps42
  go_wp2_with (at_make; refine wpList_make_full _ rfl _ _ 151 rfl w.heap.size 118 i0 _ 3 Tryz.underlying151 hi hz0 hz1 .i64 .i64 _ _ n rfl rfl rfl rfl (by rw [hz2]; omega) (by unfold maxLen; omega) (Nat.le_refl _) ?_; intro w1 hown1 hgrow1; have R0 := hide (RunAt.made hown1 hgrow1); have d0 := hgrow1.cell c0 (by simp); have d1 := hgrow1.cell c1 (by simp); clear hown1 hgrow1)
  go_loopw [22] (fun i wr => ∃ k : Nat, k ≤ n ∧ i = .int .i64 k ∧ Hid (RunAt w wr w.heap.size n (valsK ps ts k))) (fun i _ => n - (intOf i).toNat)
  case atStart => exact ⟨0, Nat.zero_le _, rfl, R0⟩
  case round =>
    obtain ⟨k, hk, rfl, HL⟩ := hrel
    by_cases hlt : k < n
    · obtain ⟨t, ht⟩ : ∃ t, ts[k]? = some t := ⟨_, List.getElem?_eq_getElem (by have := unhide HN; omega)⟩
      obtain ⟨g, rfl, glt, t0, t1, t2, t3, t4, t5⟩ := unhide HTC k t ht
      have hB := (unhide HL).bel
      obtain ⟨hcB, hfB⟩ := bcell hB
      rw [← hcB g (k * 6) glt] at t0
      rw [← hcB g (k * 6 + 1) glt] at t1
      rw [← hcB g (k * 6 + 2) glt] at t2
      rw [← hcB g (k * 6 + 3) glt] at t3
      rw [← hcB g (k * 6 + 4) glt] at t4
      rw [← hcB g (k * 6 + 5) glt] at t5
      have hS : Hid (valsK ps ts (k + 1) = valsK ps ts k ++ [ofT ps (valsK ps ts k) t]) := hide (by rw [valsK, List.getD_eq_getElem?_getD, ht]; rfl)
      have hVL : Hid ((valsK ps ts k).length = k) := hide (valsK_length _ _ _)
      have hzr := (unhide HL).lt
      have hzg : g < wr.heap.size := by have := hB.size; omega
      have hk0 : (0 : Int) ≤ (k : Int) := by omega
      have hk1 : (k : Int) < (n : Int) := by omega
      have TO : Hid (∀ W, EvArg W (.slice ea en ec) ps → ValsAt W w.heap.size n (valsK ps ts k) → w.heap.size < W.heap.size → TofOk W ps (.slice ea en ec) (.slice (some ⟨w.heap.size, 0, none⟩) n n) (valsK ps ts k) t) := hide fun W h1 h2 h3 => tof_any h1 h2 h3 (unhide HVG k (by have := unhide HN; omega)) ((unhide HG).fits k t ht) (by omega)
      generalize valsK ps ts k = vs at *
      obtain ⟨x, hx⟩ : ∃ x, ofT ps vs t = x := ⟨_, rfl⟩
      unfold TofOk at TO
      rw [hx] at TO hS
      simp only [tmV] at TO
      clear hcB hfB hB ht hx
      go_wp2_with (go_at_call 69; refine (unhide TO _ ((unhide HEV).below (below_any (unhide HL).bel (below1 wr _))) ((unhide HL).vals.below (below1 wr _) hzr) (by simp; omega)).mono ?_; rintro e w2 ⟨rfl, hb2⟩; have HL2 := hide ((unhide HL).next (below_any (below1 wr _) hb2)); have fz2 := (unhide HL2).fz; obtain ⟨v0, v1, v2⟩ := (unhide HL2).vals k hlt; have lt2 := (unhide HL2).lt; clear hb2; simp only [vV])
      case roundEnd => exact ⟨⟨k + 1, by omega, rfl, hide (by rw [unhide hS]; exact (unhide HL2).store (unhide hVL) hlt x)⟩, by simp [intOf]; omega⟩
    · have : k = n := by omega
      subst this
      have d2 : wr.cell? ⟨pb, o + 1, none⟩ = some (.slice ra m rc) := ((unhide HL).bel.cell (p := ⟨pb, o + 1, none⟩) plt).trans c1
      obtain ⟨hVG, hVL⟩ : Hid (∀ i, Gv ((valsK ps ts k).getD i nV)) ∧ Hid ((valsK ps ts k).length = k) := ⟨hide (unhide HVG k (by have := unhide HN; omega)), hide (valsK_length _ _ _)⟩
      have hzr := (unhide HL).lt
      generalize valsK ps ts k = vs at *
      go_wp2_with fail
      go_loopw [8, 40] (fun v i wr => ∃ j : Nat, j ≤ m ∧ i = .int .i64 j ∧ Hid (RunAt w wr w.heap.size k vs) ∧ Hid (IsAt wr (w.heap.size + 1) v (metK vs rs j))) (fun _ i _ => m - (intOf i).toNat)
      case atStart => exact ⟨0, Nat.zero_le _, rfl, HL, hide (IsAt.nil _ _)⟩
      case round =>
        obtain ⟨j, hj2, rfl, HL2, HI⟩ := hrel
        by_cases hlt2 : j < m
        · obtain ⟨r, hr⟩ : ∃ r, rs[j]? = some r := ⟨_, List.getElem?_eq_getElem (by have := unhide HM; omega)⟩
          obtain ⟨g, rfl, glt, t0⟩ := unhide HRC j r hr
          have hrk : r < k := by have h1 := (unhide HG).below r (List.mem_of_getElem? hr); have h2 := unhide HN; omega
          have hS : Hid (metK vs rs (j + 1) = metK vs rs j ++ (if vs.getD r nV = bV true then [j] else [])) := hide (by rw [metK, List.getD_eq_getElem?_getD (l := rs), hr]; rfl)
          have hML : Hid ((metK vs rs j).length ≤ j) := hide (metK_length _ _ _)
          obtain ⟨hcB, hfB⟩ := bcell (unhide HL2).bel
          rw [← hcB g j glt] at t0
          obtain ⟨v0, v1, v2⟩ := (unhide HL2).vals r hrk
          have hzr2 := (unhide HL2).lt
          have hzg : g < wr.heap.size := by have := (unhide HL2).bel.size; omega
          have hj0 : (0 : Int) ≤ (j : Int) := by omega
          have hj1 : (j : Int) < (m : Int) := by omega
          have hr0 : (0 : Int) ≤ (r : Int) := by omega
          have hr1 : (r : Int) < (k : Int) := by omega
          obtain ⟨x, hx⟩ : ∃ x, vs.getD r nV = x := ⟨_, rfl⟩
          rw [hx] at v0 v1 v2 hS
          have ex := fun w => eql_v x (bV true) w
          simp only [vV] at ex
          clear hcB hfB hr hx
          by_cases hb : x = bV true
          · have hd : decide (x = bV true) = true := decide_eq_true hb
            simp only [hd] at ex
            rw [if_pos hb] at hS
            clear hd hb
            have hbb : Below wr.heap.size wr (wr.alloc (.cells #[.int .i64 (bV true).kind, .int .i64 (bV true).num, .string (BS (bV true).str)] 118)).drew := (below1 wr _).drew
            obtain ⟨g5, cap5, w5, hap, HI5, HB5⟩ := IsAt.app' (W' := ((wr.alloc (.cells #[.int .i64 (bV true).kind, .int .i64 (bV true).num, .string (BS (bV true).str)] 118)).alloc (.cells #[.int .i64 j] 3)).drew) ((unhide HI).below hbb (Nat.le_refl _)) (by simp; omega) j (by have := unhide hML; omega) 29 (wr.heap.size + 1) (by simp) rfl
            have HL5 := hide (((unhide HL2).next hbb).nextB (unhide HB5) (Nat.lt_succ_self _))
            clear hbb HB5
            go_wp2_with fail
            go_region_with (go_at_call 70; refine (vBool_eq _ _).mono ?_; rintro e w' ⟨rfl, rfl⟩; simp only [vV])
            all_goals go_wp2_with fail
            all_goals exact ⟨⟨j + 1, by omega, rfl, HL5, hide (by rw [unhide hS]; exact unhide HI5)⟩, by simp [intOf]; omega⟩
          · have hd : decide (x = bV true) = false := decide_eq_false hb
            simp only [hd] at ex
            rw [if_neg hb] at hS
            clear hd hb
            go_wp2_with fail
            go_region_with (go_at_call 70; refine (vBool_eq _ _).mono ?_; rintro e w' ⟨rfl, rfl⟩; simp only [vV])
            all_goals go_wp2_with fail
            all_goals exact ⟨⟨j + 1, by omega, rfl, hide ((unhide HL2).next (by repeat (first | exact Below.refl _ _ | apply Below.drew | apply below_alloc))), hide (by rw [unhide hS, List.append_nil]; exact IsAt.below (unhide HI) (by repeat (first | exact Below.refl _ _ | apply Below.drew | apply below_alloc)) (Nat.le_refl _))⟩, by simp [intOf]; omega⟩
        · have : j = m := by omega
          subst this
          have HI' := hide (IsAt.mono (unhide HI) (Nat.le_succ _))
          have HB' := hide (unhide HL2).bel
          go_wp2_with fail
          go_ret
          exact ⟨_, rfl, by rw [unhide HR]; exact unhide HI', unhide HB'⟩
end

end Go.Proofs.YtfkcaldjphakpabGreatDoor
