/- program.Read of any bytes. small, is of any text and list, reads. A list of properties as an argument of a law. What the library's tables and variables are at a row's own world. -/
import Derived.Test.YtfkcaldjphakpabGreatDoorT27
import Derived.Deep.RegionWith
import Derived.Test.YtfkcaldjphakpabGreatDoorT28
import Derived.WalkKit
import Derived.ProofKit
import Derived.Deep.Slices
import Derived.Deep.Strs
import Derived.SizedLaws
import Derived.WideKeyArgs
import Derived.Laws.Rows
import Derived.Test.YtfkcaldjphakpabGreatDoorT16
import Derived.Test.YtfkcaldjphakpabGreatDoorRows
import Derived.Lib.LaidTab
import Derived.Lib.LaidU8
import Derived.Shelf.Vars
namespace Go.Proofs.YtfkcaldjphakpabGreatDoor
open Go.RowKit
section
attribute [local go_sem ↓] qc8
theorem PsAt.new {w : World} {v : Value} {l : List UInt8} (h : BytesAt w w.heap.size v l) (ty : TypeId) : PsAt (w.alloc (.cells #[v, .bool false] ty)) w.heap.size ⟨l, false⟩ := by
  obtain ⟨a, c, rfl, hc, hx⟩ := h
  refine ⟨by simp, ⟨.slice a l.length c, by simp [go_sem], a, c, rfl, hc, fun i x hi => ?_⟩, by simp [go_sem], fun j => by simp [go_sem]⟩
  obtain ⟨b, o, ha, hb, hcell⟩ := hx i x hi
  exact ⟨b, o, ha, hb, ((((Below.refl w.heap.size w).alloc (Nat.le_refl _) _).cell (p := ⟨b, o + i, none⟩) hb)).trans hcell⟩
theorem RdL.start {w w2 : World} {rb : Nat} {s : Ps} (hp : PsAt w2 rb s) (hr : w.heap.size ≤ rb) (hb : Below w.heap.size w w2) (ty : TypeId) : RdL w (w2.alloc (.cells #[.slice none 0 0, .slice none 0 0] ty)) rb w2.heap.size s [] (.slice none 0 0) [] (.slice none 0 0) := by
  refine ⟨hp.alloc _, by simp [go_sem], by simp [go_sem], fun j => by simp [go_sem], hp.lt, by simp, TsAt.nil _ _, IsAt.nil _ _, fun g hg => by simp [Value.ownBlock] at hg, hr, hb.alloc hb.size _⟩
def vr8 (w : World) (r : List Tm × List Nat × Bool) (e : Ending) (w' : World) : Prop :=
  ∃ pb, e = .returned (.tuple #[.pointer (some ⟨pb, 0, none⟩), .bool r.2.2]) ∧ ProgAt w' pb 0 r.1 r.2.1 ∧ Below w.heap.size w w'
set_option maxHeartbeats 2000000 in
set_option maxRecDepth 100000 in
theorem pread_ok (code : List UInt8) (hT : ∀ k, k < (vk0 code).1 → vw8 (qd8 (vb2 code).2 k).2 k) (cv : Value) (w : World) (h : BytesAt w w.heap.size cv code) :
    Calls Tryz.prog 41 #[cv] w (vr8 w (qu1 code)) := by
  obtain ⟨i0, hi, hz0, hz1, hz2⟩ := info_parts vi1
  obtain ⟨i1, hj, hy0, hy1, hy2⟩ := info_parts qs5
  have HP : Hid (∀ ty, PsAt (w.alloc (.cells #[cv, .bool false] ty)) w.heap.size ⟨code, false⟩) := v6 fun ty => PsAt.new h ty
  obtain ⟨a, c, rfl, hc, hx⟩ := h
  clear hx hc
  obtain ⟨HH, eH⟩ : ∃ x, Ps.upTo ⟨code, false⟩ 80 = x := ⟨_, rfl⟩
  have T1 := v6 (fun w1 h1 => qs9 w.heap.size ⟨code, false⟩ 80 w1 h1)
  have hN := Ps.upTo_le ⟨code, false⟩ 80
  rw [eH] at T1 hN
  obtain ⟨N, s1⟩ := HH
  obtain ⟨II, eI⟩ : ∃ x, Ps.upTo s1 8 = x := ⟨_, rfl⟩
  have T2 := v6 (fun w1 h1 => qs9 w.heap.size s1 8 w1 h1)
  have hM := Ps.upTo_le s1 8
  rw [eI] at T2 hM
  obtain ⟨M, s2⟩ := II
  have ER : Hid (qu1 code = ((qd8 s2 N).1, (qh5 ((N : Int) - 1) (qd8 s2 N).2 M).1, !(qh5 ((N : Int) - 1) (qd8 s2 N).2 M).2.bad && ((qh5 ((N : Int) - 1) (qd8 s2 N).2 M).2.rest.length == 0))) := v6 (by
    have e1 : vk0 code = (N, s1) := eH
    have e2 : vb2 code = (M, s2) := by rw [vb2, e1]; exact eI
    have e3 : readT code = qd8 s2 N := by rw [readT, e1, e2]
    have e4 : jw2 code = qh5 ((N : Int) - 1) (qd8 s2 N).2 M := by rw [jw2, e1, e2, e3]
    rw [qu1, e3, e4])
  have HT : Hid (∀ k, k < N → vw8 (qd8 s2 k).2 k) := v6 (by
    have e1 : vk0 code = (N, s1) := eH
    have e2 : vb2 code = (M, s2) := by rw [vb2, e1]; exact eI
    rw [e1, e2] at hT
    exact hT)
  generalize qu1 code = RR at ER ⊢
  clear hT
  clear eH eI
  simp only at T1 T2 hN hM
  go_enter Tryz.func41, Tryz.ntmps41
  go_wp2_with (first | (go_at_call 67; refine (q9 T2 _ (q9 hp1)).mono ?_; rintro e w2 ⟨rfl, hp2, hk2⟩; have K2 : Hid (Below w.heap.size w w2) := v6 (vc9 (q9 K1) hk2 (Nat.le_refl _)); have R0 : Hid (∀ ty, RdL w (w2.alloc (.cells #[.slice none 0 0, .slice none 0 0] ty)) w.heap.size w2.heap.size s2 [] (.slice none 0 0) [] (.slice none 0 0)) := v6 (fun ty => RdL.start hp2 (Nat.le_refl _) (q9 K2) ty); clear hk2 hp2) | (go_at_call 67; refine (q9 T1 _ (q9 HP _)).mono ?_; rintro e w1 ⟨rfl, hp1, hk1⟩; have hp1 := v6 hp1; have K1 : Hid (Below w.heap.size w w1) := v6 (vc9 ((Below.refl _ _).alloc (Nat.le_refl _) _) hk1 (Nat.le_refl _)); clear hk1))
  go_loopw [16] (fun i wr => ∃ (k : Nat) (tv : Value), k ≤ N ∧ i = .int .i64 k ∧ Hid (RdL w wr w.heap.size w2.heap.size (qd8 s2 k).2 (qd8 s2 k).1 tv [] (.slice none 0 0))) (fun i _ => N - (intOf i).toNat)
  case atStart => exact ⟨0, _, Nat.zero_le _, rfl, q9 R0 _⟩
  case round =>
    obtain ⟨k, tv, hk, rfl, HL⟩ := hrel
    by_cases hlt : k < N
    · have hS : Hid (qd8 s2 (k + 1) = ((qd8 s2 k).1 ++ [((qd8 s2 k).2.term k).1], ((qd8 s2 k).2.term k).2)) := v6 rfl
      have hL : (qd8 s2 k).1.length = k := qu5 _ _
      obtain ⟨X, hX⟩ : ∃ x, qd8 s2 k = x := ⟨_, rfl⟩
      have hTk := q9 HT k hlt
      rw [hX] at HL hS hL hTk
      obtain ⟨ts, s3⟩ := X
      obtain ⟨t, ht⟩ : ∃ t, s3.term k = t := ⟨_, rfl⟩
      simp only at HL hS hL
      rw [ht] at hS
      have TM : Hid (∀ w1, PsAt w1 w.heap.size s3 → Calls Tryz.prog 68 #[.pointer (some ⟨w.heap.size, 0, none⟩), .int .i64 k] w1 (qx3 w.heap.size w1 t)) := v6 (fun w1 h1 => ht ▸ hTk _ w1 h1)
      clear ht hX hTk
      obtain ⟨t, s4⟩ := t
      have c0 := (q9 HL).c0
      have fz := (q9 HL).fz
      have lt0 := (q9 HL).lt
      go_wp2_with fail
      go_region_with (go_at_call 68; refine (q9 TM _ (q9 HL).ps.drew).mono ?_; rintro e w4 ⟨rfl, hp4, hk4⟩; have HL4 := v6 ((q9 HL).kept hk4.drew' hp4); have c4 := (q9 HL4).c0; have f4 := (q9 HL4).fz; have lt4 := (q9 HL4).lt; clear hk4 hp4; obtain ⟨g, cap, w5, hap, c5, f5, lt5, HL5⟩ := (q9 HL4).appT t (by omega) 63; rw [hL] at hap HL5; simp only [tmV])
      all_goals go_wp2_with fail
      all_goals exact ⟨⟨k + 1, _, by omega, rfl, v6 (by rw [q9 hS]; exact q9 HL5)⟩, by simp [intOf]; omega⟩
    · have : k = N := by omega
      subst this
      obtain ⟨X, hX⟩ : ∃ x, qd8 s2 k = x := ⟨_, rfl⟩
      rw [hX] at HL ER
      obtain ⟨ts, s3⟩ := X
      simp only at HL ER
      clear hX
      go_wp2_with fail
      go_loopw [32] (fun i wr => ∃ (j : Nat) (rv : Value), j ≤ M ∧ i = .int .i64 j ∧ Hid (RdL w wr w.heap.size w2.heap.size (qh5 ((k : Int) - 1) s3 j).2 ts tv (qh5 ((k : Int) - 1) s3 j).1 rv)) (fun i _ => M - (intOf i).toNat)
      case atStart => exact ⟨0, _, Nat.zero_le _, rfl, HL⟩
      case round =>
        obtain ⟨j, rv, hj', rfl, HR⟩ := hrel
        by_cases hlt2 : j < M
        · have hS : Hid (qh5 ((k : Int) - 1) s3 (j + 1) = ((qh5 ((k : Int) - 1) s3 j).1 ++ [((qh5 ((k : Int) - 1) s3 j).2.upTo ((k : Int) - 1)).1], ((qh5 ((k : Int) - 1) s3 j).2.upTo ((k : Int) - 1)).2)) := v6 rfl
          have hL : (qh5 ((k : Int) - 1) s3 j).1.length = j := vb3 _ _ _
          obtain ⟨X, hX⟩ : ∃ x, qh5 ((k : Int) - 1) s3 j = x := ⟨_, rfl⟩
          rw [hX] at HR hS hL
          obtain ⟨rs, s4⟩ := X
          simp only at HR hS hL
          obtain ⟨Y, hY⟩ : ∃ x, s4.upTo ((k : Int) - 1) = x := ⟨_, rfl⟩
          have TU := v6 (fun w1 h1 => qs9 w.heap.size s4 ((k : Int) - 1) w1 h1)
          rw [hY] at hS TU
          obtain ⟨r, s5⟩ := Y
          simp only at hS TU
          clear hX hY
          have hwr : IntKind.i64.wrap ((k : Int) - 1) = (k : Int) - 1 := by rw [IntKind.wrap_i64]; omega
          have c1 := (q9 HR).c1
          have fz := (q9 HR).fz
          have lt0 := (q9 HR).lt
          go_wp2_with fail
          go_region_with (go_at_call 67; refine (q9 TU _ (q9 HR).ps.drew).mono ?_; rintro e w4 ⟨rfl, hp4, hk4⟩; have HR4 := v6 ((q9 HR).kept hk4.drew' hp4); have c4 := (q9 HR4).c1; have f4 := (q9 HR4).fz; have lt4 := (q9 HR4).lt; clear hk4 hp4; obtain ⟨g, cap, w5, hap, c5, f5, lt5, HR5⟩ := (q9 HR4).appR r (by omega) 29; rw [hL] at hap HR5)
          all_goals go_wp2_with fail
          all_goals exact ⟨⟨j + 1, _, by omega, rfl, v6 (by rw [q9 hS]; exact q9 HR5)⟩, by simp [intOf]; omega⟩
        · have : j = M := by omega
          subst this
          obtain ⟨X, hX⟩ : ∃ x, qh5 ((k : Int) - 1) s3 j = x := ⟨_, rfl⟩
          rw [hX] at HR ER
          obtain ⟨rs, s4⟩ := X
          simp only at HR ER
          clear hX
          obtain ⟨v0, p0, hv0⟩ := (q9 HR).ps.c0
          have p1 := (q9 HR).ps.c1
          obtain ⟨a', c', rfl, hc', _⟩ := hv0
          have HP' := v6 (q9 HR).prog
          have HB' := v6 (q9 HR).bel
          clear HR HL HP T1 T2 R0 K1 K2
          cases hb : s4.bad with
          | true =>
            rw [hb] at p1 ER
            go_wp2_with fail
            go_region
            all_goals go_wp2_with fail
            all_goals go_ret2
            all_goals exact ⟨_, by rw [q9 ER]; rfl, by rw [q9 ER]; exact (q9 HP').below (Below.refl _ _).drew, (q9 HB').drew⟩
          | false =>
            rw [hb] at p1 ER
            by_cases hz : s4.rest.length = 0
            · rw [hz] at p0 ER
              go_wp2_with fail
              go_region
              all_goals go_wp2_with fail
              all_goals go_ret2
              all_goals exact ⟨_, by rw [q9 ER]; rfl, by rw [q9 ER]; exact (q9 HP').below (Below.refl _ _).drew, (q9 HB').drew⟩
            · have hz' : ((s4.rest.length : Int) == 0) = false := beq_eq_false_iff_ne.2 (by omega)
              have hz'' : (s4.rest.length == 0) = false := beq_eq_false_iff_ne.2 hz
              rw [hz''] at ER
              go_wp2_with fail
              go_region
              all_goals go_wp2_with fail
              all_goals go_ret2
              all_goals exact ⟨_, by rw [q9 ER]; rfl, by rw [q9 ER]; exact (q9 HP').below (Below.refl _ _).drew, (q9 HB').drew⟩
end
section
def evs : List Pr := [⟨[97], iV 5⟩]
def qc2 (w : World) : World := w.alloc (.cells #[.string ⟨#[97]⟩, .int .i64 2, .int .i64 5, .string ⟨#[]⟩] 120)
set_option maxHeartbeats 400000 in
theorem vk8 (w : World) :
    Calls Tryz.prog 27 #[] w fun e w' => e = .returned (.slice (some ⟨w.heap.size, 0, none⟩) 1 1) ∧ w' = qc2 w := by
  go_enter Tryz.func27, Tryz.ntmps27
  go_wp2_with fail
  go_ret
  exact ⟨rfl, rfl⟩
theorem je6 (w : World) : EvAt (qc2 w) w.heap.size 0 evs := by
  intro k p hk
  unfold qc2
  match k, hk with
  | 0, hk =>
    have : p = ⟨[97], iV 5⟩ := by simpa [evs] using hk.symm
    subst this
    refine ⟨?_, ?_, ?_, ?_⟩
    all_goals (rw [World.cell?_alloc_at _ _ _ _ rfl]; rfl)
  | k + 1, hk => simp [evs] at hk
theorem vg3 : EvGood evs := by
  refine ⟨fun p hp => ?_, fun p hp => ?_, by simp [evs]⟩
  · simp [evs] at hp; subst hp; exact ⟨by decide, by decide⟩
  · simp [evs] at hp; subst hp; exact ⟨by decide, by decide⟩
theorem jm2 {w w1 : World} (hb : Below (qc2 w).heap.size (qc2 w) w1) : EvIn w1 (.slice (some ⟨w.heap.size, 0, none⟩) 1 1) evs := by
  have hz : (qc2 w).heap.size = w.heap.size + 1 := by simp [qc2]
  exact .inr ⟨w.heap.size, 0, 1, rfl, by simp [evs], (je6 w).below hb (by omega), by have := hb.size; omega⟩
theorem is_in (s : ByteArray) (hs : s.size ≤ 140737488355328) (ps : List Pr) (ev : Value) (want : V) (w : World) (hE : ErrOk w) (hev : EvIn w ev ps) (hg : EvGood ps) (hr : je3 s ps = ⟨want, 0, 0⟩) :
    Calls Tryz.prog 81 #[.string s, ev, vV want] w fun e w' => e = .returned (.bool true) ∧ Below w.heap.size w w' := by
  refine (is_any s ev want want hev.slice w (fun w1 hb _ => ?_)).mono ?_
  · have := eval_any s hs ps ev w1 (hE.below hb (Nat.le_refl _)) (hev.below hb) hg
    rw [hr] at this
    exact this
  · rintro e w' ⟨rfl, h⟩
    exact ⟨by simp, h⟩
def textR1 : ByteArray := ⟨#[97, 32, 43, 32, 49, 32, 61, 32, 54, 32, 65, 78, 68, 32, 78, 79, 84, 32, 98, 32, 73, 83, 32, 78, 85, 76, 76, 32, 79, 82, 32, 97, 32, 62, 32, 52]⟩
def textR2 : ByteArray := ⟨#[97, 32, 60, 32, 53]⟩
set_option maxRecDepth 100000 in
theorem evalR1 : je3 textR1 evs = ⟨bV true, 0, 0⟩ := by kernel_rfl
set_option maxRecDepth 100000 in
theorem evalR2 : je3 textR2 evs = ⟨bV false, 0, 0⟩ := by kernel_rfl
set_option maxHeartbeats 1000000 in
theorem reads_any (w : World) (hE : ErrOk w) :
    Calls Tryz.prog 50 #[] w fun e w' => e = .returned (.bool true) ∧ Below w.heap.size w w' := by
  have hz : (qc2 w).heap.size = w.heap.size + 1 := by simp [qc2]
  have hE0 : ErrOk (qc2 w) := hE.alloc _
  have I1 : Hid (∀ w1, Below (qc2 w).heap.size (qc2 w) w1 → Calls Tryz.prog 81 #[.string textR1, .slice (some ⟨w.heap.size, 0, none⟩) 1 1, vV (bV true)] w1 fun e w' => e = .returned (.bool true) ∧ Below w1.heap.size w1 w') :=
    v6 (fun w1 hb => is_in textR1 (by decide) evs _ _ w1 (hE0.below hb (Nat.le_refl _)) (jm2 hb) vg3 evalR1)
  have I2 : Hid (∀ w1, Below (qc2 w).heap.size (qc2 w) w1 → Calls Tryz.prog 81 #[.string textR2, .slice (some ⟨w.heap.size, 0, none⟩) 1 1, vV (bV false)] w1 fun e w' => e = .returned (.bool true) ∧ Below w1.heap.size w1 w') :=
    v6 (fun w1 hb => is_in textR2 (by decide) evs _ _ w1 (hE0.below hb (Nat.le_refl _)) (jm2 hb) vg3 evalR2)
  have HB : Hid (Below (qc2 w).heap.size (qc2 w) (qc2 w)) := v6 (Below.refl _ _)
  have BW : Hid (∀ w1, Below (qc2 w).heap.size (qc2 w) w1 → Below w.heap.size w w1) := v6 (fun w1 h => v7 ((Below.refl _ _).alloc (Nat.le_refl _) _) h)
  clear hE hE0 hz
  go_enter Tryz.func50, Tryz.ntmps50
  go_wp2_with fail
  refine (vk8 _).mono ?_
  rintro e w1 ⟨rfl, rfl⟩
  go_wp2_with fail
  refine (jb5 _ _).mono ?_
  rintro e w1 ⟨rfl, hb⟩
  replace HB := v6 (v7 (q9 HB) hb)
  clear hb
  go_wp2_with fail
  refine (q9 I1 _ (q9 HB)).mono ?_
  rintro e w2 ⟨rfl, hb⟩
  replace HB := v6 (v7 (q9 HB) hb)
  clear hb
  go_wp2_with fail
  refine (jb5 _ _).mono ?_
  rintro e w3 ⟨rfl, hb⟩
  replace HB := v6 (v7 (q9 HB) hb)
  clear hb
  go_wp2_with fail
  refine (q9 I2 _ (q9 HB)).mono ?_
  rintro e w4 ⟨rfl, hb⟩
  replace HB := v6 (v7 (q9 HB) hb)
  clear hb
  go_wp2_with fail
  go_ret
  exact ⟨rfl, q9 BW _ (q9 HB)⟩
end
section
open Go.ChangeShapes Go.WideShapes Go.ChangeAt Go.RowKit Go.Deep
theorem vx6 : Tryz.prog.cellsOf 120 = 4 := by kernel_rfl
theorem cellsVal : Tryz.prog.cellsOf 118 = 3 := by kernel_rfl
theorem vs4 : Tryz.prog.cellsOf 9 = 1 := by kernel_rfl
theorem jk3 : Tryz.prog.cellsOf 3 = 1 := by kernel_rfl
theorem cellsI64 : Tryz.prog.cellsOf 2 = 1 := by kernel_rfl
theorem bytesProp : Tryz.prog.bytesOf 120 = 48 := by kernel_rfl
section
variable {H : Type} {enc : TypeId × Value → H}
theorem wf_rng {n : Int} (h : (Lit.int .i64 n).wf = true) : Rng n := by
  simp only [Lit.wf, Bool.and_eq_true, decide_eq_true_eq] at h
  exact ⟨h.1, h.2⟩
set_option maxRecDepth 100000 in
theorem open_prop {W : World} {base : Nat} {sp : Nat → Bool} {n : Nat} {cs : List Value} {x : DataW H × List MemPlace} (h : DataW.trod enc Tryz.prog W base sp true n 120 cs = some x) :
    ∃ (nm st : ByteArray) (k m : Int), cs = [.string nm, .int .i64 k, .int .i64 m, .string st] ∧ x = (.agg [.lit (.string nm.data.toList), .agg [.lit (.int .i64 k), .lit (.int .i64 m), .lit (.string st.data.toList)]], []) ∧ Rng m := by
  obtain ⟨y0, y1, n1, rfl, hl, t0, t1⟩ := trod_struct2 Tryz.underlying120 h
  rw [vx6] at hl
  match cs, hl with
  | [c0, c1, c2, c3], _ =>
    simp only [vs4, cellsVal, List.drop, List.take] at t0 t1
    obtain ⟨nm, h0, rfl, _⟩ := DataW.trod_string Tryz.underlying9 t0
    obtain ⟨z0, z1, z2, n2, rfl, _, u0, u1, u2⟩ := trod_struct3 Tryz.underlying118 t1
    simp only [jk3, cellsI64, vs4, List.drop, List.take] at u0 u1 u2
    obtain ⟨k, h1, rfl, _⟩ := DataW.trod_int Tryz.underlying3 u0
    obtain ⟨m, h2, rfl, wm⟩ := DataW.trod_int Tryz.underlying2 u1
    obtain ⟨st, h3, rfl, _⟩ := DataW.trod_string Tryz.underlying9 u2
    simp only [List.cons.injEq, and_true] at h0 h1 h2 h3
    subst h0 h1 h2 h3
    exact ⟨nm, st, k, m, rfl, rfl, wf_rng wm⟩
theorem vm7 {P : Program} {e : TypeId} {d : DataW H} : ∀ {l : List (DataW H)}, d ∈ l → ∀ n ∈ d.weights P e, n ∈ DataW.weightsAll P e l := by
  intro l
  induction l with
  | nil => intro h; cases h
  | cons a r ih =>
    intro h n hn
    rw [DataW.weightsAll]
    rcases List.mem_cons.1 h with rfl | h
    · exact List.mem_append_left _ hn
    · exact List.mem_append_right _ (ih h n hn)
set_option maxRecDepth 100000 in
theorem jc0 (nm st : List UInt8) (k m : Int) : (DataW.agg [.lit (.string nm), .agg [.lit (.int .i64 k), .lit (.int .i64 m), .lit (.string st)]] : DataW H).weights Tryz.prog 120 = [nm.length, st.length] := by
  rw [DataW.weights, Tryz.underlying120]
  simp only [List.map, DataW.weightsEach, DataW.weights, Tryz.underlying118]
  rfl
set_option maxRecDepth 100000 in
theorem va9 {W : World} {fuel : Nat} {cs : List Value} {d : DataW H} {pl : List MemPlace} (ht : DataW.trod enc Tryz.prog W 0 (fun _ => true) true fuel 23 cs = some (d, pl))
    (hw : ∀ n ∈ d.weights Tryz.prog 23, n ≤ reachBytes) : ∃ v ps, cs = [v] ∧ EvIn W v ps ∧ EvGood ps := by
  rcases open_slice Tryz.underlying23 ht with ⟨hc, hx⟩ | ⟨a, len0, cap0, m, n, D, Pl, hc, _, hl, hm, hmm, hx, hall⟩
  · exact ⟨_, [], hc, .inl ⟨rfl, none, 0, rfl⟩, ⟨(fun p hp => by cases hp), (fun p hp => by cases hp), Nat.zero_le _⟩⟩
  · simp only [if_true] at hmm
    subst hmm
    simp only [Prod.mk.injEq] at hx
    obtain ⟨rfl, rfl⟩ := hx
    refine ⟨.slice (some a) len0 m, ?_⟩
    suffices hgoal : ∃ ps, EvIn W (.slice (some a) len0 m) ps ∧ EvGood ps by
      obtain ⟨ps, h1, h2⟩ := hgoal
      exact ⟨ps, hc, h1, h2⟩
    rw [vx6] at hall
    have each : ∀ i, i < len0 → ∃ p : Pr, (W.cell? (a.add (i * 4)) = some (.string (BS p.name)) ∧ W.cell? (a.add (i * 4 + 1)) = some (.int .i64 p.val.kind) ∧ W.cell? (a.add (i * 4 + 2)) = some (.int .i64 p.val.num) ∧ W.cell? (a.add (i * 4 + 3)) = some (.string (BS p.val.str))) ∧ Rng p.val.num ∧
        D i = .agg [.lit (.string p.name), .agg [.lit (.int .i64 p.val.kind), .lit (.int .i64 p.val.num), .lit (.string p.val.str)]] := by
      intro i hi
      obtain ⟨cs', h1, h2⟩ := hall i (by omega)
      obtain ⟨nm, st, k, mm, rfl, hD, hr⟩ := open_prop h2
      simp only [Prod.mk.injEq] at hD
      obtain ⟨_, _, hcell⟩ := World.cells?_some h1
      have c0 := hcell 0 (by decide)
      have c1 := hcell 1 (by decide)
      have c2 := hcell 2 (by decide)
      have c3 := hcell 3 (by decide)
      rw [add_add] at c0 c1 c2 c3
      exact ⟨⟨nm.data.toList, ⟨k, mm, st.data.toList⟩⟩, ⟨c0, c1, c2, c3⟩, hr, hD.1⟩
    have inh : Inhabited Pr := ⟨⟨[], nV⟩⟩
    obtain ⟨f, hf⟩ := choose_lt each
    have hget : ∀ (k : Nat) (p : Pr), ((List.range len0).map f)[k]? = some p → k < len0 ∧ p = f k := by
      intro k p hk
      rw [List.getElem?_map] at hk
      cases hr : (List.range len0)[k]? with
      | none => rw [hr] at hk; cases hk
      | some j =>
        rw [hr] at hk
        obtain ⟨h1, h2⟩ := List.getElem?_eq_some_iff.1 hr
        rw [List.length_range] at h1
        rw [List.getElem_range] at h2
        subst h2
        exact ⟨h1, by simpa using hk.symm⟩
    have hlen : ((List.range len0).map f).length = len0 := by rw [List.length_map, List.length_range]
    have hmem : ∀ p ∈ (List.range len0).map f, ∃ k, k < len0 ∧ p = f k := by
      intro p hp
      obtain ⟨k, hk⟩ := List.getElem?_of_mem hp
      exact ⟨k, hget k p hk⟩
    have hwt := hw
    rw [DataW.weights, Tryz.underlying23] at hwt
    simp only [List.mem_cons, List.mem_append] at hwt
    refine ⟨(List.range len0).map f, ?_, ⟨?_, ?_, ?_⟩⟩
    · cases len0 with
      | zero => exact .inl ⟨rfl, some a, _, rfl⟩
      | succ l =>
        right
        obtain ⟨b, off, spot⟩ := a
        have hs : spot = none := by
          have := World.cell?_spot (hf 0 (by omega)).1.1
          simpa [Addr.add] using this
        subst hs
        have hadd : ∀ j, (⟨b, off, none⟩ : Addr).add j = ⟨b, off + j, none⟩ := by intro j; simp [Addr.add]
        refine ⟨b, off, _, by rw [hlen], by rw [hlen]; exact hl, ?_, ?_⟩
        · intro k p hk
          obtain ⟨hk1, rfl⟩ := hget k p hk
          obtain ⟨⟨c0, c1, c2, c3⟩, _, _⟩ := hf k hk1
          rw [hadd] at c0 c1 c2 c3
          exact ⟨c0, c1, c2, c3⟩
        · have := (hf 0 (by omega)).1.1
          rw [hadd] at this
          exact block_lt_of_cell this
    · intro p hp
      obtain ⟨k, hk, rfl⟩ := hmem p hp
      have hD := (hf k hk).2.2
      have hin : D k ∈ (List.range len0).map D := List.mem_map.2 ⟨k, List.mem_range.2 hk, rfl⟩
      have h2 := fun n hn => hwt n (.inr (.inl (vm7 hin n hn)))
      rw [hD, jc0] at h2
      have e1 := h2 _ (by simp : (f k).name.length ∈ [(f k).name.length, (f k).val.str.length])
      have e2 := h2 _ (by simp : (f k).val.str.length ∈ [(f k).name.length, (f k).val.str.length])
      unfold reachBytes at e1 e2
      exact ⟨by omega, by omega⟩
    · intro p hp
      obtain ⟨k, hk, rfl⟩ := hmem p hp
      exact (hf k hk).2.1
    · have := hwt _ (.inl rfl)
      rw [bytesProp, List.length_map, List.length_range] at this
      rw [hlen]
      unfold reachBytes at this
      omega
set_option maxRecDepth 100000 in
theorem jv0 {W : World} {base : Nat} {v : Value} {d : DataW H} {pl : List MemPlace} (hval : Value.okWide Tryz.prog W .any base 23 v) (h : DataW.Trod enc Tryz.prog W 0 (fun _ => true) true 23 v d pl)
    (hw : ∀ n ∈ d.weights Tryz.prog 23, n ≤ reachBytes) : ∃ ps, EvIn W v ps ∧ EvGood ps := by
  obtain ⟨fuel, ht⟩ := h
  obtain ⟨a0, len0, cap0, rfl⟩ := okWide_slice Tryz.underlying23 hval
  obtain ⟨v, ps, hv, h1, h2⟩ := va9 ht hw
  simp [Value.cells] at hv
  subst hv
  exact ⟨ps, h1, h2⟩
end
end
section
open Go.ChangeShapes Go.WideShapes Go.RowKit
theorem powNamed : Tryz.prog.globalNamed "internal/strconv.uint64pow10" = some 0 := by kernel_rfl
set_option maxRecDepth 100000 in
theorem max_ok {W : World} (h : W.ShapedOpen Tryz.prog) : 4 < W.heap.size ∧ ∃ m, W.cell? ⟨4, 0, none⟩ = some (.int .i64 m) := by
  obtain ⟨m, hm⟩ := cell_of_shapedOpen_int (g := 4) (zero := #[.int .i64 0]) (t := 3) h (of_decide_eq_true (by kernel_rfl)) (by kernel_rfl) rfl (by kernel_rfl) (by kernel_rfl) Tryz.underlying3
  exact ⟨block_lt_of_cell hm, m, hm⟩
theorem powType : (Tryz.prog.globals[0]?).map (·.type) = some 345 := by kernel_rfl
theorem cellsPow : Tryz.prog.cellsOf 345 = 20 := by kernel_rfl
theorem cellsU64 : Tryz.prog.cellsOf 318 = 1 := by kernel_rfl
theorem powLaid : (Rows.laid_internal_strconv_uint64pow10 : DataW Unit) = Lib.tabData .u64 Lib.pow10Tab := by kernel_rfl
theorem pow_ok {W : World} {l : List (String × DataW Unit)} (hm : ("internal/strconv.uint64pow10", Rows.laid_internal_strconv_uint64pow10) ∈ l) (h : laidMet Tryz.prog l W) : Lib.TabIs Tryz.prog W "internal/strconv.uint64pow10" .u64 Lib.pow10Tab := by
  obtain ⟨g, t, cs, fuel, p, h1, h2, h3, h4⟩ := Lib.laidMet.reads h hm
  obtain rfl : 0 = g := Option.some.inj (powNamed.symm.trans h1)
  obtain rfl : 345 = t := Option.some.inj (powType.symm.trans h2)
  rw [powLaid] at h4
  unfold Lib.TabIs
  rw [h3, ← Lib.cells_of_tab Tryz.underlying345 Tryz.underlying318 cellsU64 cellsPow h4]
end
end Go.Proofs.YtfkcaldjphakpabGreatDoor
