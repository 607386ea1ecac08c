/- Eval of any text and any list of properties. -/
import Derived.Test.YtfkcaldjphakpaaGreatDoorEeA
import Derived.Test.YtfkcaldjphakpaaGreatDoorEvB
import Derived.Test.YtfkcaldjphakpaaGreatDoorOfC
import Derived.Test.YtfkcaldjphakpaaGreatDoorLoA
namespace Go.Proofs.YtfkcaldjphakpaaGreatDoor
open Go.RowKit

/-- A list of properties as an argument, an event or not. -/
def EvIn (w : World) (ev : Value) (ps : List Pr) : Prop :=
  (ps = [] ∧ ∃ a cap, ev = .slice a 0 cap) ∨ ∃ b off cap, ev = .slice (some ⟨b, off, none⟩) ps.length cap ∧ ps.length ≤ cap ∧ EvAt w b off ps ∧ b < w.heap.size

theorem EvIn.below {w w' : World} {ev : Value} {ps : List Pr} (h : EvIn w ev ps) (hb : Below w.heap.size w w') : EvIn w' ev ps := by
  rcases h with h | ⟨b, off, cap, rfl, hc, he, hlt⟩
  · exact .inl h
  · exact .inr ⟨b, off, cap, rfl, hc, he.below hb hlt, Nat.lt_of_lt_of_le hlt hb.size⟩
theorem EvIn.slice {w : World} {ev : Value} {ps : List Pr} (h : EvIn w ev ps) : ∃ a n c, ev = .slice a n c := by
  rcases h with ⟨_, a, cap, rfl⟩ | ⟨b, off, cap, rfl, _⟩
  · exact ⟨_, _, _, rfl⟩
  · exact ⟨_, _, _, rfl⟩
theorem EvIn.arg {w : World} {ev : Value} {ps : List Pr} (h : EvIn w ev ps) (h8 : ps.length ≤ 8) : EvArg w ev ps := by
  refine ⟨h8, ?_⟩
  rcases h with h | ⟨b, off, cap, rfl, hc, he, hlt⟩
  · exact .inl h
  · exact .inr ⟨b, off, cap, rfl, he, hlt⟩

/-- What any machine says of the sizes and numbers in it. -/
structure EvGood (ps : List Pr) : Prop where
  short : Short ps
  rng : EvRng ps
  len : ps.length ≤ 140737488355328

theorem valid_in {w : World} {ev : Value} {ps : List Pr} (h : EvIn w ev ps) (hg : EvGood ps) :
    Calls Tryz.prog 37 #[ev] w fun e w' => e = .returned (.bool (evOk ps)) ∧ Below w.heap.size w w' := by
  rcases h with ⟨rfl, a, cap, rfl⟩ | ⟨b, off, cap, rfl, hc, he, hlt⟩
  · exact valid_empty a cap w
  · exact evValid_any b off cap ps w hc hg.len hg.short he hlt

theorem evOk_8 {ps : List Pr} (h : evOk ps = true) : ps.length ≤ 8 := by
  apply Decidable.byContradiction
  intro hn
  rw [evOk_long hn] at h
  cases h
theorem evOk_at {ps : List Pr} (h : evOk ps = true) {p : Pr} (hp : p ∈ ps) : nameOk p.name = true ∧ valOk p.val = true := by
  obtain ⟨k, hk⟩ := List.getElem?_of_mem hp
  unfold evOk at h
  rw [Bool.and_eq_true, List.all_eq_true] at h
  obtain ⟨hlt, _⟩ := List.getElem?_eq_some_iff.1 hk
  have := h.2 k (List.mem_range.2 hlt)
  unfold okAt at this
  rw [hk] at this
  simp only [Bool.and_eq_true] at this
  exact this.1
theorem valOk_str {v : V} (h : valOk v = true) : v.str.length ≤ 20 := by
  apply Decidable.byContradiction
  intro hn
  have he : v.str.isEmpty = false := by cases hs : v.str with
    | nil => rw [hs] at hn; simp at hn
    | cons c t => rfl
  have hd : decide (v.str.length ≤ 20) = false := decide_eq_false hn
  simp only [valOk, he, hd, Bool.and_false, Bool.false_eq_true, ite_self] at h
theorem evSh_of {ps : List Pr} (h : evOk ps = true) : EvSh ps := fun p hp => Nat.le_trans (valOk_str (evOk_at h hp).2) (by decide)

theorem read_good {s : ByteArray} {t : Ast} (h : readR s = .ok t) : NumA t ∧ BndA t := by
  unfold readR at h
  by_cases hs : s.size ≤ 200
  · rw [if_pos hs] at h
    cases he : (lvl s 12).E (stepSt s st0) with
    | err en pl => rw [he] at h; cases h
    | ok t1 st =>
      rw [he] at h
      change endR t1 st = _ at h
      have : t1 = t := by
        unfold endR at h
        split at h
        · split at h
          · injection h
          · cases h
        · cases h
      subst this
      exact ⟨((lvl_num s 12).E _ _ _ (stepSt_tk s st0) he).1, ((lvl_bnd s hs 12).E _ _ _ (stepSt_ln hs st0) he).1⟩
  · rw [if_neg hs] at h; cases h

set_option maxHeartbeats 1000000 in
set_option maxRecDepth 100000 in
theorem eval_in_ok (s : ByteArray) (hs : s.size ≤ 140737488355328) (t : Ast) (hrd : readR s = .ok t) (ps : List Pr) (ev : Value) (w : World) (hE : ErrOk w)
    (hev : EvIn w ev ps) (hg : EvGood ps) (hok : evOk ps = true) :
    Calls Tryz.prog 23 #[.string s, ev] w fun e w' => e = .returned (.tuple #[vV (ofA ps t), .int .i64 0, .int .i64 0]) ∧ Below w.heap.size w w' := by
  have hof : ∀ lo, OfOk lo ps ev t := fun lo => of_every lo ps ev hg.rng (evSh_of hok) t (read_good hrd).2 (read_good hrd).1
  have hlen : (ofA ps t).str.length ≤ 281474976710656 := Nat.le_trans (sh_ofA (evSh_of hok) t (read_good hrd).2) (by decide)
  have RD := hide (read_any s (w.alloc (.cells #[.int .i64 0, .int .i64 0, .string ⟨#[]⟩] 26)) (hE.alloc _) hs)
  rw [hrd] at RD
  have hbl := (Below.refl w.heap.size w).alloc (Nat.le_refl _) (.cells #[.int .i64 0, .int .i64 0, .string ⟨#[]⟩] 26)
  have EVA := hide (hev.below hbl)
  obtain ⟨a, n, c, rfl⟩ := hev.slice
  have HV := hide (fun w1 (h : EvIn w1 (.slice a n c) ps) => valid_in h hg)
  rw [hok] at HV
  have HOF := hide hof
  have HB8 := hide (evOk_8 hok)
  obtain ⟨r, hr⟩ : ∃ r, ofA ps t = r := ⟨_, rfl⟩
  rw [hr] at hlen ⊢
  have HR := hide hr
  have hzs := BS_size r.str
  have hcl : (BS r.str).size ≤ 281474976710656 := by omega
  clear hrd hE hg hev hok hof hr hlen hzs
  go_enter Tryz.func23, Tryz.ntmps23
  go_wp2_with (first | (go_at_call 36; refine (unhide RD).mono ?_; rintro e w1 ⟨hb1, v1, rfl, hn1⟩; obtain ⟨vb, rfl⟩ := hn1.ptr; have hz1 : w.heap.size < w1.heap.size := (by have := hb1.size; simp at this; omega); have EV1 := hide ((unhide EVA).below hb1); have g0 : w1.cell? ⟨w.heap.size, 0, none⟩ = some (.int .i64 0) := ((bcell hb1).1 _ 0 (by simp)).trans (by simp); have g1 : w1.cell? ⟨w.heap.size, 1, none⟩ = some (.int .i64 0) := ((bcell hb1).1 _ 1 (by simp)).trans (by simp); have g2 : w1.cell? ⟨w.heap.size, 2, none⟩ = some (.string ⟨#[]⟩) := ((bcell hb1).1 _ 2 (by simp)).trans (by simp); have z0 : ∀ j, w1.frozen? ⟨w.heap.size, j, none⟩ = false := (fun j => ((bcell hb1).2 _ j (by simp)).trans (by simp)); have hB1 := hide (below_any hbl hb1); have hN1 := hide hn1; clear hb1 hn1) | (go_at_call 37; refine (unhide HV _ (unhide EV1)).mono ?_; rintro e w2 ⟨rfl, hb2⟩; have hz2 : w.heap.size < w2.heap.size := (by have := hb2.size; omega); have EV2 := hide ((unhide EV1).below hb2); have k0 : w2.cell? ⟨w.heap.size, 0, none⟩ = some (.int .i64 0) := ((bcell hb2).1 _ 0 hz1).trans g0; have k1 : w2.cell? ⟨w.heap.size, 1, none⟩ = some (.int .i64 0) := ((bcell hb2).1 _ 1 hz1).trans g1; have k2 : w2.cell? ⟨w.heap.size, 2, none⟩ = some (.string ⟨#[]⟩) := ((bcell hb2).1 _ 2 hz1).trans g2; have z2 : ∀ j, w2.frozen? ⟨w.heap.size, j, none⟩ = false := (fun j => ((bcell hb2).2 _ j hz1).trans (z0 j)); have hN2 := hide ((unhide hN1).kept (Kept.of_below hb2)); have hB2 := hide (below_any (unhide hB1) hb2); clear hb2 g0 g1 g2 z0) | (go_at_call 38; refine (unhide HOF _ _ _ (unhide hN2) ((unhide EV2).arg (unhide HB8))).mono ?_; rw [unhide HR]; rintro e w3 ⟨rfl, hb3⟩; have hz3 : w.heap.size < w3.heap.size := (by have := hb3.size; omega); have m0 : w3.cell? ⟨w.heap.size, 0, none⟩ = some (.int .i64 0) := ((bcell hb3).1 _ 0 hz2).trans k0; have m1 : w3.cell? ⟨w.heap.size, 1, none⟩ = some (.int .i64 0) := ((bcell hb3).1 _ 1 hz2).trans k1; have m2 : w3.cell? ⟨w.heap.size, 2, none⟩ = some (.string ⟨#[]⟩) := ((bcell hb3).1 _ 2 hz2).trans k2; have z3 : ∀ j, w3.frozen? ⟨w.heap.size, j, none⟩ = false := (fun j => ((bcell hb3).2 _ j hz2).trans (z2 j)); have hB3 := hide (below_any (unhide hB2) hb3); clear hb3 k0 k1 k2 z2; simp only [vV]) | (go_at_call 39; refine (clone_any (BS r.str) _ hcl).mono ?_; rintro e w4 ⟨rfl, hb4⟩; have hz4 : w3.heap.size < w4.heap.size := (by have := hb4.size; simp at this; omega); have n0 : w4.cell? ⟨w.heap.size, 0, none⟩ = some (.int .i64 0) := ((bcell hb4).1 _ 0 (by simp; omega)).trans (by rw [World.cell?_alloc_past _ _ _ hz3]; exact m0); have n1 : w4.cell? ⟨w.heap.size, 1, none⟩ = some (.int .i64 0) := ((bcell hb4).1 _ 1 (by simp; omega)).trans (by rw [World.cell?_alloc_past _ _ _ hz3]; exact m1); have n2 : w4.cell? ⟨w.heap.size, 2, none⟩ = some (.string ⟨#[]⟩) := ((bcell hb4).1 _ 2 (by simp; omega)).trans (by rw [World.cell?_alloc_past _ _ _ hz3]; exact m2); have z4 : ∀ j, w4.frozen? ⟨w.heap.size, j, none⟩ = false := (fun j => ((bcell hb4).2 _ j (by simp; omega)).trans (by rw [World.frozen?_alloc_past _ _ _ hz3]; exact z3 j)); have a0 : w4.cell? ⟨w3.heap.size, 0, none⟩ = some (.int .i64 r.kind) := ((bcell hb4).1 _ 0 (by simp)).trans (by simp); have a1 : w4.cell? ⟨w3.heap.size, 1, none⟩ = some (.int .i64 r.num) := ((bcell hb4).1 _ 1 (by simp)).trans (by simp); have a2 : w4.cell? ⟨w3.heap.size, 2, none⟩ = some (.string (BS r.str)) := ((bcell hb4).1 _ 2 (by simp)).trans (by simp); have z5 : ∀ j, w4.frozen? ⟨w3.heap.size, j, none⟩ = false := (fun j => ((bcell hb4).2 _ j (by simp)).trans (by simp)); have hne : ¬ w3.heap.size = w.heap.size := (by omega); have hB4 := hide (below_any (below_alloc (unhide hB3) _) hb4); clear hb4 m0 m1 m2 z3))
  refine bodyPost_ret (by simp [results, Tryz.results23, go_sem, n0, n1, n2] <;> rfl) rfl ⟨rfl, ?_⟩
  exact ((((unhide hB4).setCell (by simp; omega) _).setCell (by simp) _).setCell (by simp) _).setCell (by simp) _

set_option maxHeartbeats 1000000 in
set_option maxRecDepth 100000 in
theorem eval_in_bad (s : ByteArray) (hs : s.size ≤ 140737488355328) (t : Ast) (hrd : readR s = .ok t) (ps : List Pr) (ev : Value) (w : World) (hE : ErrOk w)
    (hev : EvIn w ev ps) (hg : EvGood ps) (hok : evOk ps = false) :
    Calls Tryz.prog 23 #[.string s, ev] w fun e w' => e = .returned (.tuple #[vV nV, .int .i64 7, .int .i64 0]) ∧ Below w.heap.size w w' := by
  have RD := hide (read_any s (w.alloc (.cells #[.int .i64 0, .int .i64 0, .string ⟨#[]⟩] 26)) (hE.alloc _) hs)
  rw [hrd] at RD
  have hbl := (Below.refl w.heap.size w).alloc (Nat.le_refl _) (.cells #[.int .i64 0, .int .i64 0, .string ⟨#[]⟩] 26)
  have EVA := hide (hev.below hbl)
  obtain ⟨a, n, c, rfl⟩ := hev.slice
  have HV := hide (fun w1 (h : EvIn w1 (.slice a n c) ps) => valid_in h hg)
  rw [hok] at HV
  clear hrd hE hg hev hok
  go_enter Tryz.func23, Tryz.ntmps23
  go_wp2_with (first | (go_at_call 36; refine (unhide RD).mono ?_; rintro e w1 ⟨hb1, v1, rfl, hn1⟩; obtain ⟨vb, rfl⟩ := hn1.ptr; have hz1 : w.heap.size < w1.heap.size := (by have := hb1.size; simp at this; omega); have EV1 := hide ((unhide EVA).below hb1); have g0 : w1.cell? ⟨w.heap.size, 0, none⟩ = some (.int .i64 0) := ((bcell hb1).1 _ 0 (by simp)).trans (by simp); have g1 : w1.cell? ⟨w.heap.size, 1, none⟩ = some (.int .i64 0) := ((bcell hb1).1 _ 1 (by simp)).trans (by simp); have g2 : w1.cell? ⟨w.heap.size, 2, none⟩ = some (.string ⟨#[]⟩) := ((bcell hb1).1 _ 2 (by simp)).trans (by simp); have z0 : ∀ j, w1.frozen? ⟨w.heap.size, j, none⟩ = false := (fun j => ((bcell hb1).2 _ j (by simp)).trans (by simp)); have hB1 := hide (below_any hbl hb1); clear hb1 hn1) | (go_at_call 37; refine (unhide HV _ (unhide EV1)).mono ?_; rintro e w2 ⟨rfl, hb2⟩; have hz2 : w.heap.size < w2.heap.size := (by have := hb2.size; omega); have k0 : w2.cell? ⟨w.heap.size, 0, none⟩ = some (.int .i64 0) := ((bcell hb2).1 _ 0 hz1).trans g0; have k1 : w2.cell? ⟨w.heap.size, 1, none⟩ = some (.int .i64 0) := ((bcell hb2).1 _ 1 hz1).trans g1; have k2 : w2.cell? ⟨w.heap.size, 2, none⟩ = some (.string ⟨#[]⟩) := ((bcell hb2).1 _ 2 hz1).trans g2; have z2 : ∀ j, w2.frozen? ⟨w.heap.size, j, none⟩ = false := (fun j => ((bcell hb2).2 _ j hz1).trans (z0 j)); have hB2 := hide (below_any (unhide hB1) hb2); clear hb2 g0 g1 g2 z0))
  refine bodyPost_ret (by simp [results, Tryz.results23, go_sem, k0, k1, k2] <;> rfl) rfl ⟨rfl, ?_⟩
  exact (((unhide hB2).setCell (by simp) _).setCell (by simp) _).setCell (by simp) _

set_option maxHeartbeats 1000000 in
set_option maxRecDepth 100000 in
theorem eval_in_err (s : ByteArray) (hs : s.size ≤ 140737488355328) (en pl : Int) (hrd : readR s = .err en pl) (ev : Value) (w : World) (hE : ErrOk w) (hev : ∃ a n c, ev = .slice a n c) :
    Calls Tryz.prog 23 #[.string s, ev] w fun e w' => e = .returned (.tuple #[vV nV, .int .i64 en, .int .i64 pl]) ∧ Below w.heap.size w w' := by
  have RD := hide (read_any s (w.alloc (.cells #[.int .i64 0, .int .i64 0, .string ⟨#[]⟩] 26)) (hE.alloc _) hs)
  rw [hrd] at RD
  have hbl := (Below.refl w.heap.size w).alloc (Nat.le_refl _) (.cells #[.int .i64 0, .int .i64 0, .string ⟨#[]⟩] 26)
  obtain ⟨a, n, c, rfl⟩ := hev
  have hen : (en != 0) = true := by rcases read_err_pos hrd with h | h | h | h <;> rw [h] <;> rfl
  have hen' : (en == 0) = false := by rcases read_err_pos hrd with h | h | h | h <;> rw [h] <;> rfl
  clear hrd hE
  go_enter Tryz.func23, Tryz.ntmps23
  go_wp2_with (first | (go_at_call 36; refine (unhide RD).mono ?_; rintro e w1 ⟨hb1, rfl⟩; have hz1 : w.heap.size < w1.heap.size := (by have := hb1.size; simp at this; omega); have g0 : w1.cell? ⟨w.heap.size, 0, none⟩ = some (.int .i64 0) := ((bcell hb1).1 _ 0 (by simp)).trans (by simp); have g1 : w1.cell? ⟨w.heap.size, 1, none⟩ = some (.int .i64 0) := ((bcell hb1).1 _ 1 (by simp)).trans (by simp); have g2 : w1.cell? ⟨w.heap.size, 2, none⟩ = some (.string ⟨#[]⟩) := ((bcell hb1).1 _ 2 (by simp)).trans (by simp); have z0 : ∀ j, w1.frozen? ⟨w.heap.size, j, none⟩ = false := (fun j => ((bcell hb1).2 _ j (by simp)).trans (by simp)); have hB1 := hide (below_any hbl hb1); clear hb1))
  refine bodyPost_ret (by simp [results, Tryz.results23, go_sem, g0, g1, g2] <;> rfl) rfl ⟨rfl, ?_⟩
  exact (((unhide hB1).setCell (by simp) _).setCell (by simp) _).setCell (by simp) _

/-- What Eval says. -/
structure Ans where
  val : V
  errno : Int
  place : Int
def evalR (s : ByteArray) (ps : List Pr) : Ans := match readR s with
  | .err en pl => ⟨nV, en, pl⟩
  | .ok t => if evOk ps then ⟨ofA ps t, 0, 0⟩ else ⟨nV, 7, 0⟩

theorem eval_any (s : ByteArray) (hs : s.size ≤ 140737488355328) (ps : List Pr) (ev : Value) (w : World) (hE : ErrOk w) (hev : EvIn w ev ps) (hg : EvGood ps) :
    Calls Tryz.prog 23 #[.string s, ev] w fun e w' => e = .returned (.tuple #[vV (evalR s ps).val, .int .i64 (evalR s ps).errno, .int .i64 (evalR s ps).place]) ∧ Below w.heap.size w w' := by
  unfold evalR
  cases hrd : readR s with
  | err en pl => exact eval_in_err s hs en pl hrd ev w hE hev.slice
  | ok t =>
    cases hok : evOk ps with
    | true => exact eval_in_ok s hs t hrd ps ev w hE hev hg hok
    | false => exact eval_in_bad s hs t hrd ps ev w hE hev hg hok

end Go.Proofs.YtfkcaldjphakpaaGreatDoor
