/- What Sums calls. -/
import Derived.Test.YtfkcaldjphakpaaGreatDoorEeA
import Derived.Test.YtfkcaldjphakpaaGreatDoorRtA
namespace Go.Proofs.YtfkcaldjphakpaaGreatDoor
open Go.RowKit

theorem sum_test {a b : Int} (ha : Rng a) (hb : Rng b) : ((decide (a < 0) != decide (b < 0)) || (decide (wrap64 (a + b) < 0) == decide (a < 0))) = fitB (a + b) := by
  unfold Rng at ha hb
  rw [Bool.eq_iff_iff]
  simp [fitB, wrap64]
  omega

set_option maxHeartbeats 400000 in
theorem sum_any (x y : Int) (hx : Rng x) (hy : Rng y) (w : World) :
    Calls Tryz.prog 19 #[.int .i64 x, .int .i64 y] w fun e w' => e = .returned (.tuple #[.int .i64 (wrap64 (x + y)), .bool (fitB (x + y))]) ∧ w' = w := by
  have ht := sum_test hx hy
  obtain ⟨c, hc⟩ : ∃ c, wrap64 (x + y) = c := ⟨_, rfl⟩
  obtain ⟨f, hf⟩ : ∃ f, fitB (x + y) = f := ⟨_, rfl⟩
  rw [hc, hf] at ht ⊢
  have HT := hide ht
  clear ht hf hx hy
  cases h1 : decide (x < 0) <;> cases h2 : decide (y < 0) <;> cases h3 : decide (c < 0)
  all_goals
    rw [h1, h2, h3] at HT
    go_enter Tryz.func19, Tryz.ntmps19
    go_wp2_with fail
    go_ret2
    subst hc
    rw [← unhide HT]
    exact ⟨rfl, rfl⟩

/-- The world that holds the event of Sums. -/
def evented (w : World) (x y : Int) : World := w.alloc (.cells #[.string ⟨#[120]⟩, .int .i64 2, .int .i64 x, .string ⟨#[]⟩, .string ⟨#[121]⟩, .int .i64 2, .int .i64 y, .string ⟨#[]⟩] 28)

theorem evented_at (w : World) (x y : Int) : EvAt (evented w x y) w.heap.size 0 (xy x y) := by
  intro k p hk
  unfold evented
  match k, hk with
  | 0, hk =>
    obtain rfl : (⟨[120], iV x⟩ : Pr) = p := by simpa [xy] using hk
    refine ⟨?_, ?_, ?_, ?_⟩ <;> simp [iV, BS]
  | 1, hk =>
    obtain rfl : (⟨[121], iV y⟩ : Pr) = p := by simpa [xy] using hk
    refine ⟨?_, ?_, ?_, ?_⟩ <;> simp [iV, BS]
  | k + 2, hk => simp [xy] at hk

theorem xy_ok (x y : Int) : evOk (xy x y) = true := by kernel_rfl

theorem xy_short (x y : Int) : Short (xy x y) := by
  intro p hp
  simp [xy] at hp
  rcases hp with rfl | rfl <;> simp [iV]

theorem xy_rng {x y : Int} (hx : Rng x) (hy : Rng y) : EvRng (xy x y) := by
  intro p hp
  simp [xy] at hp
  rcases hp with rfl | rfl
  · exact hx
  · exact hy

theorem xy_sh (x y : Int) : EvSh (xy x y) := by
  intro p hp
  simp [xy] at hp
  rcases hp with rfl | rfl <;> simp [iV, Sh]

/-- is, of a text that is read and of the event of Sums, whatever came since. -/
theorem is_xy (w : World) (hE : ErrOk w) (x y : Int) (hx : Rng x) (hy : Rng y) (s : ByteArray) (hs : s.size ≤ 140737488355328) (t : Ast) (hrd : readR s = .ok t) (hS : BndA t) (hN : NumA t) (want : V) (hv : ofA (xy x y) t = want) (hl : want.str.length ≤ 281474976710656)
    (w1 : World) (hb : Below (w.heap.size + 1) (evented w x y) w1) :
    Calls Tryz.prog 17 #[.string s, .slice (some ⟨w.heap.size, 0, none⟩) 2 2, vV want] w1 fun e w' => e = .returned (.bool true) ∧ Below w1.heap.size w1 w' := by
  have hz : (evented w x y).heap.size = w.heap.size + 1 := by simp [evented]
  have hz1 := hb.size
  have hE0 : ErrOk (evented w x y) := hE.alloc _
  refine (is_any s (.slice (some ⟨w.heap.size, 0, none⟩) 2 2) want want ⟨_, _, _, rfl⟩ w1 (fun w2 hb2 hlt => ?_)).mono ?_
  · have hb3 : Below (w.heap.size + 1) (evented w x y) w2 := hb.trans (hb2.mono (by omega))
    have := eval_ok s hs t hrd (xy x y) w.heap.size 0 2 w2 (hE0.below hb3 (by omega)) (by simp [xy]) (by simp [xy]) (xy_short x y) ((evented_at w x y).belowB hb3 (by omega)) (by have := hb2.size; omega) (xy_ok x y) (fun lo => of_every lo (xy x y) _ (xy_rng hx hy) (xy_sh x y) t hS hN) (by rw [hv]; exact hl)
    rw [hv] at this
    exact this
  · rintro e w' ⟨rfl, h⟩
    exact ⟨by simp, h⟩

end Go.Proofs.YtfkcaldjphakpaaGreatDoor
