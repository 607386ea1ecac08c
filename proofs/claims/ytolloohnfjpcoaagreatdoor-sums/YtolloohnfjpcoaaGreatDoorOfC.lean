/- join: what needs nothing but Join. Of, of terms without signs, BETWEEN, IN and LIKE. -/
import Derived.Test.YtolloohnfjpcoaaGreatDoorOfB
import Derived.Deep.RegionWith
import Derived.Test.YtolloohnfjpcoaaGreatDoorJnB
namespace Go.Proofs.YtolloohnfjpcoaaGreatDoor
open Go.RowKit

section
set_option maxHeartbeats 1000000 in
set_option maxRecDepth 100000 in
theorem joinN_else (lo : Nat) (t : Ast) (h20 : ¬ (payA t).op = 20) (h21 : ¬ (payA t).op = 21) (h22 : ¬ (payA t).op = 22) (hJ : ∀ x y, Rng x.num → Rng y.num → JoinOk (payA t).op x y (joinV (payA t).op x y)) : JoinNOk lo t := by
  intro w b x y z hx hy _ h
  have hr : joinN (payA t) x y z = joinV (payA t).op x y := by rw [joinN, if_neg h20, if_neg h21, if_neg h22]
  rw [hr]
  have CON := hide (hJ x y hx hy)
  obtain ⟨b', sv, hb, hnode, _⟩ := h.parts
  obtain rfl : b = b' := by simpa using hb
  have c0 := hnode.c0
  have hbw := hnode.within
  have m1 : b < w.heap.size + 1 := by omega
  have m2 : b < w.heap.size + 1 + 1 := by omega
  have m3 : b < w.heap.size + 1 + 1 + 1 := by omega
  obtain ⟨op, hop⟩ : ∃ op, (payA t).op = op := ⟨_, rfl⟩
  rw [hop] at c0 h20 h21 h22 CON ⊢
  have e20 : (op == 20) = false := beq_eq_false_iff_ne.2 h20
  have e21 : (op == 21) = false := beq_eq_false_iff_ne.2 h21
  have e22 : (op == 22) = false := beq_eq_false_iff_ne.2 h22
  obtain ⟨r, hr'⟩ : ∃ r, joinV op x y = r := ⟨_, rfl⟩
  rw [hr'] at CON ⊢
  clear hr hr' hnode hb h hx hy h20 h21 h22 hop hJ
  conv => arg 3; simp only [vV]
  go_enter Tryz.func62, Tryz.ntmps62
  go_wp2_with fail
  go_region_with (go_at_call 107; refine (unhide CON _).mono ?_; rintro e w1 ⟨rfl, hb1'⟩; have hb1 : Below w.heap.size w w1 := below_any (((below3 _ _ _ _).alloc (by simp; omega) _).drew) hb1'; obtain ⟨hc1, hf1⟩ := bcell hb1'; have hz1 : w.heap.size + 3 < w1.heap.size := (by have := hb1'.size; simp at this; omega); simp only [vV])
  all_goals go_wp2_with fail
  all_goals refine bodyPost_ret (by simp [results, Tryz.results62, go_sem, hc1] <;> rfl) rfl ⟨rfl, ?_⟩
  all_goals exact ((hb1.setCell (by simp; omega) _).setCell (by simp; omega) _).setCell (by simp; omega) _
end

section
def pOk (op : Int) : Prop := ¬ op = 14 ∧ ¬ op = 15 ∧ ¬ op = 20 ∧ ¬ op = 21 ∧ ¬ op = 22
def SimpA : Ast → Prop
  | .leaf p => pOk p.op
  | .un p x => pOk p.op ∧ SimpA x
  | .bin p x y => pOk p.op ∧ SimpA x ∧ SimpA y
  | .tri p x y z => pOk p.op ∧ SimpA x ∧ SimpA y ∧ SimpA z

theorem of_one (lo : Nat) (ps : List Pr) (ev : Value) (t : Ast) (hp : pOk (payA t).op) (hsub : ∀ x ∈ sidesA t, OfOk lo ps ev x) (hrng : ∀ x ∈ sidesA t, Rng (ofA ps x).num) : OfOk lo ps ev t := by
  by_cases h0 : (payA t).op = 0
  · exact of_0 lo ps ev t h0
  by_cases h1 : (payA t).op = 1
  · exact of_1 lo ps ev t h1
  by_cases h2 : (payA t).op = 2
  · exact of_2 lo ps ev t h2
  by_cases h3 : (payA t).op = 3
  · exact of_3 lo ps ev t h3
  by_cases h4 : (payA t).op = 4
  · exact of_4 lo ps ev t h4
  obtain ⟨h14, h15, h20, h21, h22⟩ := hp
  exact of_step lo ps ev t hsub hrng (joinN_else lo t h20 h21 h22 (fun x y hx hy => join_all _ h14 h15 x y hx hy)) h0 h1 h2 h3 h4

theorem of_all (lo : Nat) (ps : List Pr) (ev : Value) (hev : EvRng ps) : ∀ t, SimpA t → NumA t → OfOk lo ps ev t := by
  intro t
  induction t with
  | leaf p => intro hs hn; exact of_one lo ps ev _ hs (fun x hx => by simp [sidesA] at hx) (fun x hx => by simp [sidesA] at hx)
  | un p x ih =>
    intro hs hn
    refine of_one lo ps ev _ hs.1 (fun u hu => ?_) (fun u hu => ?_)
    · simp [sidesA] at hu; subst hu; exact ih hs.2 hn.2
    · simp [sidesA] at hu; subst hu; exact rng_ofA hev _ hn.2
  | bin p x y ihx ihy =>
    intro hs hn
    refine of_one lo ps ev _ hs.1 (fun u hu => ?_) (fun u hu => ?_)
    · simp [sidesA] at hu
      rcases hu with rfl | rfl
      · exact ihx hs.2.1 hn.2.1
      · exact ihy hs.2.2 hn.2.2
    · simp [sidesA] at hu
      rcases hu with rfl | rfl
      · exact rng_ofA hev _ hn.2.1
      · exact rng_ofA hev _ hn.2.2
  | tri p x y z ihx ihy ihz =>
    intro hs hn
    refine of_one lo ps ev _ hs.1 (fun u hu => ?_) (fun u hu => ?_)
    · simp [sidesA] at hu
      rcases hu with rfl | rfl | rfl
      · exact ihx hs.2.1 hn.2.1
      · exact ihy hs.2.2.1 hn.2.2.1
      · exact ihz hs.2.2.2 hn.2.2.2
    · simp [sidesA] at hu
      rcases hu with rfl | rfl | rfl
      · exact rng_ofA hev _ hn.2.1
      · exact rng_ofA hev _ hn.2.2.1
      · exact rng_ofA hev _ hn.2.2.2
end

end Go.Proofs.YtolloohnfjpcoaaGreatDoor
