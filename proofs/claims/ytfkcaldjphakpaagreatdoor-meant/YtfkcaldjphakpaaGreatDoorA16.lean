/- join: IN and LIKE. Of, of every term that is read. -/
import Derived.Test.YtfkcaldjphakpaaGreatDoorQLk1
import Derived.Test.YtfkcaldjphakpaaGreatDoorQJw1
import Derived.Test.YtfkcaldjphakpaaGreatDoorA14
import Derived.Test.YtfkcaldjphakpaaGreatDoorA15
import Derived.Test.YtfkcaldjphakpaaGreatDoorA11
namespace Go.Proofs.YtfkcaldjphakpaaGreatDoor
open Go.RowKit

section
set_option maxHeartbeats 1000000 in
set_option maxRecDepth 100000 in
theorem joinN_21 (lo : Nat) (t : Ast) (h21 : (payA t).op = 21) (hB : (payA t).texts.length ≤ 1000) : JoinNOk lo t := by
  intro w b x y z _ _ _ _ h
  have hr : joinN (payA t) x y z = amongV x (payA t).texts := by rw [joinN, if_neg (by rw [h21]; decide), if_pos h21]
  rw [hr]
  have AMO := hide (fun w1 (h1 : IsNode lo w1 (.pointer (some ⟨b, 0, none⟩)) t) => among_any lo t hB w1 b x h1)
  have HND := hide h
  obtain ⟨b', sv, hb, hnode, _⟩ := h.parts
  obtain rfl : b = b' := by simpa using hb
  have c0 := hnode.c0
  have c4 := hnode.c4
  have c5 := hnode.c5
  have hbw := hnode.within
  have m1 : b < w.heap.size + 1 := by omega
  have m2 : b < w.heap.size + 1 + 1 := by omega
  have m3 : b < w.heap.size + 1 + 1 + 1 := by omega
  have d0 : ¬ w.heap.size + 1 + 1 + 1 = w.heap.size := by omega
  rw [h21] at c0
  have JA0 := hide (join_start w x y z)
  obtain ⟨r, hr'⟩ : ∃ r, amongV x (payA t).texts = r := ⟨_, rfl⟩
  rw [hr'] at AMO ⊢
  clear hr hr' hnode hb h h21 c4 c5
  conv => arg 3; simp only [vV]
  go_enter Tryz.func65, Tryz.ntmps65
  go_wp2_with (go_at_call 108; refine (unhide AMO _ ((unhide HND).kept (Kept.of_below ((below3 _ _ _ _).alloc (by simp; omega) _)))).mono ?_; rintro e w1 ⟨rfl, hb1⟩; have JA1 := hide ((unhide JA0).next hb1); obtain ⟨x0_1, x1_1, x2_1, y0_1, y1_1, y2_1, z0_1, z1_1, z2_1, r0_1, r1_1, r2_1, fz_1, lt_1, bel_1⟩ := unhide JA1; clear hb1; simp only [vV])
  refine bodyPost_ret (by simp [results, Tryz.results65, go_sem, r0_1, r1_1, r2_1] <;> rfl) rfl ⟨rfl, ?_⟩
  exact ((bel_1.setCell (by simp; omega) _).setCell (by simp; omega) _).setCell (by simp; omega) _

set_option maxHeartbeats 1000000 in
set_option maxRecDepth 100000 in
theorem joinN_22 (lo : Nat) (t : Ast) (h22 : (payA t).op = 22) (hB : (payA t).str.length ≤ 200) : JoinNOk lo t := by
  intro w b x y z _ _ _ hx h
  have hr : joinN (payA t) x y z = likeV x (payA t).str (payA t).esc := by rw [joinN, if_neg (by rw [h22]; decide), if_neg (by rw [h22]; decide), if_pos h22]
  rw [hr]
  have LIK := hide (fun w1 => vLike_any x (BS (payA t).str) (BS (payA t).esc) (by rw [BS_size]; exact hB) hx w1)
  simp only [BS_data] at LIK
  obtain ⟨b', sv, hb, hnode, _⟩ := h.parts
  obtain rfl : b = b' := by simpa using hb
  have c0 := hnode.c0
  have c4 := hnode.c4
  have c5 := hnode.c5
  have hbw := hnode.within
  have m1 : b < w.heap.size + 1 := by omega
  have m2 : b < w.heap.size + 1 + 1 := by omega
  have m3 : b < w.heap.size + 1 + 1 + 1 := by omega
  have d0 : ¬ w.heap.size + 1 + 1 + 1 = w.heap.size := by omega
  rw [h22] at c0
  have JA0 := hide (join_start w x y z).drew
  obtain ⟨r, hr'⟩ : ∃ r, likeV x (payA t).str (payA t).esc = r := ⟨_, rfl⟩
  rw [hr'] at LIK ⊢
  clear hr hr' hnode hb h h22
  conv => arg 3; simp only [vV]
  go_enter Tryz.func65, Tryz.ntmps65
  go_wp2_with fail
  go_region_with (go_at_call 109; refine (unhide LIK _).mono ?_; rintro e w1 ⟨rfl, hb1⟩; have JA1 := hide ((unhide JA0).next hb1); obtain ⟨x0_1, x1_1, x2_1, y0_1, y1_1, y2_1, z0_1, z1_1, z2_1, r0_1, r1_1, r2_1, fz_1, lt_1, bel_1⟩ := unhide JA1; clear hb1; simp only [vV])
  all_goals go_wp2_with fail
  all_goals
    refine bodyPost_ret (by simp [results, Tryz.results65, go_sem, r0_1, r1_1, r2_1] <;> rfl) rfl ⟨rfl, ?_⟩
    exact ((bel_1.setCell (by simp; omega) _).setCell (by simp; omega) _).setCell (by simp; omega) _
end

section
theorem join_every (op : Int) (x y : V) (hx : Rng x.num) (hy : Rng y.num) : JoinOk op x y (joinV op x y) := by
  by_cases h14 : op = 14
  · subst h14; exact join_14 x y hx
  by_cases h15 : op = 15
  · subst h15; exact join_15 x y hx
  exact join_all op h14 h15 x y hx hy

/-- Short texts. -/
def Sh (v : V) : Prop := v.str.length ≤ 1000
theorem sh_b (b : Bool) : Sh (bV b) := Nat.zero_le _
theorem sh_n : Sh nV := Nat.zero_le _
theorem sh_i (n : Int) : Sh (iV n) := Nat.zero_le _
theorem sh_ite {c : Prop} [Decidable c] {a b : V} (ha : Sh a) (hb : Sh b) : Sh (if c then a else b) := by
  split
  · exact ha
  · exact hb
theorem sh_join (op : Int) (x y : V) : Sh (joinV op x y) := by
  unfold joinV
  refine sh_ite (sh_ite (sh_b _) sh_n) (sh_ite (sh_ite (sh_b _) (sh_ite (sh_b _) sh_n)) (sh_ite (sh_ite (sh_b _) (sh_ite (sh_b _) sh_n)) (sh_ite (sh_ite sh_n (sh_b _)) (sh_ite (sh_ite (sh_b _) sh_n) (sh_ite (sh_ite (sh_b _) sh_n) (sh_ite (sh_ite (sh_b _) sh_n) (sh_ite (sh_ite (sh_b _) sh_n) (sh_ite (sh_ite (sh_b _) sh_n) (sh_ite (sh_ite (sh_i _) sh_n) (sh_ite (sh_ite (sh_i _) sh_n) (sh_ite (sh_ite (sh_i _) sh_n) (sh_ite (sh_ite (sh_i _) sh_n) (sh_ite (sh_ite (sh_i _) sh_n) (sh_ite (sh_ite (sh_i _) sh_n) (sh_b _)))))))))))))))
theorem sh_or (x y : V) : Sh (orV x y) := sh_ite (sh_b _) (sh_ite (sh_b _) sh_n)
theorem sh_among (x : V) (ts : List (List UInt8)) : ∀ f : V, Sh f → Sh (ts.foldl (fun f t => orV f (eqV x (tV t))) f) := by
  induction ts with
  | nil => intro f h; exact h
  | cons t r ih => intro f _; exact ih _ (sh_or _ _)
theorem sh_joinN (p : Pay) (x y z : V) : Sh (joinN p x y z) := by
  unfold joinN
  refine sh_ite (sh_ite (sh_b _) (sh_ite (sh_b _) sh_n)) (sh_ite (sh_among x _ _ (sh_b _)) (sh_ite (sh_ite (sh_b _) sh_n) (sh_join _ _ _)))

def EvSh (ps : List Pr) : Prop := ∀ p ∈ ps, Sh p.val

theorem sh_of {ps : List Pr} (h : EvSh ps) {p : Pay} (hp : p.str.length ≤ 200) (s : List V) : Sh (ofN ps p s) := by
  unfold ofN
  refine sh_ite ?_ (sh_ite (sh_i _) (sh_ite ?_ (sh_ite (sh_b _) (sh_ite (sh_b _) (sh_joinN _ _ _ _)))))
  · unfold findV
    split
    · rename_i q hq; exact h q (List.mem_of_find?_eq_some hq)
    · exact sh_n
  · show p.str.length ≤ 1000
    omega

theorem sh_ofA {ps : List Pr} (h : EvSh ps) : ∀ t, BndA t → Sh (ofA ps t) := by
  intro t
  cases t with
  | leaf p => intro hn; exact sh_of h hn.1 _
  | un p x => intro hn; exact sh_of h hn.1.1 _
  | bin p x y => intro hn; exact sh_of h hn.1.1 _
  | tri p x y z => intro hn; exact sh_of h hn.1.1 _

theorem of_one' (lo : Nat) (ps : List Pr) (ev : Value) (t : Ast) (hp : Bp (payA t)) (hsub : ∀ x ∈ sidesA t, OfOk lo ps ev x) (hrng : ∀ x ∈ sidesA t, Rng (ofA ps x).num) (hlen : ∀ x ∈ sidesA t, (ofA ps x).str.length ≤ 1000) : OfOk lo ps ev t := by
  by_cases h0 : (payA t).op = 0
  · exact of_0 lo ps ev t h0
  by_cases h1 : (payA t).op = 1
  · exact of_1 lo ps ev t h1
  by_cases h2 : (payA t).op = 2
  · exact of_2 lo ps ev t h2
  by_cases h3 : (payA t).op = 3
  · exact of_3 lo ps ev t h3
  by_cases h4 : (payA t).op = 4
  · exact of_4 lo ps ev t h4
  refine of_step lo ps ev t hsub hrng hlen ?_ h0 h1 h2 h3 h4
  by_cases h20 : (payA t).op = 20
  · exact joinN_20 lo t h20
  by_cases h21 : (payA t).op = 21
  · exact joinN_21 lo t h21 hp.2
  by_cases h22 : (payA t).op = 22
  · exact joinN_22 lo t h22 hp.1
  exact joinN_else lo t h20 h21 h22 (fun x y hx hy => join_every _ x y hx hy)

theorem of_every (lo : Nat) (ps : List Pr) (ev : Value) (hev : EvRng ps) (hsh : EvSh ps) : ∀ t, BndA t → NumA t → OfOk lo ps ev t := by
  intro t
  induction t with
  | leaf p => intro hs hn; exact of_one' lo ps ev _ hs (fun x hx => by simp [sidesA] at hx) (fun x hx => by simp [sidesA] at hx) (fun x hx => by simp [sidesA] at hx)
  | un p x ih =>
    intro hs hn
    refine of_one' lo ps ev _ hs.1 (fun u hu => ?_) (fun u hu => ?_) (fun u hu => ?_)
    · simp [sidesA] at hu; subst hu; exact ih hs.2 hn.2
    · simp [sidesA] at hu; subst hu; exact rng_ofA hev _ hn.2
    · simp [sidesA] at hu; subst hu; exact sh_ofA hsh _ hs.2
  | bin p x y ihx ihy =>
    intro hs hn
    refine of_one' lo ps ev _ hs.1 (fun u hu => ?_) (fun u hu => ?_) (fun u hu => ?_)
    · simp [sidesA] at hu
      rcases hu with rfl | rfl
      · exact ihx hs.2.1 hn.2.1
      · exact ihy hs.2.2 hn.2.2
    · simp [sidesA] at hu
      rcases hu with rfl | rfl
      · exact rng_ofA hev _ hn.2.1
      · exact rng_ofA hev _ hn.2.2
    · simp [sidesA] at hu
      rcases hu with rfl | rfl
      · exact sh_ofA hsh _ hs.2.1
      · exact sh_ofA hsh _ hs.2.2
  | tri p x y z ihx ihy ihz =>
    intro hs hn
    refine of_one' lo ps ev _ hs.1 (fun u hu => ?_) (fun u hu => ?_) (fun u hu => ?_)
    · simp [sidesA] at hu
      rcases hu with rfl | rfl | rfl
      · exact ihx hs.2.1 hn.2.1
      · exact ihy hs.2.2.1 hn.2.2.1
      · exact ihz hs.2.2.2 hn.2.2.2
    · simp [sidesA] at hu
      rcases hu with rfl | rfl | rfl
      · exact rng_ofA hev _ hn.2.1
      · exact rng_ofA hev _ hn.2.2.1
      · exact rng_ofA hev _ hn.2.2.2
    · simp [sidesA] at hu
      rcases hu with rfl | rfl | rfl
      · exact sh_ofA hsh _ hs.2.1
      · exact sh_ofA hsh _ hs.2.2.1
      · exact sh_ofA hsh _ hs.2.2.2
end

end Go.Proofs.YtfkcaldjphakpaaGreatDoor
