/- join: IN and LIKE. Of, of every term that is read. Contracts of core's quoted, sign, spellEscape. -/
import Derived.Test.YtfkcaldjphakpabGreatDoorZLk1
import Derived.Test.YtfkcaldjphakpabGreatDoorP12
import Derived.Test.YtfkcaldjphakpabGreatDoorP13
import Derived.Test.YtfkcaldjphakpabGreatDoorP14
import Derived.Test.YtfkcaldjphakpabGreatDoorP16
import Derived.Test.YtfkcaldjphakpabGreatDoorShelf2
namespace Go.Proofs.YtfkcaldjphakpabGreatDoor
open Go.RowKit
section
set_option maxHeartbeats 1000000 in
set_option maxRecDepth 100000 in
theorem joinN_21 (lo : Nat) (t : Ast) (h21 : (y9 t).op = 21) (hB : (y9 t).texts.length ≤ 1000) : vn5 lo t := by
  intro w b x y z _ _ _ _ h
  have hr : qt2 (y9 t) x y z = vy5 x (y9 t).texts := by rw [qt2, if_neg (by rw [h21]; decide), if_pos h21]
  rw [hr]
  have AMO := v6 (fun w1 (h1 : IsNode lo w1 (.pointer (some ⟨b, 0, none⟩)) t) => among_any lo t hB w1 b x h1)
  have HND := v6 h
  obtain ⟨b', sv, hb, hnode, _⟩ := h.parts
  obtain rfl : b = b' := by simpa using hb
  have c0 := hnode.c0
  have c4 := hnode.c4
  have c5 := hnode.c5
  have hbw := hnode.within
  have m1 : b < w.heap.size + 1 := by omega
  have m2 : b < w.heap.size + 1 + 1 := by omega
  have m3 : b < w.heap.size + 1 + 1 + 1 := by omega
  have d0 : ¬ w.heap.size + 1 + 1 + 1 = w.heap.size := by omega
  rw [h21] at c0
  have JA0 := v6 (ve3 w x y z)
  obtain ⟨r, hr'⟩ : ∃ r, vy5 x (y9 t).texts = r := ⟨_, rfl⟩
  rw [hr'] at AMO ⊢
  clear hr hr' hnode hb h h21 c4 c5
  conv => arg 3; simp only [vV]
  go_enter Tryz.func199, Tryz.ntmps199
  go_wp2_with (go_at_call 229; refine (q9 AMO _ ((q9 HND).kept (Kept.of_below ((qb5 _ _ _ _).alloc (by simp; omega) _)))).mono ?_; rintro e w1 ⟨rfl, hb1⟩; have JA1 := v6 ((q9 JA0).next hb1); obtain ⟨x0_1, x1_1, x2_1, y0_1, y1_1, y2_1, z0_1, z1_1, z2_1, r0_1, r1_1, r2_1, fz_1, lt_1, bel_1⟩ := q9 JA1; clear hb1; simp only [vV])
  refine bodyPost_ret (by simp [results, Tryz.results199, go_sem, r0_1, r1_1, r2_1] <;> rfl) rfl ⟨rfl, ?_⟩
  exact ((bel_1.setCell (by simp; omega) _).setCell (by simp; omega) _).setCell (by simp; omega) _
set_option maxHeartbeats 1000000 in
set_option maxRecDepth 100000 in
theorem joinN_22 (lo : Nat) (t : Ast) (h22 : (y9 t).op = 22) (hB : (y9 t).str.length ≤ 200) : vn5 lo t := by
  intro w b x y z _ _ _ hx h
  have hr : qt2 (y9 t) x y z = vp5 x (y9 t).str (y9 t).esc := by rw [qt2, if_neg (by rw [h22]; decide), if_neg (by rw [h22]; decide), if_pos h22]
  rw [hr]
  have LIK := v6 (fun w1 => jc8 x (BS (y9 t).str) (BS (y9 t).esc) (by rw [qc1]; exact hB) hx w1)
  simp only [qq8] at LIK
  obtain ⟨b', sv, hb, hnode, _⟩ := h.parts
  obtain rfl : b = b' := by simpa using hb
  have c0 := hnode.c0
  have c4 := hnode.c4
  have c5 := hnode.c5
  have hbw := hnode.within
  have m1 : b < w.heap.size + 1 := by omega
  have m2 : b < w.heap.size + 1 + 1 := by omega
  have m3 : b < w.heap.size + 1 + 1 + 1 := by omega
  have d0 : ¬ w.heap.size + 1 + 1 + 1 = w.heap.size := by omega
  rw [h22] at c0
  have JA0 := v6 (ve3 w x y z).drew
  obtain ⟨r, hr'⟩ : ∃ r, vp5 x (y9 t).str (y9 t).esc = r := ⟨_, rfl⟩
  rw [hr'] at LIK ⊢
  clear hr hr' hnode hb h h22
  conv => arg 3; simp only [vV]
  go_enter Tryz.func199, Tryz.ntmps199
  go_wp2_with fail
  go_region_with (go_at_call 105; refine (q9 LIK _).mono ?_; rintro e w1 ⟨rfl, hb1⟩; have JA1 := v6 ((q9 JA0).next hb1); obtain ⟨x0_1, x1_1, x2_1, y0_1, y1_1, y2_1, z0_1, z1_1, z2_1, r0_1, r1_1, r2_1, fz_1, lt_1, bel_1⟩ := q9 JA1; clear hb1; simp only [vV])
  all_goals go_wp2_with fail
  all_goals
    refine bodyPost_ret (by simp [results, Tryz.results199, go_sem, r0_1, r1_1, r2_1] <;> rfl) rfl ⟨rfl, ?_⟩
    exact ((bel_1.setCell (by simp; omega) _).setCell (by simp; omega) _).setCell (by simp; omega) _
end
section
theorem vq1 (op : Int) (x y : V) (hx : Rng x.num) (hy : Rng y.num) : qk5 op x y (qz8 op x y) := by
  by_cases h14 : op = 14
  · subst h14; exact join_14 x y hx
  by_cases h15 : op = 15
  · subst h15; exact join_15 x y hx
  exact join_all op h14 h15 x y hx hy
def Sh (v : V) : Prop := v.str.length ≤ 1000
theorem vn8 (b : Bool) : Sh (bV b) := Nat.zero_le _
theorem vn6 : Sh nV := Nat.zero_le _
theorem sh_i (n : Int) : Sh (iV n) := Nat.zero_le _
theorem qb1 {c : Prop} [Decidable c] {a b : V} (ha : Sh a) (hb : Sh b) : Sh (if c then a else b) := by
  split
  · exact ha
  · exact hb
theorem sh_join (op : Int) (x y : V) : Sh (qz8 op x y) := by
  unfold qz8
  refine qb1 (qb1 (vn8 _) vn6) (qb1 (qb1 (vn8 _) (qb1 (vn8 _) vn6)) (qb1 (qb1 (vn8 _) (qb1 (vn8 _) vn6)) (qb1 (qb1 vn6 (vn8 _)) (qb1 (qb1 (vn8 _) vn6) (qb1 (qb1 (vn8 _) vn6) (qb1 (qb1 (vn8 _) vn6) (qb1 (qb1 (vn8 _) vn6) (qb1 (qb1 (vn8 _) vn6) (qb1 (qb1 (sh_i _) vn6) (qb1 (qb1 (sh_i _) vn6) (qb1 (qb1 (sh_i _) vn6) (qb1 (qb1 (sh_i _) vn6) (qb1 (qb1 (sh_i _) vn6) (qb1 (qb1 (sh_i _) vn6) (vn8 _)))))))))))))))
theorem sh_or (x y : V) : Sh (orV x y) := qb1 (vn8 _) (qb1 (vn8 _) vn6)
theorem sh_among (x : V) (ts : List (List UInt8)) : ∀ f : V, Sh f → Sh (ts.foldl (fun f t => orV f (eqV x (tV t))) f) := by
  induction ts with
  | nil => intro f h; exact h
  | cons t r ih => intro f _; exact ih _ (sh_or _ _)
theorem sh_joinN (p : Pay) (x y z : V) : Sh (qt2 p x y z) := by
  unfold qt2
  refine qb1 (qb1 (vn8 _) (qb1 (vn8 _) vn6)) (qb1 (sh_among x _ _ (vn8 _)) (qb1 (qb1 (vn8 _) vn6) (sh_join _ _ _)))
def EvSh (ps : List Pr) : Prop := ∀ p ∈ ps, Sh p.val
theorem sh_of {ps : List Pr} (h : EvSh ps) {p : Pay} (hp : p.str.length ≤ 200) (s : List V) : Sh (ofN ps p s) := by
  unfold ofN
  refine qb1 ?_ (qb1 (sh_i _) (qb1 ?_ (qb1 (vn8 _) (qb1 (vn8 _) (sh_joinN _ _ _ _)))))
  · unfold qy6
    split
    · rename_i q hq; exact h q (List.mem_of_find?_eq_some hq)
    · exact vn6
  · show p.str.length ≤ 1000
    omega
theorem vj3 {ps : List Pr} (h : EvSh ps) : ∀ t, vd8 t → Sh (ofA ps t) := by
  intro t
  cases t with
  | leaf p => intro hn; exact sh_of h hn.1 _
  | un p x => intro hn; exact sh_of h hn.1.1 _
  | bin p x y => intro hn; exact sh_of h hn.1.1 _
  | tri p x y z => intro hn; exact sh_of h hn.1.1 _
theorem vv2 (lo : Nat) (ps : List Pr) (ev : Value) (t : Ast) (hp : Bp (y9 t)) (hsub : ∀ x ∈ j3 t, OfOk lo ps ev x) (hrng : ∀ x ∈ j3 t, Rng (ofA ps x).num) (hlen : ∀ x ∈ j3 t, (ofA ps x).str.length ≤ 1000) : OfOk lo ps ev t := by
  by_cases h0 : (y9 t).op = 0
  · exact of_0 lo ps ev t h0
  by_cases h1 : (y9 t).op = 1
  · exact of_1 lo ps ev t h1
  by_cases h2 : (y9 t).op = 2
  · exact of_2 lo ps ev t h2
  by_cases h3 : (y9 t).op = 3
  · exact of_3 lo ps ev t h3
  by_cases h4 : (y9 t).op = 4
  · exact of_4 lo ps ev t h4
  refine of_step lo ps ev t hsub hrng hlen ?_ h0 h1 h2 h3 h4
  by_cases h20 : (y9 t).op = 20
  · exact joinN_20 lo t h20
  by_cases h21 : (y9 t).op = 21
  · exact joinN_21 lo t h21 hp.2
  by_cases h22 : (y9 t).op = 22
  · exact joinN_22 lo t h22 hp.1
  exact jw1 lo t h20 h21 h22 (fun x y hx hy => vq1 _ x y hx hy)
theorem of_every (lo : Nat) (ps : List Pr) (ev : Value) (hev : jb9 ps) (hsh : EvSh ps) : ∀ t, vd8 t → ve4 t → OfOk lo ps ev t := by
  intro t
  induction t with
  | leaf p => intro hs hn; exact vv2 lo ps ev _ hs (fun x hx => by simp [j3] at hx) (fun x hx => by simp [j3] at hx) (fun x hx => by simp [j3] at hx)
  | un p x ih =>
    intro hs hn
    refine vv2 lo ps ev _ hs.1 (fun u hu => ?_) (fun u hu => ?_) (fun u hu => ?_)
    · simp [j3] at hu; subst hu; exact ih hs.2 hn.2
    · simp [j3] at hu; subst hu; exact vd9 hev _ hn.2
    · simp [j3] at hu; subst hu; exact vj3 hsh _ hs.2
  | bin p x y ihx ihy =>
    intro hs hn
    refine vv2 lo ps ev _ hs.1 (fun u hu => ?_) (fun u hu => ?_) (fun u hu => ?_)
    · simp [j3] at hu
      rcases hu with rfl | rfl
      · exact ihx hs.2.1 hn.2.1
      · exact ihy hs.2.2 hn.2.2
    · simp [j3] at hu
      rcases hu with rfl | rfl
      · exact vd9 hev _ hn.2.1
      · exact vd9 hev _ hn.2.2
    · simp [j3] at hu
      rcases hu with rfl | rfl
      · exact vj3 hsh _ hs.2.1
      · exact vj3 hsh _ hs.2.2
  | tri p x y z ihx ihy ihz =>
    intro hs hn
    refine vv2 lo ps ev _ hs.1 (fun u hu => ?_) (fun u hu => ?_) (fun u hu => ?_)
    · simp [j3] at hu
      rcases hu with rfl | rfl | rfl
      · exact ihx hs.2.1 hn.2.1
      · exact ihy hs.2.2.1 hn.2.2.1
      · exact ihz hs.2.2.2 hn.2.2.2
    · simp [j3] at hu
      rcases hu with rfl | rfl | rfl
      · exact vd9 hev _ hn.2.1
      · exact vd9 hev _ hn.2.2.1
      · exact vd9 hev _ hn.2.2.2
    · simp [j3] at hu
      rcases hu with rfl | rfl | rfl
      · exact vj3 hsh _ hs.2.1
      · exact vj3 hsh _ hs.2.2.1
      · exact vj3 hsh _ hs.2.2.2
end
section
theorem vx9 : ∀ s : List UInt8, Lib.replaceK [39] [39, 39] (Lib.count s [39]) s = za5 s := by
  intro s
  induction s with
  | nil => rfl
  | cons b l ih =>
    rw [za5]
    by_cases hb : b = 39
    · subst hb
      rw [Lib.count_cons_eq, Nat.add_comm, Lib.replaceK_hit _ _ _ _ 0 (by rfl), if_pos (by rfl)]
      show [] ++ [39, 39] ++ Lib.replaceK [39] [39, 39] (Lib.count l [39]) l = _
      rw [ih]
      rfl
    · rw [Lib.count_cons_ne b 39 l hb, if_neg (by simpa using hb)]
      cases hc : Lib.count l [39] with
      | zero =>
        rw [hc] at ih
        show b :: l = b :: za5 l
        rw [← ih]
        rfl
      | succ k =>
        obtain ⟨i, hi⟩ := Lib.index_of_count (s := l) (old := [39]) (by rw [hc]; omega)
        have hi' : Lib.index (b :: l) [39] = ((i + 1 : Nat) : Int) := by
          rw [Lib.index]
          have h1 : ([39] : List UInt8).isPrefixOf (b :: l) = false := by
            show ((39 : UInt8) == b && true) = false
            rw [Bool.and_true]
            apply beq_eq_false_iff_ne.2
            intro e; exact hb e.symm
          rw [h1, if_neg (by decide), if_neg (by rw [hi]; intro e; have := eq_of_beq e; omega), hi]
          push_cast
          rfl
        rw [hc, Lib.replaceK_hit _ _ _ _ i hi] at ih
        rw [Lib.replaceK_hit _ _ _ _ (i + 1) hi', ← ih]
        rfl
theorem vp1 (s : List UInt8) : Lib.replaceAll s [39] [39, 39] = za5 s := by
  unfold Lib.replaceAll Lib.replace
  rw [if_neg (by decide)]
  unfold Lib.replaceNum
  rw [if_pos (.inl (by decide))]
  exact vx9 s
theorem qh4 (s t : ByteArray) (m n : Nat) (hs : s.size ≤ m) (ht : t.size ≤ n) (h : m + n ≤ 9000000000) : ∃ r, r = s ++ t ∧ r.size ≤ m + n ∧ ∀ w : World, (Op.stringOp .add s t).run Tryz.prog w = .ok (.string r) w :=
  ⟨s ++ t, rfl, by rw [ByteArray.size_append]; omega, fun w => run_string_add_sum (P := Tryz.prog) (w := w) _ _ (by omega)⟩
theorem vk1 (s : List UInt8) : (qL s).length ≤ 2 * s.length + 2 := by
  have := jn0 s
  unfold qL
  simp
  omega
set_option maxHeartbeats 400000 in
theorem va3 (s : List UInt8) (hs : s.length ≤ 1000000000) (w : World) (hL : LibOk w) :
    Calls Tryz.prog 190 #[.string (BS s)] w fun e w' => e = .returned (.string (BS (qL s))) ∧ Below w.heap.size w w' := by
  obtain ⟨_, m, hm⟩ := hL.max
  have hc := Lib.countB_le ⟨#[39]⟩ (by decide) _ (BS s) (Nat.le_refl _)
  rw [qc1] at hc
  have hrep := Tryz.strings_ReplaceAll (BS s) ⟨#[39]⟩ ⟨#[39, 39]⟩ m w (by rw [qc1]; omega) hm (by decide) (by rw [qc1]; show _ + _ * 2 ≤ _; omega)
  rw [show Lib.replaceAll (BS s).data.toList (⟨#[39]⟩ : ByteArray).data.toList (⟨#[39, 39]⟩ : ByteArray).data.toList = za5 s from vp1 s] at hrep
  have HREP : Hid (Calls Tryz.prog 221 #[.string (BS s), .string ⟨#[39]⟩, .string ⟨#[39, 39]⟩] w fun e w' => e = .returned (.string (BS (za5 s))) ∧ Below w.heap.size w w') := v6 hrep
  have hd := jn0 s
  obtain ⟨R1, e1, z1, a1⟩ := qh4 ⟨#[39]⟩ (BS (za5 s)) 1 2000000000 (Nat.le_refl _) (by rw [qc1]; omega) (by decide)
  obtain ⟨R2, e2, z2, a2⟩ := qh4 R1 ⟨#[39]⟩ 2000000001 1 z1 (Nat.le_refl _) (by decide)
  have HR : Hid (R2 = BS (qL s)) := v6 (by
    rw [e2, e1, show (⟨#[39]⟩ : ByteArray) = BS [39] from rfl, qk7, qk7]
    rfl)
  clear hrep hm hL hc hs hd e1 z1 e2 z2
  go_enter Tryz.func190, Tryz.ntmps190
  go_wp2_with (go_at_call 221; refine (q9 HREP).mono ?_; rintro e w1 ⟨rfl, hb1⟩)
  go_ret
  exact ⟨by rw [q9 HR]; rfl, hb1⟩
theorem vd0 (op : Int) : (qk8 op).length ≤ 3 := by
  unfold qk8
  repeat' split
  all_goals decide
set_option maxHeartbeats 400000 in
theorem csign_any (op : Int) (w : World) :
    Calls Tryz.prog 192 #[.int .i64 op] w fun e w' => e = .returned (.string (BS (qk8 op))) ∧ w' = w := by
  go_enter Tryz.func192, Tryz.ntmps192
  go_wp2_with fail
  all_goals (go_ret; refine ⟨?_, rfl⟩; go_light; simp only [qk8, *, if_true, Bool.false_eq_true, if_false]; rfl)
set_option maxHeartbeats 400000 in
theorem qx8 (op : Int) (w : World) :
    Calls Tryz.prog 138 #[.int .i64 op] w fun e w' => e = .returned (.bool (vw0 op)) ∧ w' = w := by
  go_enter Tryz.func138, Tryz.ntmps138
  go_wp2_with fail
  all_goals (go_ret; refine ⟨?_, rfl⟩; go_light; simp only [vw0, *, Bool.or_true, Bool.true_or, Bool.or_false]; rfl)
set_option maxHeartbeats 400000 in
theorem vj4 (b : Nat) (s : List UInt8) (hs : s.length ≤ 1000000000) (w : World) (hL : LibOk w) (hc : w.cell? ⟨b, 5, none⟩ = some (.string (BS s))) :
    Calls Tryz.prog 191 #[at0 b] w fun e w' => e = .returned (.string (BS (escT s))) ∧ Below w.heap.size w w' := by
  unfold at0 escT
  cases he : s.isEmpty with
  | true =>
    have h1 : (BS s).toList.isEmpty = true := by rw [qn4]; exact he
    rw [if_pos rfl]
    clear hL
    go_enter Tryz.func191, Tryz.ntmps191
    go_wp2_with fail
    go_ret
    exact ⟨rfl, Below.refl _ _⟩
  | false =>
    have h1 : (BS s).toList.isEmpty = false := by rw [qn4]; exact he
    rw [if_neg (by decide)]
    have HQ := v6 (va3 s hs w hL)
    have hq := vk1 s
    obtain ⟨R1, e1, z1, a1⟩ := qh4 ⟨#[32, 69, 83, 67, 65, 80, 69, 32]⟩ (BS (qL s)) 8 2000000002 (Nat.le_refl _) (by rw [qc1]; omega) (by decide)
    have HR : Hid (R1 = BS ([32, 69, 83, 67, 65, 80, 69, 32] ++ qL s)) := v6 (by rw [e1, show (⟨#[32, 69, 83, 67, 65, 80, 69, 32]⟩ : ByteArray) = BS [32, 69, 83, 67, 65, 80, 69, 32] from rfl, qk7])
    clear hL hs hq e1 z1 he
    go_enter Tryz.func191, Tryz.ntmps191
    go_wp2_with (go_at_call 190; refine (q9 HQ).mono ?_; rintro e w1 ⟨rfl, hb1⟩)
    go_ret
    exact ⟨by rw [q9 HR]; rfl, hb1⟩
end
end Go.Proofs.YtfkcaldjphakpabGreatDoor
