/- What a broker's calls do, whatever they are handed. Publish, Poll and Live, whatever they are handed. A broker that was made since, and two rows beside it. -/
import Derived.Test.YtfkcaldjphakpabGreatDoorT36
import Derived.Test.YtfkcaldjphakpabGreatDoorT35
import Derived.Test.YtfkcaldjphakpabGreatDoorT39
namespace Go.Proofs.YtfkcaldjphakpabGreatDoor
open Go.RowKit
section
attribute [local go_sem ↓] qc8
def qv6 (L : List Su) : Prop := ∀ x ∈ L, CoreOk x.co
theorem Br.up {w w' : World} {F : Nat → Prop} {bb : Nat} {last : Int} {L : List Su} (h : Br w F bb last L) (hb : Below w.heap.size w w') : Br w' (upF F w w') bb last L :=
  (h.below hb).wide (fun _ hk => .inl hk) fun k hk => by
    rcases hk with e | e
    · have := h.1 k e; have := hb.size; omega
    · exact e.2
theorem Br.rising {w : World} {F : Nat → Prop} {bb : Nat} {last : Int} {L : List Su} (h : Br w F bb last L) : L.Pairwise (fun a b => a.id < b.id) ∧ L.length ≤ 8 ∧ PrgS L := by
  obtain ⟨_, sv, tv, rv, l, hB, hL, _⟩ := h
  refine ⟨?_, by rw [← hL, List.length_map]; exact hB.n8, ?_⟩
  · rw [← hL]
    have hu := hB.up
    unfold qn1 at hu
    rw [List.pairwise_map] at hu ⊢
    exact hu
  · unfold PrgS
    rw [← hL, qx6]
    exact hB.prg
def qn7 (L : List Su) (id : Int) (s : List UInt8) : List Su × Int × Int :=
  if (L.any fun x => x.id == id) = true then (L, 6, 0) else match qm5 (BS s) with
  | .err en pl => (L, en, pl)
  | .ok t => if L.length = 8 then (L, 8, 0) else if 80 < (qn5 (jc3 L (qs8 L id) ⟨id, j6 t, []⟩)).1.length then (L, 8, 0) else (jc3 L (qs8 L id) ⟨id, j6 t, []⟩, 0, 0)
theorem insS_mem' {L : List Su} {k : Nat} {x y : Su} (h : y ∈ jc3 L k x) : y = x ∨ y ∈ L := by
  unfold jc3 at h
  rcases List.mem_append.1 h with h | h
  · exact .inr (List.mem_of_mem_take h)
  · rcases List.mem_cons.1 h with h | h
    · exact .inl h
    · exact .inr (List.mem_of_mem_drop h)
theorem sub_any (w : World) (F : Nat → Prop) (bb : Nat) (last : Int) (L : List Su) (h : Br w F bb last L) (hg : qv6 L) (id : Int) (s : List UInt8) (hs : s.length ≤ 140737488355328) (hL : LibOk w)
    (Q : Ending → World → Prop) (hQ : ∀ w', Br w' (upF F w w') bb last (qn7 L id s).1 → qv6 (qn7 L id s).1 → Grow F w w' → Q (.returned (.tuple #[.int .i64 (qn7 L id s).2.1, .int .i64 (qn7 L id s).2.2])) w') :
    Calls Tryz.prog 12 #[.pointer (some ⟨bb, 0, none⟩), .int .i64 id, .string (BS s)] w Q := by
  have hsz : (BS s).size ≤ 140737488355328 := by rw [qc0]; exact hs
  by_cases hh : (L.any fun x => x.id == id) = true
  · have e : qn7 L id s = (L, 6, 0) := by unfold qn7; rw [if_pos hh]
    rw [e] at hQ
    obtain ⟨x, hx, hxi⟩ := List.any_eq_true.1 hh
    have hxi : x.id = id := by simpa using hxi
    obtain ⟨i, hi⟩ := List.getElem?_of_mem hx
    have := sub_twice w F bb last L h i x hi (BS s)
    rw [hxi] at this
    exact this.mono (by rintro e w' ⟨rfl, hb⟩; exact hQ w' (h.up hb) hg (Grow.of_below hb))
  · have hno : ∀ x ∈ L, x.id ≠ id := fun x hx e => hh (List.any_eq_true.2 ⟨x, hx, by simpa using e⟩)
    cases hrd : qm5 (BS s) with
    | err en pl =>
      have e : qn7 L id s = (L, en, pl) := by unfold qn7; rw [if_neg hh, hrd]
      rw [e] at hQ
      exact (sub_err w F bb last L h id hno (BS s) hsz en pl hrd hL.err).mono (by rintro e w' ⟨rfl, hb⟩; exact hQ w' (h.up hb) hg (Grow.of_below hb))
    | ok t =>
      have hco := core_ok hrd
      have htx : TxOk s (j6 t) := ⟨t, hrd, rfl, fun _ => amongOk, good_fld hco.fld, hco.size, hs⟩
      by_cases h8 : L.length = 8
      · have e : qn7 L id s = (L, 8, 0) := by unfold qn7; rw [if_neg hh, hrd]; simp only; rw [if_pos h8]
        rw [e] at hQ
        exact (sub_full8 w F bb last L h id hno (BS s) hsz t hrd h8 hL.err).mono (by rintro e w' ⟨rfl, hb⟩; exact hQ w' (h.up hb) hg (Grow.of_below hb))
      · have hl8 : L.length < 8 := by have := h.rising.2.1; omega
        by_cases h80 : 80 < (qn5 (jc3 L (qs8 L id) ⟨id, j6 t, []⟩)).1.length
        · have e : qn7 L id s = (L, 8, 0) := by unfold qn7; rw [if_neg hh, hrd]; simp only; rw [if_neg h8, if_pos h80]
          rw [e] at hQ
          exact (sub_terms w F bb last L h id hno s (j6 t) htx hl8 hL h80).mono (by rintro e w' ⟨rfl, hb⟩; exact hQ w' (h.up hb) hg (Grow.of_below hb))
        · have e : qn7 L id s = (jc3 L (qs8 L id) ⟨id, j6 t, []⟩, 0, 0) := by unfold qn7; rw [if_neg hh, hrd]; simp only; rw [if_neg h8, if_neg h80]
          rw [e] at hQ
          have hg' : qv6 (jc3 L (qs8 L id) ⟨id, j6 t, []⟩) := fun x hx => by
            rcases insS_mem' hx with rfl | hx
            · exact hco
            · exact hg x hx
          exact sub_ok w F bb last L h id hno s (j6 t) htx hl8 hL (by omega) (jn3 hg' (by simp [jc3]; omega) (by omega)) Q fun w' h1 h2 => hQ w' h1 hg' h2
def delS (L : List Su) (id : Int) : List Su := L.filter fun x => !(x.id == id)
def qe8 (L : List Su) (id : Int) : List Su × Int := if (L.any fun x => x.id == id) = true then (delS L id, 0) else (L, 5)
theorem del_at {L : List Su} (hp : L.Pairwise fun a b => a.id < b.id) {i : Nat} {x : Su} (hi : L[i]? = some x) : L.take i ++ L.drop (i + 1) = delS L x.id := by
  have hil := (List.getElem?_eq_some_iff.1 hi).1
  have hd : L = L.take i ++ x :: L.drop (i + 1) := by
    have e := List.drop_eq_getElem_cons hil
    rw [(List.getElem?_eq_some_iff.1 hi).2] at e
    rw [← e, List.take_append_drop]
  have hp' := hp
  rw [hd, List.pairwise_append, List.pairwise_cons] at hp'
  unfold delS
  conv => rhs; rw [hd]
  rw [List.filter_append, List.filter_cons_of_neg (by simp), List.filter_eq_self.2 fun a ha => ?_, List.filter_eq_self.2 fun a ha => ?_]
  · have := hp'.2.1.1 a ha
    have : a.id ≠ x.id := by omega
    simpa using this
  · have := hp'.2.2 a ha x (List.mem_cons_self ..)
    have : a.id ≠ x.id := by omega
    simpa using this
theorem jk7 {L : List Su} {id : Int} : ∀ x ∈ delS L id, x ∈ L := fun _ hx => (List.mem_filter.1 hx).1
theorem unsub_any (w : World) (F : Nat → Prop) (bb : Nat) (last : Int) (L : List Su) (h : Br w F bb last L) (hg : qv6 L) (id : Int)
    (Q : Ending → World → Prop) (hQ : ∀ w', Br w' (upF F w w') bb last (qe8 L id).1 → qv6 (qe8 L id).1 → Grow F w w' → Q (.returned (.int .i64 (qe8 L id).2)) w') :
    Calls Tryz.prog 19 #[.pointer (some ⟨bb, 0, none⟩), .int .i64 id] w Q := by
  obtain ⟨hp, h8, hprg⟩ := h.rising
  by_cases hh : (L.any fun x => x.id == id) = true
  · have e : qe8 L id = (delS L id, 0) := by unfold qe8; rw [if_pos hh]
    rw [e] at hQ
    obtain ⟨x, hx, hxi⟩ := List.any_eq_true.1 hh
    have hxi : x.id = id := by simpa using hxi
    obtain ⟨i, hi⟩ := List.getElem?_of_mem hx
    have hdel := del_at hp hi
    rw [hxi] at hdel
    have hg' : qv6 (delS L id) := fun x hx => hg x (jk7 x hx)
    have := unsub_at w F bb last L h i x hi (by
      rw [hdel]
      have hle := progS_le hg (L' := delS L id) fun x hx => ⟨x, jk7 x hx, rfl⟩
      have h80 := hprg.terms
      refine jn3 hg' (Nat.le_trans (List.length_filter_le _ _) h8) (by omega)) Q (fun w' h1 h2 => by rw [hdel] at h1; exact hQ w' h1 hg' h2)
    rw [hxi] at this
    exact this
  · have hno : ∀ x ∈ L, x.id ≠ id := fun x hx e => hh (List.any_eq_true.2 ⟨x, hx, by simpa using e⟩)
    have e : qe8 L id = (L, 5) := by unfold qe8; rw [if_neg hh]
    rw [e] at hQ
    exact (unsub_no w F bb last L h id hno).mono (by rintro e w' ⟨rfl, hb⟩; exact hQ w' (h.up hb) hg (Grow.of_below hb))
set_option maxHeartbeats 2000000 in
theorem pub_bad (w : World) (bb : Nat) (pri : Int) (ps : List Pr) (ev : Value) (hev : EvIn w ev ps) (hg : EvGood ps) (hno : ¬ (0 ≤ pri ∧ pri ≤ 9 ∧ ve6 ps = true)) :
    Calls Tryz.prog 15 #[.pointer (some ⟨bb, 0, none⟩), .int .i64 pri, ev] w fun e w' => e = .returned (.tuple #[.slice none 0 0, .slice none 0 0, .int .i64 7]) ∧ Below w.heap.size w w' := by
  have HV := v6 (vc4 hev hg)
  obtain ⟨ea, en, ec, rfl⟩ := hev.slice
  clear hev hg
  by_cases h0 : pri < 0
  · have hd0 : decide (pri < 0) = true := decide_eq_true h0
    clear hno
    go_enter Tryz.func15, Tryz.ntmps15
    go_wp2_with fail
    refine bodyPost_ret (by simp [results, Tryz.results15, go_sem] <;> rfl) rfl ?_
    exact ⟨rfl, Below.refl _ _⟩
  · have hd0 : decide (pri < 0) = false := decide_eq_false h0
    by_cases h9 : 9 < pri
    · have hd9 : decide (pri > 9) = true := decide_eq_true h9
      have hd9' : decide (9 < pri) = true := decide_eq_true h9
      clear hno
      go_enter Tryz.func15, Tryz.ntmps15
      go_wp2_with fail
      refine bodyPost_ret (by simp [results, Tryz.results15, go_sem] <;> rfl) rfl ?_
      exact ⟨rfl, Below.refl _ _⟩
    · have hd9 : decide (pri > 9) = false := decide_eq_false h9
      have hd9' : decide (9 < pri) = false := decide_eq_false h9
      have hok : ve6 ps = false := by
        cases he : ve6 ps with
        | false => rfl
        | true => exact absurd ⟨by omega, by omega, he⟩ hno
      rw [hok] at HV
      clear hno hok
      go_enter Tryz.func15, Tryz.ntmps15
      go_wp2_with (go_at_call 40; refine (q9 HV).mono ?_; rintro e w1 ⟨rfl, hb1⟩; have B1 := v6 hb1; clear hb1)
      refine bodyPost_ret (by simp [results, Tryz.results15, go_sem] <;> rfl) rfl ?_
      exact ⟨rfl, q9 B1⟩
end
section
attribute [local go_sem ↓] qc8
theorem ja1 {m : Mg} {st : List Su × List Int × List Int} {p : Nat} (h : qv6 st.1) : qv6 (qg7 m st p).1 := by
  unfold qg7
  split
  · exact h
  · rename_i x hx
    split
    · exact h
    · intro y hy
      rcases List.mem_or_eq_of_mem_set hy with hy | rfl
      · exact h y hy
      · exact h x (List.mem_of_getElem? hx)
theorem js9 {m : Mg} : ∀ (pos : List Nat) (st : List Su × List Int × List Int), qv6 st.1 → qv6 (pos.foldl (qg7 m) st).1 := by
  intro pos
  induction pos with
  | nil => intro st h; exact h
  | cons p r ih => intro st h; exact ih _ (ja1 h)
def qs3 (L : List Su) (last pri : Int) (ps : List Pr) : (List Su × List Int × List Int) × Int × Int := if 0 ≤ pri ∧ pri ≤ 9 ∧ ve6 ps = true then (pubR ⟨pri, last + 1⟩ L (metS ps L), last + 1, 0) else ((L, [], []), last, 7)
theorem vj5 {L : List Su} {last pri : Int} {ps : List Pr} (h : qv6 L) : qv6 (qs3 L last pri ps).1.1 := by
  unfold qs3
  split
  · exact js9 _ _ h
  · exact h
theorem ji0 (w : World) (F : Nat → Prop) (bb : Nat) (last : Int) (L : List Su) (h : Br w F bb last L) (pri : Int) (hlast : 0 ≤ last ∧ last < 4611686018427387904) (ps : List Pr) (ev : Value)
    (hev : ∀ w', Grow F w w' → EvIn w' ev ps) (hg : EvGood ps)
    (Q : Ending → World → Prop) (hQ : ∀ w' mv fv, Br w' (pubF F w w' mv fv) bb (qs3 L last pri ps).2.1 (qs3 L last pri ps).1.1 → Grow F w w' → ZsAt w' w.heap.size mv (qs3 L last pri ps).1.2.1 → ZsAt w' w.heap.size fv (qs3 L last pri ps).1.2.2 → Q (.returned (.tuple #[mv, fv, .int .i64 (qs3 L last pri ps).2.2])) w') :
    Calls Tryz.prog 15 #[.pointer (some ⟨bb, 0, none⟩), .int .i64 pri, ev] w Q := by
  by_cases hc : 0 ≤ pri ∧ pri ≤ 9 ∧ ve6 ps = true
  · have e : qs3 L last pri ps = (pubR ⟨pri, last + 1⟩ L (metS ps L), last + 1, 0) := by unfold qs3; rw [if_pos hc]
    rw [e] at hQ
    exact pub_ok w F bb last L h pri hc.1 hc.2.1 hlast ps ev hev hg hc.2.2 Q hQ
  · have e : qs3 L last pri ps = ((L, [], []), last, 7) := by unfold qs3; rw [if_neg hc]
    rw [e] at hQ
    refine (pub_bad w bb pri ps ev (hev w (Grow.of_below (Below.refl _ _))) hg hc).mono ?_
    rintro e w' ⟨rfl, hb⟩
    refine hQ w' _ _ ((h.up hb).wide (fun k hk => ⟨hk, by simp [Value.ownBlock], by simp [Value.ownBlock]⟩) fun k hk => (h.up hb).1 k hk.1) (Grow.of_below hb) (ZsAt.nil _ _) (ZsAt.nil _ _)
def popS (id : Int) (y : Su) : Su := if y.id = id then { y with ms := popM y.ms } else y
def qy1 (L : List Su) (id : Int) : List Su × Int × Int := match L.find? fun x => x.id == id with
  | some x => (L.map (popS id), headN x.ms, 0)
  | none => (L, 0, 5)
theorem set_pop {L : List Su} (hp : L.Pairwise fun a b => a.id < b.id) {i : Nat} {x : Su} (hi : L[i]? = some x) : L.set i { x with ms := popM x.ms } = L.map (popS x.id) := by
  apply List.ext_getElem?
  intro j
  rw [List.getElem?_set, List.getElem?_map]
  obtain ⟨hil, hie⟩ := List.getElem?_eq_some_iff.1 hi
  split
  · rename_i e
    subst e
    rw [hi]
    simp [popS]
  · rename_i hne
    cases hj : L[j]? with
    | none => rfl
    | some y =>
      obtain ⟨hjl, hje⟩ := List.getElem?_eq_some_iff.1 hj
      have hy : y.id ≠ x.id := by
        have hpp := List.pairwise_iff_getElem.1 hp
        rcases Nat.lt_or_gt_of_ne hne with hlt | hlt
        · have := hpp i j hil hjl hlt
          rw [hie, hje] at this
          omega
        · have := hpp j i hjl hil hlt
          rw [hie, hje] at this
          omega
      simp [popS, hy]
theorem jv7 {L : List Su} {id : Int} (h : qv6 L) : qv6 (qy1 L id).1 := by
  unfold qy1
  split
  · intro y hy
    obtain ⟨z, hz, rfl⟩ := List.mem_map.1 hy
    have e : (popS id z).co = z.co := by unfold popS; split <;> rfl
    rw [e]
    exact h z hz
  · exact h
theorem jn2 (w : World) (F : Nat → Prop) (bb : Nat) (last : Int) (L : List Su) (h : Br w F bb last L) (id : Int)
    (Q : Ending → World → Prop) (hQ : ∀ w', Br w' (upF F w w') bb last (qy1 L id).1 → Grow F w w' → Q (.returned (.tuple #[.int .i64 (qy1 L id).2.1, .int .i64 (qy1 L id).2.2])) w') :
    Calls Tryz.prog 22 #[.pointer (some ⟨bb, 0, none⟩), .int .i64 id] w Q := by
  obtain ⟨hp, _, _⟩ := h.rising
  cases hf : L.find? fun x => x.id == id with
  | some x =>
    have e : qy1 L id = (L.map (popS id), headN x.ms, 0) := by unfold qy1; rw [hf]
    rw [e] at hQ
    have hxi : x.id = id := by simpa using List.find?_some hf
    obtain ⟨i, hi⟩ := List.getElem?_of_mem (List.mem_of_find?_eq_some hf)
    have := poll_at w F bb last L h i x hi Q (fun w' h1 h2 => by rw [set_pop hp hi, hxi] at h1; exact hQ w' h1 h2)
    rw [hxi] at this
    exact this
  | none =>
    have e : qy1 L id = (L, 0, 5) := by unfold qy1; rw [hf]
    rw [e] at hQ
    refine (poll_no w F bb last L h id (fun x hx e => ?_)).mono (by rintro e w' ⟨rfl, hb⟩; exact hQ w' (h.up hb) (Grow.of_below hb))
    have := List.find?_eq_none.1 hf x hx
    simp [e] at this
end
section
theorem ZsAt.cell {w : World} {base : Nat} {v : Value} {l : List Int} (h : ZsAt w base v l) {i : Nat} {x : Int} (hi : l[i]? = some x) : ∃ g c, v = .slice (some ⟨g, 0, none⟩) l.length c ∧ w.cell? ⟨g, i, none⟩ = some (.int .i64 x) := by
  rcases qd6 h with ⟨_, h0⟩ | ⟨g, c, rfl⟩
  · have := (List.getElem?_eq_some_iff.1 hi).1
    omega
  · refine ⟨g, c, rfl, ?_⟩
    have := World.ownsRow.cells h (g := g) rfl i (.int .i64 x) (by simp [jq3, hi])
    rwa [qj3, Nat.zero_add] at this
end
end Go.Proofs.YtfkcaldjphakpabGreatDoor
