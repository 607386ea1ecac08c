/- What a broker's calls do, whatever they are handed. Publish, Poll and Live, whatever they are handed. A broker that was made since, and two rows beside it. A broker that was made since. known: what a small broker does. -/
import Derived.Test.YtfkcaldjphakpabGreatDoorP28
import Derived.Test.YtfkcaldjphakpabGreatDoorP29
import Derived.Test.YtfkcaldjphakpabGreatDoorP30
namespace Go.Proofs.YtfkcaldjphakpabGreatDoor
open Go.RowKit
section
attribute [local go_sem ↓] qd6
def qs0 (L : List Su) : Prop := ∀ x ∈ L, CoreOk x.co
theorem Br.up {w w' : World} {F : Nat → Prop} {bb : Nat} {last : Int} {L : List Su} (h : Br w F bb last L) (hb : Below w.heap.size w w') : Br w' (upF F w w') bb last L :=
  (h.below hb).wide (fun _ hk => .inl hk) fun k hk => by
    rcases hk with e | e
    · have := h.1 k e; have := hb.size; omega
    · exact e.2
theorem Br.rising {w : World} {F : Nat → Prop} {bb : Nat} {last : Int} {L : List Su} (h : Br w F bb last L) : L.Pairwise (fun a b => a.id < b.id) ∧ L.length ≤ 8 ∧ PrgS L := by
  obtain ⟨_, sv, tv, rv, l, hB, hL, _⟩ := h
  refine ⟨?_, by rw [← hL, List.length_map]; exact hB.n8, ?_⟩
  · rw [← hL]
    have hu := hB.up
    unfold qp0 at hu
    rw [List.pairwise_map] at hu ⊢
    exact hu
  · unfold PrgS
    rw [← hL, qu0]
    exact hB.prg
def qc6 (L : List Su) (id : Int) (s : List UInt8) : List Su × Int × Int :=
  if (L.any fun x => x.id == id) = true then (L, 6, 0) else match qh5 (BS s) with
  | .err en pl => (L, en, pl)
  | .ok t => if L.length = 8 then (L, 8, 0) else if 80 < (qk1 (vm8 L (qj6 L id) ⟨id, j4 t, []⟩)).1.length then (L, 8, 0) else (vm8 L (qj6 L id) ⟨id, j4 t, []⟩, 0, 0)
theorem va8 {L : List Su} {k : Nat} {x y : Su} (h : y ∈ vm8 L k x) : y = x ∨ y ∈ L := by
  unfold vm8 at h
  rcases List.mem_append.1 h with h | h
  · exact .inr (List.mem_of_mem_take h)
  · rcases List.mem_cons.1 h with h | h
    · exact .inl h
    · exact .inr (List.mem_of_mem_drop h)
theorem sub_any (w : World) (F : Nat → Prop) (bb : Nat) (last : Int) (L : List Su) (h : Br w F bb last L) (hg : qs0 L) (id : Int) (s : List UInt8) (hs : s.length ≤ 140737488355328) (hL : LibOk w)
    (Q : Ending → World → Prop) (hQ : ∀ w', Br w' (upF F w w') bb last (qc6 L id s).1 → qs0 (qc6 L id s).1 → Grow F w w' → Q (.returned (.tuple #[.int .i64 (qc6 L id s).2.1, .int .i64 (qc6 L id s).2.2])) w') :
    Calls Tryz.prog 12 #[.pointer (some ⟨bb, 0, none⟩), .int .i64 id, .string (BS s)] w Q := by
  have hsz : (BS s).size ≤ 140737488355328 := by rw [qc1]; exact hs
  by_cases hh : (L.any fun x => x.id == id) = true
  · have e : qc6 L id s = (L, 6, 0) := by unfold qc6; rw [if_pos hh]
    rw [e] at hQ
    obtain ⟨x, hx, hxi⟩ := List.any_eq_true.1 hh
    have hxi : x.id = id := by simpa using hxi
    obtain ⟨i, hi⟩ := List.getElem?_of_mem hx
    have := sub_twice w F bb last L h i x hi (BS s)
    rw [hxi] at this
    exact this.mono (by rintro e w' ⟨rfl, hb⟩; exact hQ w' (h.up hb) hg (Grow.of_below hb))
  · have hno : ∀ x ∈ L, x.id ≠ id := fun x hx e => hh (List.any_eq_true.2 ⟨x, hx, by simpa using e⟩)
    cases hrd : qh5 (BS s) with
    | err en pl =>
      have e : qc6 L id s = (L, en, pl) := by unfold qc6; rw [if_neg hh, hrd]
      rw [e] at hQ
      exact (sub_err w F bb last L h id hno (BS s) hsz en pl hrd hL.err).mono (by rintro e w' ⟨rfl, hb⟩; exact hQ w' (h.up hb) hg (Grow.of_below hb))
    | ok t =>
      have hco := vu6 hrd
      have htx : TxOk s (j4 t) := ⟨t, hrd, rfl, fun _ => amongOk, good_fld hco.fld, hco.size, hs⟩
      by_cases h8 : L.length = 8
      · have e : qc6 L id s = (L, 8, 0) := by unfold qc6; rw [if_neg hh, hrd]; simp only; rw [if_pos h8]
        rw [e] at hQ
        exact (sub_full8 w F bb last L h id hno (BS s) hsz t hrd h8 hL.err).mono (by rintro e w' ⟨rfl, hb⟩; exact hQ w' (h.up hb) hg (Grow.of_below hb))
      · have hl8 : L.length < 8 := by have := h.rising.2.1; omega
        by_cases h80 : 80 < (qk1 (vm8 L (qj6 L id) ⟨id, j4 t, []⟩)).1.length
        · have e : qc6 L id s = (L, 8, 0) := by unfold qc6; rw [if_neg hh, hrd]; simp only; rw [if_neg h8, if_pos h80]
          rw [e] at hQ
          exact (sub_terms w F bb last L h id hno s (j4 t) htx hl8 hL h80).mono (by rintro e w' ⟨rfl, hb⟩; exact hQ w' (h.up hb) hg (Grow.of_below hb))
        · have e : qc6 L id s = (vm8 L (qj6 L id) ⟨id, j4 t, []⟩, 0, 0) := by unfold qc6; rw [if_neg hh, hrd]; simp only; rw [if_neg h8, if_neg h80]
          rw [e] at hQ
          have hg' : qs0 (vm8 L (qj6 L id) ⟨id, j4 t, []⟩) := fun x hx => by
            rcases va8 hx with rfl | hx
            · exact hco
            · exact hg x hx
          exact sub_ok w F bb last L h id hno s (j4 t) htx hl8 hL (by omega) (jm6 hg' (by simp [vm8]; omega) (by omega)) Q fun w' h1 h2 => hQ w' h1 hg' h2
def delS (L : List Su) (id : Int) : List Su := L.filter fun x => !(x.id == id)
def qe4 (L : List Su) (id : Int) : List Su × Int := if (L.any fun x => x.id == id) = true then (delS L id, 0) else (L, 5)
theorem del_at {L : List Su} (hp : L.Pairwise fun a b => a.id < b.id) {i : Nat} {x : Su} (hi : L[i]? = some x) : L.take i ++ L.drop (i + 1) = delS L x.id := by
  have hil := (List.getElem?_eq_some_iff.1 hi).1
  have hd : L = L.take i ++ x :: L.drop (i + 1) := by
    have e := List.drop_eq_getElem_cons hil
    rw [(List.getElem?_eq_some_iff.1 hi).2] at e
    rw [← e, List.take_append_drop]
  have hp' := hp
  rw [hd, List.pairwise_append, List.pairwise_cons] at hp'
  unfold delS
  conv => rhs; rw [hd]
  rw [List.filter_append, List.filter_cons_of_neg (by simp), List.filter_eq_self.2 fun a ha => ?_, List.filter_eq_self.2 fun a ha => ?_]
  · have := hp'.2.1.1 a ha
    have : a.id ≠ x.id := by omega
    simpa using this
  · have := hp'.2.2 a ha x (List.mem_cons_self ..)
    have : a.id ≠ x.id := by omega
    simpa using this
theorem vu0 {L : List Su} {id : Int} : ∀ x ∈ delS L id, x ∈ L := fun _ hx => (List.mem_filter.1 hx).1
theorem unsub_any (w : World) (F : Nat → Prop) (bb : Nat) (last : Int) (L : List Su) (h : Br w F bb last L) (hg : qs0 L) (id : Int)
    (Q : Ending → World → Prop) (hQ : ∀ w', Br w' (upF F w w') bb last (qe4 L id).1 → qs0 (qe4 L id).1 → Grow F w w' → Q (.returned (.int .i64 (qe4 L id).2)) w') :
    Calls Tryz.prog 19 #[.pointer (some ⟨bb, 0, none⟩), .int .i64 id] w Q := by
  obtain ⟨hp, h8, hprg⟩ := h.rising
  by_cases hh : (L.any fun x => x.id == id) = true
  · have e : qe4 L id = (delS L id, 0) := by unfold qe4; rw [if_pos hh]
    rw [e] at hQ
    obtain ⟨x, hx, hxi⟩ := List.any_eq_true.1 hh
    have hxi : x.id = id := by simpa using hxi
    obtain ⟨i, hi⟩ := List.getElem?_of_mem hx
    have hdel := del_at hp hi
    rw [hxi] at hdel
    have hg' : qs0 (delS L id) := fun x hx => hg x (vu0 x hx)
    have := unsub_at w F bb last L h i x hi (by
      rw [hdel]
      have hle := vu7 hg (L' := delS L id) fun x hx => ⟨x, vu0 x hx, rfl⟩
      have h80 := hprg.terms
      refine jm6 hg' (Nat.le_trans (List.length_filter_le _ _) h8) (by omega)) Q (fun w' h1 h2 => by rw [hdel] at h1; exact hQ w' h1 hg' h2)
    rw [hxi] at this
    exact this
  · have hno : ∀ x ∈ L, x.id ≠ id := fun x hx e => hh (List.any_eq_true.2 ⟨x, hx, by simpa using e⟩)
    have e : qe4 L id = (L, 5) := by unfold qe4; rw [if_neg hh]
    rw [e] at hQ
    exact (unsub_no w F bb last L h id hno).mono (by rintro e w' ⟨rfl, hb⟩; exact hQ w' (h.up hb) hg (Grow.of_below hb))
set_option maxHeartbeats 2000000 in
theorem pub_bad (w : World) (bb : Nat) (pri : Int) (ps : List Pr) (ev : Value) (hev : EvIn w ev ps) (hg : EvGood ps) (hno : ¬ (0 ≤ pri ∧ pri ≤ 9 ∧ vf9 ps = true)) :
    Calls Tryz.prog 15 #[.pointer (some ⟨bb, 0, none⟩), .int .i64 pri, ev] w fun e w' => e = .returned (.tuple #[.slice none 0 0, .slice none 0 0, .int .i64 7]) ∧ Below w.heap.size w w' := by
  have HV := v6 (vd1 hev hg)
  obtain ⟨ea, en, ec, rfl⟩ := hev.slice
  clear hev hg
  by_cases h0 : pri < 0
  · have hd0 : decide (pri < 0) = true := decide_eq_true h0
    clear hno
    go_enter Tryz.func15, Tryz.ntmps15
    go_wp2_with fail
    refine bodyPost_ret (by simp [results, Tryz.results15, go_sem] <;> rfl) rfl ?_
    exact ⟨rfl, Below.refl _ _⟩
  · have hd0 : decide (pri < 0) = false := decide_eq_false h0
    by_cases h9 : 9 < pri
    · have hd9 : decide (pri > 9) = true := decide_eq_true h9
      have hd9' : decide (9 < pri) = true := decide_eq_true h9
      clear hno
      go_enter Tryz.func15, Tryz.ntmps15
      go_wp2_with fail
      refine bodyPost_ret (by simp [results, Tryz.results15, go_sem] <;> rfl) rfl ?_
      exact ⟨rfl, Below.refl _ _⟩
    · have hd9 : decide (pri > 9) = false := decide_eq_false h9
      have hd9' : decide (9 < pri) = false := decide_eq_false h9
      have hok : vf9 ps = false := by
        cases he : vf9 ps with
        | false => rfl
        | true => exact absurd ⟨by omega, by omega, he⟩ hno
      rw [hok] at HV
      clear hno hok
      go_enter Tryz.func15, Tryz.ntmps15
      go_wp2_with (go_at_call 40; refine (q9 HV).mono ?_; rintro e w1 ⟨rfl, hb1⟩; have B1 := v6 hb1; clear hb1)
      refine bodyPost_ret (by simp [results, Tryz.results15, go_sem] <;> rfl) rfl ?_
      exact ⟨rfl, q9 B1⟩
end
section
attribute [local go_sem ↓] qd6
theorem jc9 {m : Mg} {st : List Su × List Int × List Int} {p : Nat} (h : qs0 st.1) : qs0 (qj3 m st p).1 := by
  unfold qj3
  split
  · exact h
  · rename_i x hx
    split
    · exact h
    · intro y hy
      rcases List.mem_or_eq_of_mem_set hy with hy | rfl
      · exact h y hy
      · exact h x (List.mem_of_getElem? hx)
theorem ju1 {m : Mg} : ∀ (pos : List Nat) (st : List Su × List Int × List Int), qs0 st.1 → qs0 (pos.foldl (qj3 m) st).1 := by
  intro pos
  induction pos with
  | nil => intro st h; exact h
  | cons p r ih => intro st h; exact ih _ (jc9 h)
def qy7 (L : List Su) (last pri : Int) (ps : List Pr) : (List Su × List Int × List Int) × Int × Int := if 0 ≤ pri ∧ pri ≤ 9 ∧ vf9 ps = true then (pubR ⟨pri, last + 1⟩ L (metS ps L), last + 1, 0) else ((L, [], []), last, 7)
theorem jc5 {L : List Su} {last pri : Int} {ps : List Pr} (h : qs0 L) : qs0 (qy7 L last pri ps).1.1 := by
  unfold qy7
  split
  · exact ju1 _ _ h
  · exact h
theorem pub_any (w : World) (F : Nat → Prop) (bb : Nat) (last : Int) (L : List Su) (h : Br w F bb last L) (pri : Int) (hlast : 0 ≤ last ∧ last < 4611686018427387904) (ps : List Pr) (ev : Value)
    (hev : ∀ w', Grow F w w' → EvIn w' ev ps) (hg : EvGood ps)
    (Q : Ending → World → Prop) (hQ : ∀ w' mv fv, Br w' (pubF F w w' mv fv) bb (qy7 L last pri ps).2.1 (qy7 L last pri ps).1.1 → Grow F w w' → ZsAt w' w.heap.size mv (qy7 L last pri ps).1.2.1 → ZsAt w' w.heap.size fv (qy7 L last pri ps).1.2.2 → Q (.returned (.tuple #[mv, fv, .int .i64 (qy7 L last pri ps).2.2])) w') :
    Calls Tryz.prog 15 #[.pointer (some ⟨bb, 0, none⟩), .int .i64 pri, ev] w Q := by
  by_cases hc : 0 ≤ pri ∧ pri ≤ 9 ∧ vf9 ps = true
  · have e : qy7 L last pri ps = (pubR ⟨pri, last + 1⟩ L (metS ps L), last + 1, 0) := by unfold qy7; rw [if_pos hc]
    rw [e] at hQ
    exact pub_ok w F bb last L h pri hc.1 hc.2.1 hlast ps ev hev hg hc.2.2 Q hQ
  · have e : qy7 L last pri ps = ((L, [], []), last, 7) := by unfold qy7; rw [if_neg hc]
    rw [e] at hQ
    refine (pub_bad w bb pri ps ev (hev w (Grow.of_below (Below.refl _ _))) hg hc).mono ?_
    rintro e w' ⟨rfl, hb⟩
    refine hQ w' _ _ ((h.up hb).wide (fun k hk => ⟨hk, by simp [Value.ownBlock], by simp [Value.ownBlock]⟩) fun k hk => (h.up hb).1 k hk.1) (Grow.of_below hb) (ZsAt.nil _ _) (ZsAt.nil _ _)
def popS (id : Int) (y : Su) : Su := if y.id = id then { y with ms := popM y.ms } else y
def jb6 (L : List Su) (id : Int) : List Su × Int × Int := match L.find? fun x => x.id == id with
  | some x => (L.map (popS id), headN x.ms, 0)
  | none => (L, 0, 5)
theorem set_pop {L : List Su} (hp : L.Pairwise fun a b => a.id < b.id) {i : Nat} {x : Su} (hi : L[i]? = some x) : L.set i { x with ms := popM x.ms } = L.map (popS x.id) := by
  apply List.ext_getElem?
  intro j
  rw [List.getElem?_set, List.getElem?_map]
  obtain ⟨hil, hie⟩ := List.getElem?_eq_some_iff.1 hi
  split
  · rename_i e
    subst e
    rw [hi]
    simp [popS]
  · rename_i hne
    cases hj : L[j]? with
    | none => rfl
    | some y =>
      obtain ⟨hjl, hje⟩ := List.getElem?_eq_some_iff.1 hj
      have hy : y.id ≠ x.id := by
        have hpp := List.pairwise_iff_getElem.1 hp
        rcases Nat.lt_or_gt_of_ne hne with hlt | hlt
        · have := hpp i j hil hjl hlt
          rw [hie, hje] at this
          omega
        · have := hpp j i hjl hil hlt
          rw [hie, hje] at this
          omega
      simp [popS, hy]
theorem poll_any (w : World) (F : Nat → Prop) (bb : Nat) (last : Int) (L : List Su) (h : Br w F bb last L) (id : Int)
    (Q : Ending → World → Prop) (hQ : ∀ w', Br w' (upF F w w') bb last (jb6 L id).1 → Grow F w w' → Q (.returned (.tuple #[.int .i64 (jb6 L id).2.1, .int .i64 (jb6 L id).2.2])) w') :
    Calls Tryz.prog 22 #[.pointer (some ⟨bb, 0, none⟩), .int .i64 id] w Q := by
  obtain ⟨hp, _, _⟩ := h.rising
  cases hf : L.find? fun x => x.id == id with
  | some x =>
    have e : jb6 L id = (L.map (popS id), headN x.ms, 0) := by unfold jb6; rw [hf]
    rw [e] at hQ
    have hxi : x.id = id := by simpa using List.find?_some hf
    obtain ⟨i, hi⟩ := List.getElem?_of_mem (List.mem_of_find?_eq_some hf)
    have := poll_at w F bb last L h i x hi Q (fun w' h1 h2 => by rw [set_pop hp hi, hxi] at h1; exact hQ w' h1 h2)
    rw [hxi] at this
    exact this
  | none =>
    have e : jb6 L id = (L, 0, 5) := by unfold jb6; rw [hf]
    rw [e] at hQ
    refine (poll_no w F bb last L h id (fun x hx e => ?_)).mono (by rintro e w' ⟨rfl, hb⟩; exact hQ w' (h.up hb) (Grow.of_below hb))
    have := List.find?_eq_none.1 hf x hx
    simp [e] at this
set_option maxHeartbeats 2000000 in
set_option maxRecDepth 100000 in
theorem live_any (w : World) (F : Nat → Prop) (bb : Nat) (last : Int) (L : List Su) (h : Br w F bb last L) :
    Calls Tryz.prog 16 #[.pointer (some ⟨bb, 0, none⟩)] w fun e w' => ∃ v, e = .returned v ∧ ZsAt w' w.heap.size v (L.map Su.id) ∧ Below w.heap.size w w' := by
  obtain ⟨hF, sv, tv, rv, l, hB, hL, hfoot⟩ := h
  obtain ⟨a, cp, hv, hx⟩ := SbRow.subs hB.row
  rw [List.length_map] at hv
  have hll : l.length = L.length := by rw [← hL, List.length_map]
  have hl8 : L.length ≤ 8 := by rw [← hll]; exact hB.n8
  obtain ⟨n, hn⟩ : ∃ n, L.length = n := ⟨_, rfl⟩
  rw [hll, hn] at hv
  have c1 := hB.cells.2.1
  rw [hv] at c1
  have HX : Hid (∀ k, k < n → ∃ g x core row len cap, a = some ⟨g, 0, none⟩ ∧ L[k]? = some x ∧ g < w.heap.size ∧ w.cell? ⟨g, k * 3, none⟩ = some (.int .i64 x.id) ∧ w.cell? ⟨g, k * 3 + 1, none⟩ = some (.pointer core) ∧ w.cell? ⟨g, k * 3 + 2, none⟩ = some (.slice row len cap)) := v6 (by
    intro k hk
    obtain ⟨x, hx'⟩ : ∃ x, L[k]? = some x := ⟨_, List.getElem?_eq_getElem (by omega)⟩
    obtain ⟨y, hy, hyx⟩ := getX hL hx'
    obtain ⟨g, ha, hg, e0, e1, e2⟩ := hx k y.sb (by rw [List.getElem?_map, hy]; rfl)
    have hid : y.sb.id = x.id := by rw [← hyx]; rfl
    rw [hid] at e0
    exact ⟨g, x, _, _, _, _, ha, hx', hg, e0, e1, e2⟩)
  have HNL := v6 hn
  rw [hn] at hl8
  clear hB hL hfoot hF hx hll hv hn
  go_enter Tryz.func16, Tryz.ntmps16
  go_wp2_with fail
  go_loopw [3, 11] (fun v i wr => ∃ k : Nat, k ≤ n ∧ i = .int .i64 k ∧ Hid (ZsAt wr w.heap.size v ((L.take k).map Su.id)) ∧ Hid (Below w.heap.size w wr)) (fun _ i _ => n - (intOf i).toNat)
  case atStart => exact ⟨0, Nat.zero_le _, rfl, v6 (ZsAt.nil _ _), v6 (Below.refl _ _)⟩
  case round =>
    obtain ⟨k, hk, rfl, ZA, HB⟩ := hrel
    by_cases hlt : k < n
    · obtain ⟨g, x, core, row, len, cap, rfl, hx, hg, e0, e1, e2⟩ := q9 HX k hlt
      have hb := q9 HB
      rw [← hb.cell (p := ⟨g, k * 3, none⟩) hg] at e0
      rw [← hb.cell (p := ⟨g, k * 3 + 1, none⟩) hg] at e1
      rw [← hb.cell (p := ⟨g, k * 3 + 2, none⟩) hg] at e2
      have hS : Hid ((L.take (k + 1)).map Su.id = (L.take k).map Su.id ++ [x.id]) := v6 (by rw [List.take_add_one, hx]; simp)
      obtain ⟨va, vc, rfl⟩ := (q9 ZA).form
      have hlen : ((L.take k).map Su.id).length = k := by rw [List.length_map, List.length_take, q9 HNL]; omega
      rw [hlen]
      have hz := hb.size
      obtain ⟨W1, hW1⟩ : ∃ W1, W1 = wr.alloc (.cells #[.int .i64 x.id, .pointer core, .slice row len cap] 83) := ⟨_, rfl⟩
      have hb1 : Below wr.heap.size wr W1 := by rw [hW1]; exact qs6 _ _
      have hz1 : W1.heap.size = wr.heap.size + 1 := by rw [hW1]; simp
      obtain ⟨g5, cap5, w5, r5, Z5, G5, N5⟩ := ZsAt.app (W' := W1.alloc (.cells #[.int .i64 x.id] 3)) (v9 (q9 ZA) fun j hj => hb1.block j ((q9 ZA).lt j hj).2) (by omega) x.id (by omega) 29 (wr.heap.size + 1) hz1 rfl
      rw [hlen, hW1] at r5
      rw [hlen] at Z5
      have hB5 : Hid (Below w.heap.size w w5) := v6 (by
        have h1 := v7 hb hb1
        exact h1.grown (q9 G5) h1.size fun j hj => ((q9 ZA).lt j hj).1)
      have hk0 : (0 : Int) ≤ (k : Int) := by omega
      have hk1 : (k : Int) < (n : Int) := by omega
      clear hW1 G5 N5 hb1 hz1 hb hx
      go_wp2_with fail
      exact ⟨⟨k + 1, by omega, rfl, by rw [q9 hS]; exact Z5, hB5⟩, by simp [intOf]; omega⟩
    · have hkn : k = n := by omega
      subst hkn
      have HZ : Hid (ZsAt wr w.heap.size u3 (L.map Su.id)) := v6 (by have := q9 ZA; rw [← q9 HNL, List.take_length] at this; exact this)
      clear ZA
      go_wp2_with fail
      go_ret
      exact ⟨_, rfl, q9 HZ, q9 HB⟩
end
section
theorem ZsAt.cell {w : World} {base : Nat} {v : Value} {l : List Int} (h : ZsAt w base v l) {i : Nat} {x : Int} (hi : l[i]? = some x) : ∃ g c, v = .slice (some ⟨g, 0, none⟩) l.length c ∧ w.cell? ⟨g, i, none⟩ = some (.int .i64 x) := by
  rcases qe7 h with ⟨_, h0⟩ | ⟨g, c, rfl⟩
  · have := (List.getElem?_eq_some_iff.1 hi).1
    omega
  · refine ⟨g, c, rfl, ?_⟩
    have := World.ownsRow.cells h (g := g) rfl i (.int .i64 x) (by simp [jq3, hi])
    rwa [qk4, Nat.zero_add] at this
end
section
structure HasB (w0 : World) (F : Nat → Prop) (w : World) (bb : Nat) (last : Int) (L : List Su) : Prop where
  br : Br w F bb last L
  good : qs0 L
  new : ∀ k, F k → w0.heap.size ≤ k
  below : Below w0.heap.size w0 w
theorem Grow.since {w0 w w' : World} {F : Nat → Prop} (hg : Grow F w w') (hn : ∀ k, F k → w0.heap.size ≤ k) (hb : Below w0.heap.size w0 w) : Below w0.heap.size w0 w' := by
  have := hb.size
  exact ⟨hg.os.trans hb.os, hg.tape.trans hb.tape, hg.output.trans hb.output, Nat.le_trans hb.size hg.size, fun k hk => (hg.block k (by omega) (fun e => by have := hn k e; omega)).trans (hb.block k hk)⟩
theorem HasB.op {w0 : World} {F F' : Nat → Prop} {w w' : World} {bb : Nat} {last last' : Int} {L L' : List Su} (h : HasB w0 F w bb last L) (hg : Grow F w w') (hF : ∀ k, F' k → upF F w w' k) (hb : Br w' F' bb last' L') (hgd : qs0 L') : HasB w0 F' w' bb last' L' := by
  have := h.below.size
  refine ⟨hb, hgd, fun k hk => ?_, hg.since h.new h.below⟩
  rcases hF k hk with e | e
  · exact h.new k e
  · omega
theorem HasB.keep {w0 : World} {F : Nat → Prop} {w w' : World} {bb : Nat} {last : Int} {L : List Su} (h : HasB w0 F w bb last L) (hb : Below w.heap.size w w') : HasB w0 F w' bb last L :=
  ⟨h.br.below hb, h.good, h.new, h.below.trans (hb.mono h.below.size)⟩
theorem HasB.event {w0 : World} {F : Nat → Prop} {w : World} {bb : Nat} {last : Int} {L : List Su} (h : HasB w0 F w bb last L) {ev : Value} {ps : List Pr} (he : EvIn w0 ev ps) : ∀ w', Grow F w w' → EvIn w' ev ps := fun _ hg => he.below (hg.since h.new h.below)
theorem jp9 (w : World) : HasB w (fun k => k = w.heap.size) (w.alloc (.cells #[.int .i64 0, .slice none 0 0, .slice none 0 0, .slice none 0 0] 67)) w.heap.size 0 [] := by
  refine ⟨⟨fun k hk => by simp; omega, .slice none 0 0, .slice none 0 0, .slice none 0 0, [], ⟨heap_alloc_new w _, World.ownsRow_nil _ _ _ _, ⟨TsAt.nil _ _, IsAt.nil _ _, fun g hg => by simp [Value.ownBlock] at hg⟩, fun x hx => by simp at hx, List.Pairwise.nil, fun x hx => by simp at hx, fun x hx => by simp at hx, List.Pairwise.nil, Nat.zero_le _, fun x hx => by simp at hx, ⟨Nat.zero_le _, Nat.zero_le _, fun i t h => by simp [tsX, qh7] at h, fun r hr => by simp [rsX, qh7] at hr⟩⟩, rfl, fun k hk => ?_⟩, fun x hx => by simp at hx, fun k hk => by omega, qs6 _ _⟩
  rcases hk with (e | e | e | e | ⟨x, hx, _⟩) | ⟨x, hx, _⟩
  · exact e
  · simp [Value.ownBlock] at e
  · simp [Value.ownBlock] at e
  · simp [Value.ownBlock] at e
  · simp at hx
  · simp at hx
def ABr (w0 w : World) (bb : Nat) (last : Int) (L : List Su) : Prop := ∃ F, HasB w0 F w bb last L
theorem ABr.keep {w0 w w' : World} {bb : Nat} {last : Int} {L : List Su} (h : ABr w0 w bb last L) (hb : Below w.heap.size w w') : ABr w0 w' bb last L := by
  obtain ⟨F, h⟩ := h
  exact ⟨F, h.keep hb⟩
theorem ABr.below {w0 w : World} {bb : Nat} {last : Int} {L : List Su} (h : ABr w0 w bb last L) : Below w0.heap.size w0 w := by
  obtain ⟨F, h⟩ := h
  exact h.below
section
variable {w0 w : World} {bb : Nat} {last : Int} {L : List Su}
theorem ab_sub (h : ABr w0 w bb last L) (hL : LibOk w0) (id : Int) (s : List UInt8) (hs : s.length ≤ 140737488355328) : Calls Tryz.prog 12 #[.pointer (some ⟨bb, 0, none⟩), .int .i64 id, .string (BS s)] w fun e w' => e = .returned (.tuple #[.int .i64 (qc6 L id s).2.1, .int .i64 (qc6 L id s).2.2]) ∧ ABr w0 w' bb last (qc6 L id s).1 := by
  obtain ⟨F, h⟩ := h
  exact sub_any w F bb last L h.br h.good id s hs (hL.below h.below (Nat.le_refl _)) _ fun w' h1 h2 h3 => ⟨rfl, _, h.op h3 (fun _ hk => hk) h1 h2⟩
end
end
section
def k3 (ms : List Mg) : Su := ⟨3, gtC 4, ms⟩
def k1 : Su := ⟨-1, gtC 5, []⟩
set_option maxRecDepth 100000 in
theorem known_one : qc6 [] 3 jj8 = ([k3 []], 0, 0) := by kernel_rfl
set_option maxRecDepth 100000 in
theorem known_two : qc6 [k3 []] (-1) jg3 = ([k1, k3 []], 0, 0) := by kernel_rfl
set_option maxRecDepth 100000 in
theorem known_pub : qy7 [k1, k3 []] 0 2 evs = (([k1, k3 (vp4 [] ⟨2, 1⟩)], [3], []), 1, 0) := by kernel_rfl
theorem jy9 : jb6 [k1, k3 (vp4 [] ⟨2, 1⟩)] 3 = ([k1, k3 (popM (vp4 [] ⟨2, 1⟩))], 1, 0) := by kernel_rfl
set_option maxHeartbeats 2000000 in
set_option maxRecDepth 100000 in
theorem known_any (w : World) (hL : LibOk w) : Calls Tryz.prog 9 #[] w fun e w' => e = .returned (.bool true) ∧ Below w.heap.size w w' := by
  have RU := v6 (runs_any w hL)
  have NEW : Hid (∀ w2, Below w.heap.size w w2 → Calls Tryz.prog 10 #[] w2 fun e w' => e = .returned (.pointer (some ⟨w2.heap.size, 0, none⟩)) ∧ Hid (ABr w2 w' w2.heap.size 0 [])) := v6 fun w2 _ => (new_any w2).mono (by rintro e w' ⟨rfl, rfl⟩; exact ⟨rfl, v6 ⟨_, jp9 w2⟩⟩)
  have S1 : Hid (∀ w2 U, Below w.heap.size w w2 → ABr w2 U w2.heap.size 0 [] → Calls Tryz.prog 12 #[.pointer (some ⟨w2.heap.size, 0, none⟩), .int .i64 3, .string ⟨#[97, 32, 62, 32, 52]⟩] U fun e w' => e = .returned (.tuple #[.int .i64 0, .int .i64 0]) ∧ Hid (ABr w2 w' w2.heap.size 0 [k3 []])) := v6 fun w2 U hb hU => (ab_sub hU (hL.below hb (Nat.le_refl _)) 3 jj8 (by decide)).mono (by rw [known_one]; rintro e w' ⟨rfl, h⟩; exact ⟨rfl, v6 h⟩)
  have S2 : Hid (∀ w2 U, Below w.heap.size w w2 → ABr w2 U w2.heap.size 0 [k3 []] → Calls Tryz.prog 12 #[.pointer (some ⟨w2.heap.size, 0, none⟩), .int .i64 (-1), .string ⟨#[97, 32, 62, 32, 53]⟩] U fun e w' => e = .returned (.tuple #[.int .i64 0, .int .i64 0]) ∧ Hid (ABr w2 w' w2.heap.size 0 [k1, k3 []])) := v6 fun w2 U hb hU => (ab_sub hU (hL.below hb (Nat.le_refl _)) (-1) jg3 (by decide)).mono (by rw [known_two]; rintro e w' ⟨rfl, h⟩; exact ⟨rfl, v6 h⟩)
  have PB : Hid (∀ w2 U ev, EvIn w2 ev evs → ABr w2 U w2.heap.size 0 [k1, k3 []] → Calls Tryz.prog 15 #[.pointer (some ⟨w2.heap.size, 0, none⟩), .int .i64 2, ev] U fun e w' => ∃ g c fa fc, e = .returned (.tuple #[.slice (some ⟨g, 0, none⟩) 1 c, .slice fa 0 fc, .int .i64 0]) ∧ Hid (Calls Tryz.prog 22 #[.pointer (some ⟨w2.heap.size, 0, none⟩), .int .i64 3] w' fun e w'' => e = .returned (.tuple #[.int .i64 1, .int .i64 0]) ∧ w''.cell? ⟨g, 0, none⟩ = some (.int .i64 3) ∧ Hid (Below w2.heap.size w2 w''))) := v6 (by
    intro w2 U ev he hU
    obtain ⟨F, h⟩ := hU
    refine pub_any U F w2.heap.size 0 _ h.br 2 ⟨by decide, by decide⟩ evs ev (h.event he) vh7 _ fun w' mv fv h1 h2 h3 h4 => ?_
    have hb := h.op h2 (fun _ hk => hk.1) h1 (jc5 h.good)
    rw [known_pub] at hb h3 h4 ⊢
    obtain ⟨g, c, rfl, hc⟩ := h3.cell (i := 0) (x := 3) rfl
    obtain ⟨fa, fc, rfl⟩ := h4.form
    refine ⟨g, c, fa, fc, rfl, v6 ?_⟩
    refine poll_any w' _ w2.heap.size 1 _ hb.br 3 _ fun w'' q1 q2 => ?_
    rw [jy9]
    refine ⟨rfl, ?_, v6 (q2.since hb.new hb.below)⟩
    rw [World.cell?_of_block (a := ⟨g, 0, none⟩) (q2.block g (h3.lt g rfl).2 (fun e => e.2.1 rfl))]
    exact hc)
  clear hL
  go_enter Tryz.func9, Tryz.ntmps9
  go_wp2_with (first | (go_at_call 26; refine (q9 RU).mono ?_; rintro e w1 ⟨rfl, hb1⟩; have B1 := v6 hb1; clear hb1) | (go_at_call 27; refine (vj8 _).mono ?_; rintro e w2 ⟨rfl, hw2⟩; have E2 : Hid (EvIn w2 (.slice (some ⟨w1.heap.size, 0, none⟩) 1 1) evs) := v6 (by rw [hw2]; exact jp4 (w := w1) (Below.refl _ _)); have B2 : Hid (Below w.heap.size w w2) := v6 (v7 (q9 B1) (by rw [hw2]; exact (Below.refl _ _).alloc (Nat.le_refl _) _)); clear hw2) | (go_at_call 10; refine (q9 NEW _ (q9 B2)).mono ?_; rintro e w3 ⟨rfl, A3⟩) | (go_at_call 12; refine (q9 S1 _ _ (q9 B2) (q9 A3)).mono ?_; clear S1; rintro e w4 ⟨rfl, A4⟩) | (go_at_call 12; refine (q9 S2 _ _ (q9 B2) (q9 A4)).mono ?_; clear S2; rintro e w5 ⟨rfl, A5⟩) | (go_at_call 15; refine (q9 PB _ _ _ (q9 E2) (q9 A5)).mono ?_; rintro e w6 ⟨g6, c6, fa6, fc6, rfl, P6⟩) | (go_at_call 22; refine (q9 P6).mono ?_; rintro e w7 ⟨rfl, d7, B7⟩))
  go_ret
  exact ⟨rfl, v7 (q9 B2) (q9 B7)⟩
end
end Go.Proofs.YtfkcaldjphakpabGreatDoor
