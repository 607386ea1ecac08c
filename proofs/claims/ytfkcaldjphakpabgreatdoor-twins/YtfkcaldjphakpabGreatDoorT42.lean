/- Three brokers beside one another, and rows of numbers beside them. Twins of any scripts and any event. A script as an argument of a law. -/
import Derived.Test.YtfkcaldjphakpabGreatDoorT41
import Derived.Test.YtfkcaldjphakpabGreatDoorT40
import Derived.Test.YtfkcaldjphakpabGreatDoorT43
import Derived.Lib.SmallJoins
namespace Go.Proofs.YtfkcaldjphakpabGreatDoor
open Go.RowKit
section
abbrev Bs := List Su × Int
structure TriF (w0 W : World) (Fa Fb Fc : Nat → Prop) (A B C : Nat) (sa sb sc : Bs) (R : List (Value × List Int)) : Prop where
  a : HasB w0 Fa W A sa.2 sa.1
  b : HasB w0 Fb W B sb.2 sb.1
  c : HasB w0 Fc W C sc.2 sc.1
  ab : ∀ k, Fa k → ¬ Fb k
  ac : ∀ k, Fa k → ¬ Fc k
  bc : ∀ k, Fb k → ¬ Fc k
  rows : ∀ r ∈ R, ZsAt W w0.heap.size r.1 r.2 ∧ ∀ k, r.1.ownBlock = some k → ¬ Fa k ∧ ¬ Fb k ∧ ¬ Fc k
def Tri (w0 W : World) (A B C : Nat) (sa sb sc : Bs) (R : List (Value × List Int)) : Prop := ∃ Fa Fb Fc, TriF w0 W Fa Fb Fc A B C sa sb sc R
theorem TriF.swap {w0 W : World} {Fa Fb Fc : Nat → Prop} {A B C : Nat} {sa sb sc : Bs} {R : List (Value × List Int)} (h : TriF w0 W Fa Fb Fc A B C sa sb sc R) : TriF w0 W Fb Fa Fc B A C sb sa sc R :=
  ⟨h.b, h.a, h.c, fun k hk e => h.ab k e hk, h.bc, h.ac, fun r hr => ⟨(h.rows r hr).1, fun k hk => by obtain ⟨x, y, z⟩ := (h.rows r hr).2 k hk; exact ⟨y, x, z⟩⟩⟩
theorem TriF.turn {w0 W : World} {Fa Fb Fc : Nat → Prop} {A B C : Nat} {sa sb sc : Bs} {R : List (Value × List Int)} (h : TriF w0 W Fa Fb Fc A B C sa sb sc R) : TriF w0 W Fc Fb Fa C B A sc sb sa R :=
  ⟨h.c, h.b, h.a, fun k hk e => h.bc k e hk, fun k hk e => h.ac k e hk, fun k hk e => h.ab k e hk, fun r hr => ⟨(h.rows r hr).1, fun k hk => by obtain ⟨x, y, z⟩ := (h.rows r hr).2 k hk; exact ⟨z, y, x⟩⟩⟩
theorem Tri.swap {w0 W : World} {A B C : Nat} {sa sb sc : Bs} {R : List (Value × List Int)} (h : Tri w0 W A B C sa sb sc R) : Tri w0 W B A C sb sa sc R := by
  obtain ⟨Fa, Fb, Fc, h⟩ := h
  exact ⟨_, _, _, h.swap⟩
theorem Tri.turn {w0 W : World} {A B C : Nat} {sa sb sc : Bs} {R : List (Value × List Int)} (h : Tri w0 W A B C sa sb sc R) : Tri w0 W C B A sc sb sa R := by
  obtain ⟨Fa, Fb, Fc, h⟩ := h
  exact ⟨_, _, _, h.turn⟩
theorem TriF.op {w0 W W' : World} {Fa Fb Fc F' : Nat → Prop} {A B C : Nat} {sa sb sc sa' : Bs} {R : List (Value × List Int)} (h : TriF w0 W Fa Fb Fc A B C sa sb sc R) (hg : Grow Fa W W') (hF : ∀ k, F' k → upF Fa W W' k) (ha : HasB w0 F' W' A sa'.2 sa'.1) : TriF w0 W' F' Fb Fc A B C sa' sb sc R := by
  refine ⟨ha, h.b.beside hg h.a.new fun k hk e => h.ab k e hk, h.c.beside hg h.a.new fun k hk e => h.ac k e hk, fun k hk e => ?_, fun k hk e => ?_, h.bc, fun r hr => ?_⟩
  · rcases hF k hk with e' | e'
    · exact h.ab k e' e
    · have := h.b.br.1 k e; omega
  · rcases hF k hk with e' | e'
    · exact h.ac k e' e
    · have := h.c.br.1 k e; omega
  · obtain ⟨h1, h2⟩ := h.rows r hr
    refine ⟨v9 h1 fun k hk => hg.block k (h1.lt k hk).2 (h2 k hk).1, fun k hk => ⟨fun e => ?_, (h2 k hk).2⟩⟩
    rcases hF k e with e' | e'
    · exact (h2 k hk).1 e'
    · have := (h1.lt k hk).2; omega
theorem TriF.keep {w0 W W' : World} {Fa Fb Fc : Nat → Prop} {A B C : Nat} {sa sb sc : Bs} {R : List (Value × List Int)} (h : TriF w0 W Fa Fb Fc A B C sa sb sc R) (hb : Below W.heap.size W W') : TriF w0 W' Fa Fb Fc A B C sa sb sc R :=
  ⟨h.a.keep hb, h.b.keep hb, h.c.keep hb, h.ab, h.ac, h.bc, fun r hr => ⟨v9 (h.rows r hr).1 fun k hk => hb.block k ((h.rows r hr).1.lt k hk).2, (h.rows r hr).2⟩⟩
theorem Tri.keep {w0 W W' : World} {A B C : Nat} {sa sb sc : Bs} {R : List (Value × List Int)} (h : Tri w0 W A B C sa sb sc R) (hb : Below W.heap.size W W') : Tri w0 W' A B C sa sb sc R := by
  obtain ⟨Fa, Fb, Fc, h⟩ := h
  exact ⟨_, _, _, h.keep hb⟩
theorem Tri.below {w0 W : World} {A B C : Nat} {sa sb sc : Bs} {R : List (Value × List Int)} (h : Tri w0 W A B C sa sb sc R) : Below w0.heap.size w0 W := by
  obtain ⟨Fa, Fb, Fc, h⟩ := h
  exact h.a.below
theorem Tri.row {w0 W : World} {A B C : Nat} {sa sb sc : Bs} {R : List (Value × List Int)} (h : Tri w0 W A B C sa sb sc R) {r : Value × List Int} (hr : r ∈ R) : ZsAt W w0.heap.size r.1 r.2 := by
  obtain ⟨Fa, Fb, Fc, h⟩ := h
  exact (h.rows r hr).1
section
variable {w0 W : World} {A B C : Nat} {sa sb sc : Bs} {R : List (Value × List Int)}
theorem vv4 (h : Tri w0 W A B C sa sb sc R) (hL : LibOk w0) (hl : 0 ≤ sa.2 ∧ sa.2 ≤ 1000000000000000) (l : List Sc) (sv : Value) (hs : ScrAt w0 sv l) : Calls Tryz.prog 11 #[.pointer (some ⟨A, 0, none⟩), sv] W fun e W' => ∃ a n c, e = .returned (.slice a n c) ∧ Tri w0 W' A B C ((doR l (sa.1, sa.2, [])).1, (doR l (sa.1, sa.2, [])).2.1) sb sc R := by
  obtain ⟨Fa, Fb, Fc, h⟩ := h
  refine (does_any w0 W Fa A sa.2 sa.1 h.a hL hl l sv hs).mono ?_
  rintro e W' ⟨a, c, rfl, F', q0, q1, q2, _⟩
  exact ⟨a, _, c, rfl, F', Fb, Fc, h.op q2 q1 q0⟩
theorem jp4 (h : Tri w0 W A B C sa sb sc R) (id : Int) : Calls Tryz.prog 22 #[.pointer (some ⟨A, 0, none⟩), .int .i64 id] W fun e W' => e = .returned (.tuple #[.int .i64 (qy1 sa.1 id).2.1, .int .i64 (qy1 sa.1 id).2.2]) ∧ Tri w0 W' A B C ((qy1 sa.1 id).1, sa.2) sb sc R := by
  obtain ⟨Fa, Fb, Fc, h⟩ := h
  refine jn2 W Fa A sa.2 sa.1 h.a.br id _ fun W' h1 h2 => ⟨rfl, upF Fa W W', Fb, Fc, h.op h2 (fun _ hk => hk) (h.a.op h2 (fun _ hk => hk) h1 (jv7 h.a.good))⟩
theorem tri_pub (h : Tri w0 W A B C sa sb sc R) (pri : Int) (hl : 0 ≤ sa.2 ∧ sa.2 < 4611686018427387904) {ps : List Pr} {ev : Value} (he : EvIn w0 ev ps) (hg : EvGood ps) : Calls Tryz.prog 15 #[.pointer (some ⟨A, 0, none⟩), .int .i64 pri, ev] W fun e W' => ∃ mv fv, e = .returned (.tuple #[mv, fv, .int .i64 (qs3 sa.1 sa.2 pri ps).2.2]) ∧ Tri w0 W' A B C ((qs3 sa.1 sa.2 pri ps).1.1, (qs3 sa.1 sa.2 pri ps).2.1) sb sc ((mv, (qs3 sa.1 sa.2 pri ps).1.2.1) :: (fv, (qs3 sa.1 sa.2 pri ps).1.2.2) :: R) := by
  obtain ⟨Fa, Fb, Fc, h⟩ := h
  refine ji0 W Fa A sa.2 sa.1 h.a.br pri hl ps ev (h.a.event he) hg _ fun W' mv fv h1 h2 h3 h4 => ⟨mv, fv, rfl, pubF Fa W W' mv fv, Fb, Fc, ?_⟩
  have t := h.op (sa' := ((qs3 sa.1 sa.2 pri ps).1.1, (qs3 sa.1 sa.2 pri ps).2.1)) h2 (fun _ hk => hk.1) (h.a.op h2 (fun _ hk => hk.1) h1 (vj5 h.a.good))
  have hz := h.a.below.size
  refine ⟨t.a, t.b, t.c, t.ab, t.ac, t.bc, fun r hr => ?_⟩
  rcases List.mem_cons.1 hr with rfl | hr
  · refine ⟨y9 h3 hz, fun k hk => ⟨fun e => e.2.1 hk, fun e => ?_, fun e => ?_⟩⟩
    · have := (h3.lt k hk).1; have := h.b.br.1 k e; omega
    · have := (h3.lt k hk).1; have := h.c.br.1 k e; omega
  · rcases List.mem_cons.1 hr with rfl | hr
    · refine ⟨y9 h4 hz, fun k hk => ⟨fun e => e.2.2 hk, fun e => ?_, fun e => ?_⟩⟩
      · have := (h4.lt k hk).1; have := h.b.br.1 k e; omega
      · have := (h4.lt k hk).1; have := h.c.br.1 k e; omega
    · exact t.rows r hr
end
theorem tri_new {w0 w1 w2 w3 : World} (e1 : w1 = w0.alloc (.cells #[.int .i64 0, .slice none 0 0, .slice none 0 0, .slice none 0 0] 67)) (e2 : w2 = w1.alloc (.cells #[.int .i64 0, .slice none 0 0, .slice none 0 0, .slice none 0 0] 67)) (e3 : w3 = w2.alloc (.cells #[.int .i64 0, .slice none 0 0, .slice none 0 0, .slice none 0 0] 67)) :
    Tri w0 w3 w0.heap.size w1.heap.size w2.heap.size ([], 0) ([], 0) ([], 0) [] := by
  have b1 : Below w0.heap.size w0 w1 := by rw [e1]; exact qq0 _ _
  have b2 : Below w1.heap.size w1 w2 := by rw [e2]; exact qq0 _ _
  have b3 : Below w2.heap.size w2 w3 := by rw [e3]; exact qq0 _ _
  have z1 : w1.heap.size = w0.heap.size + 1 := by rw [e1]; simp
  have z2 : w2.heap.size = w1.heap.size + 1 := by rw [e2]; simp
  have lift : ∀ {u v x : World} {F : Nat → Prop} {bb : Nat}, HasB u F v bb 0 [] → Below w0.heap.size w0 u → HasB w0 F v bb 0 [] := fun h hb => ⟨h.br, h.good, fun k hk => Nat.le_trans hb.size (h.new k hk), hb.trans (h.below.mono hb.size)⟩
  have h1 := vg4 w0
  rw [← e1] at h1
  have h2 := vg4 w1
  rw [← e2] at h2
  have h3 := vg4 w2
  rw [← e3] at h3
  refine ⟨_, _, _, (h1.keep b2).keep b3, (lift (x := w0) h2 b1).keep b3, lift (x := w0) h3 (v7 b1 b2), fun k hk e => ?_, fun k hk e => ?_, fun k hk e => ?_, fun r hr => by simp at hr⟩
  · have a : k = w0.heap.size := hk
    have b : k = w1.heap.size := e
    omega
  · have a : k = w0.heap.size := hk
    have b : k = w2.heap.size := e
    omega
  · have a : k = w1.heap.size := hk
    have b : k = w2.heap.size := e
    omega
end
section
theorem jh8 (m : Mg) (pos : List Nat) (st : List Su × List Int × List Int) : (pos.foldl (qg7 m) st).2.1.length ≤ st.2.1.length + pos.length ∧ (pos.foldl (qg7 m) st).2.2.length ≤ st.2.2.length + pos.length := by
  induction pos generalizing st with
  | nil => simp
  | cons p pos ih =>
    have h := ih (qg7 m st p)
    have e : (qg7 m st p).2.1.length ≤ st.2.1.length + 1 ∧ (qg7 m st p).2.2.length ≤ st.2.2.length + 1 := by
      unfold qg7
      split
      · omega
      · split <;> simp
    simp only [List.foldl_cons, List.length_cons]
    omega
theorem pubA_len {L : List Su} (last pri : Int) (ps : List Pr) (h8 : L.length ≤ 8) : (qs3 L last pri ps).1.2.1.length ≤ 8 ∧ (qs3 L last pri ps).1.2.2.length ≤ 8 := by
  unfold qs3
  split
  · have h := jh8 ⟨pri, last + 1⟩ (metS ps L) (L, [], [])
    have := vi8 ps L
    simp at h
    unfold pubR
    simp only
    omega
  · simp
section
variable {w0 W : World} {A B C : Nat} {sa sb sc : Bs} {R : List (Value × List Int)}
theorem Tri.eight (h : Tri w0 W A B C sa sb sc R) : sa.1.length ≤ 8 := by
  obtain ⟨Fa, Fb, Fc, h⟩ := h
  exact h.a.br.rising.2.1
theorem jp5 (h : Tri w0 W A B C sa sb sc R) {u v : Value} {l : List Int} (hu : (u, l) ∈ R) (hv : (v, l) ∈ R) (h8 : l.length ≤ 1000) : Calls Tryz.prog 17 #[u, v] W fun e W' => e = .returned (.bool true) ∧ Tri w0 W' A B C sa sb sc R :=
  (sameZ l u v _ _ W (h.row hu) (h.row hv) h8).mono (by rintro e W' ⟨rfl, hb⟩; exact ⟨rfl, h.keep hb⟩)
end
theorem jp7 (l : List Sc) : twS l 0 = ([], 0) := by simp [twS, doK]
theorem vv5 (l : List Sc) (k : Nat) : 0 ≤ (twS l k).2 ∧ (twS l k).2 ≤ k := by
  have := doK_len l ([], 0, []) (by decide) k
  unfold twS
  simp at this ⊢
  omega
set_option maxHeartbeats 8000000 in
set_option maxRecDepth 100000 in
theorem twins_all (l1 l2 : List Sc) (u1 u2 : Value) (ps : List Pr) (ev : Value) (w : World) (h1 : ScrAt w u1 l1) (h2 : ScrAt w u2 l2) (he : EvIn w ev ps) (hg : EvGood ps) (hL : LibOk w) : Calls Tryz.prog 7 #[u1, u2, ev] w fun e w' => e = .returned (.bool true) ∧ Below w.heap.size w w' := by
  have KN := v6 (known_any w hL)
  have NEW : Hid (∀ w1, Calls Tryz.prog 10 #[] w1 fun e w' => ∃ A, e = .returned (.pointer (some ⟨A, 0, none⟩)) ∧ Hid (A = w1.heap.size ∧ w' = w1.alloc (.cells #[.int .i64 0, .slice none 0 0, .slice none 0 0, .slice none 0 0] 67))) := v6 fun w1 => (new_any w1).mono (by rintro e w' ⟨rfl, rfl⟩; exact ⟨_, rfl, v6 ⟨rfl, rfl⟩⟩)
  obtain ⟨ea, en, ec, rfl⟩ := he.slice
  obtain ⟨a1, n1, c1, rfl⟩ : ∃ a n c, u1 = .slice a n c := by
    obtain ⟨a, cap, hv, _⟩ := h1
    exact ⟨a, _, cap, hv⟩
  obtain ⟨a2, n2, c2, rfl⟩ : ∃ a n c, u2 = .slice a n c := by
    obtain ⟨a, cap, hv, _⟩ := h2
    exact ⟨a, _, cap, hv⟩
  have hn1 : n1 = l1.length ∧ n1 ≤ 2600000000000 := by
    obtain ⟨a, cap, hv, h, _⟩ := h1
    simp at hv
    omega
  have hn2 : n2 = l2.length ∧ n2 ≤ 2600000000000 := by
    obtain ⟨a, cap, hv, h, _⟩ := h2
    simp at hv
    omega
  obtain ⟨hn1, hz1⟩ := hn1
  obtain ⟨hn2, hz2⟩ := hn2
  have HN1 := v6 hn1
  have HN2 := v6 hn2
  have H1 := v6 h1
  have H2 := v6 h2
  have HE := v6 he
  have HG := v6 hg
  have HL := v6 hL
  clear hL h1 h2 he hg hn1 hn2
  go_enter Tryz.func7, Tryz.ntmps7
  go_wp2_with (first | (go_at_call 9; refine (q9 KN).mono ?_; clear KN; rintro e w1 ⟨rfl, hb1⟩; have B1 := v6 hb1; clear hb1) | (go_at_call 10; refine (q9 NEW w3).mono ?_; clear NEW; rintro e w4 ⟨C, rfl, N4⟩) | (go_at_call 10; refine (q9 NEW w2).mono ?_; rintro e w3 ⟨B, rfl, N3⟩) | (go_at_call 10; refine (q9 NEW w1).mono ?_; rintro e w2 ⟨A, rfl, N2⟩))
  have T0 : Hid (Tri w1 w4 A B C (twS l1 0) (twS l2 0) ([], 0) []) := v6 (by
    rw [jp7, jp7]
    rw [(q9 N2).1, (q9 N3).1, (q9 N4).1]
    exact tri_new (q9 N2).2 (q9 N3).2 (q9 N4).2)
  have DA : Hid (∀ W k k2 x sv, l1[k]? = some x → ScrAt w sv [x] → Tri w1 W A B C (twS l1 k) (twS l2 k2) ([], 0) [] → Calls Tryz.prog 11 #[.pointer (some ⟨A, 0, none⟩), sv] W fun e W' => ∃ a n c, e = .returned (.slice a n c) ∧ Hid (Tri w1 W' A B C (twS l1 (k + 1)) (twS l2 k2) ([], 0) [])) := v6 (by
    intro W k k2 x sv hx hs hT
    have hk := (List.getElem?_eq_some_iff.1 hx).1
    have hl := vv5 l1 k
    refine (vv4 hT ((q9 HL).below (q9 B1) (Nat.le_refl _)) ⟨hl.1, by have := q9 HN1; omega⟩ [x] sv (hs.below (q9 B1))).mono ?_
    rintro e W' ⟨a, n, c, rfl, h⟩
    rw [← jp6 hx] at h
    exact ⟨a, n, c, rfl, v6 h⟩)
  have DB : Hid (∀ W k k1 x sv, l2[k]? = some x → ScrAt w sv [x] → Tri w1 W A B C (twS l1 k1) (twS l2 k) ([], 0) [] → Calls Tryz.prog 11 #[.pointer (some ⟨B, 0, none⟩), sv] W fun e W' => ∃ a n c, e = .returned (.slice a n c) ∧ Hid (Tri w1 W' A B C (twS l1 k1) (twS l2 (k + 1)) ([], 0) [])) := v6 (by
    intro W k k2 x sv hx hs hT
    have hk := (List.getElem?_eq_some_iff.1 hx).1
    have hl := vv5 l2 k
    refine (vv4 hT.swap ((q9 HL).below (q9 B1) (Nat.le_refl _)) ⟨hl.1, by have := q9 HN2; omega⟩ [x] sv (hs.below (q9 B1))).mono ?_
    rintro e W' ⟨a, n, c, rfl, h⟩
    rw [← jp6 hx] at h
    exact ⟨a, n, c, rfl, v6 h.swap⟩)
  obtain ⟨s0, hs0⟩ : ∃ s0, twS l1 n1 = s0 := ⟨_, rfl⟩
  obtain ⟨sb, hsb⟩ : ∃ sb, twS l2 n2 = sb := ⟨_, rfl⟩
  have DC : Hid (∀ W, Tri w1 W A B C s0 sb ([], 0) [] → Calls Tryz.prog 11 #[.pointer (some ⟨C, 0, none⟩), .slice a1 n1 c1] W fun e W' => ∃ a n c, e = .returned (.slice a n c) ∧ Hid (Tri w1 W' A B C s0 sb s0 [])) := v6 (by
    intro W hT
    refine (vv4 hT.turn ((q9 HL).below (q9 B1) (Nat.le_refl _)) ⟨by decide, by decide⟩ l1 _ ((q9 H1).below (q9 B1))).mono ?_
    rintro e W' ⟨a, n, c, rfl, h⟩
    rw [← twS_all, ← q9 HN1, hs0] at h
    exact ⟨a, n, c, rfl, v6 h.turn⟩)
  obtain ⟨P, hP⟩ : ∃ P, qs3 s0.1 s0.2 3 ps = P := ⟨_, rfl⟩
  obtain ⟨s1, hs1⟩ : ∃ s1 : Bs, (P.1.1, P.2.1) = s1 := ⟨_, rfl⟩
  obtain ⟨xs, hxs⟩ : ∃ xs, P.1.2.1 = xs := ⟨_, rfl⟩
  obtain ⟨fs, hfs⟩ : ∃ fs, P.1.2.2 = fs := ⟨_, rfl⟩
  obtain ⟨er, her⟩ : ∃ er, P.2.2 = er := ⟨_, rfl⟩
  obtain ⟨nx, hnx⟩ : ∃ nx, xs.length = nx := ⟨_, rfl⟩
  obtain ⟨nf, hnf⟩ : ∃ nf, fs.length = nf := ⟨_, rfl⟩
  have hl0 : 0 ≤ s0.2 ∧ s0.2 < 4611686018427387904 := by
    have := vv5 l1 n1
    rw [hs0] at this
    omega
  have PA : Hid (∀ W, Tri w1 W A B C s0 sb s0 [] → Calls Tryz.prog 15 #[.pointer (some ⟨A, 0, none⟩), .int .i64 3, .slice ea en ec] W fun e W' => ∃ xa xc fa fc, e = .returned (.tuple #[.slice xa nx xc, .slice fa nf fc, .int .i64 er]) ∧ Hid (nx ≤ 8 ∧ nf ≤ 8 ∧ Tri w1 W' A B C s1 sb s0 [(.slice xa nx xc, xs), (.slice fa nf fc, fs)])) := v6 (by
    intro W hT
    have h8 := pubA_len s0.2 3 ps hT.eight
    refine (tri_pub hT 3 hl0 ((q9 HE).below (q9 B1)) (q9 HG)).mono ?_
    rw [hP, hs1, hxs, hfs, her]
    rw [hP, hxs, hfs, hnx, hnf] at h8
    rintro e W' ⟨mv, fv, rfl, h⟩
    obtain ⟨xa, xc, rfl⟩ : ∃ xa xc, mv = .slice xa xs.length xc := (h.row (r := (mv, xs)) (by simp)).form
    obtain ⟨fa, fc, rfl⟩ : ∃ fa fc, fv = .slice fa fs.length fc := (h.row (r := (fv, fs)) (by simp)).form
    rw [hnx, hnf] at h ⊢
    exact ⟨xa, xc, fa, fc, rfl, v6 ⟨h8.1, h8.2, h⟩⟩)
  have PC : Hid (∀ W R, Tri w1 W A B C s1 sb s0 R → Calls Tryz.prog 15 #[.pointer (some ⟨C, 0, none⟩), .int .i64 3, .slice ea en ec] W fun e W' => ∃ xa xc fa fc, e = .returned (.tuple #[.slice xa nx xc, .slice fa nf fc, .int .i64 er]) ∧ Hid (Tri w1 W' A B C s1 sb s1 ((.slice xa nx xc, xs) :: (.slice fa nf fc, fs) :: R))) := v6 (by
    intro W R hT
    refine (tri_pub hT.turn 3 hl0 ((q9 HE).below (q9 B1)) (q9 HG)).mono ?_
    rw [hP, hs1, hxs, hfs, her]
    rintro e W' ⟨mv, fv, rfl, h⟩
    obtain ⟨xa, xc, rfl⟩ : ∃ xa xc, mv = .slice xa xs.length xc := (h.row (r := (mv, xs)) (by simp)).form
    obtain ⟨fa, fc, rfl⟩ : ∃ fa fc, fv = .slice fa fs.length fc := (h.row (r := (fv, fs)) (by simp)).form
    rw [hnx, hnf] at h ⊢
    exact ⟨xa, xc, fa, fc, rfl, v6 h.turn⟩)
  have SX : Hid (∀ W R xa xc ya yc, nx ≤ 8 → (Value.slice xa nx xc, xs) ∈ R → (Value.slice ya nx yc, xs) ∈ R → Tri w1 W A B C s1 sb s1 R → Calls Tryz.prog 17 #[.slice xa nx xc, .slice ya nx yc] W fun e W' => e = .returned (.bool true) ∧ Hid (Tri w1 W' A B C s1 sb s1 R)) := v6 fun W R xa xc ya yc h8 h1 h2 hT => (jp5 hT h1 h2 (by omega)).mono (by rintro e W' ⟨rfl, h⟩; exact ⟨rfl, v6 h⟩)
  have SF : Hid (∀ W R xa xc ya yc, nf ≤ 8 → (Value.slice xa nf xc, fs) ∈ R → (Value.slice ya nf yc, fs) ∈ R → Tri w1 W A B C s1 sb s1 R → Calls Tryz.prog 17 #[.slice xa nf xc, .slice ya nf yc] W fun e W' => e = .returned (.bool true) ∧ Hid (Tri w1 W' A B C s1 sb s1 R)) := v6 fun W R xa xc ya yc h8 h1 h2 hT => (jp5 hT h1 h2 (by omega)).mono (by rintro e W' ⟨rfl, h⟩; exact ⟨rfl, v6 h⟩)
  have PL : Hid (∀ W R s id, Tri w1 W A B C s sb s R → ∃ pk pe s', Calls Tryz.prog 22 #[.pointer (some ⟨A, 0, none⟩), .int .i64 id] W (fun e W' => e = .returned (.tuple #[.int .i64 pk, .int .i64 pe]) ∧ Hid (Tri w1 W' A B C s' sb s R)) ∧ ∀ W, Tri w1 W A B C s' sb s R → Calls Tryz.prog 22 #[.pointer (some ⟨C, 0, none⟩), .int .i64 id] W (fun e W' => e = .returned (.tuple #[.int .i64 pk, .int .i64 pe]) ∧ Hid (Tri w1 W' A B C s' sb s' R))) := v6 (by
    intro W R s id hT
    refine ⟨(qy1 s.1 id).2.1, (qy1 s.1 id).2.2, ((qy1 s.1 id).1, s.2), (jp4 hT id).mono ?_, fun W hT => (jp4 hT.turn id).mono ?_⟩
    · rintro e W' ⟨rfl, h⟩
      exact ⟨rfl, v6 h⟩
    · rintro e W' ⟨rfl, h⟩
      exact ⟨rfl, v6 h.turn⟩)
  have ONE1 : Hid (∀ k, k < n1 → ∃ x b off, l1[k]? = some x ∧ a1 = some ⟨b, off, none⟩ ∧ k + 1 ≤ c1 ∧ ScrAt w (.slice (some ⟨b, off + k * 4, none⟩) 1 (c1 - k)) [x]) := v6 (by
    intro k hk
    obtain ⟨x, hx⟩ : ∃ x, l1[k]? = some x := ⟨_, List.getElem?_eq_getElem (by have := q9 HN1; omega)⟩
    obtain ⟨b, off, q1, q2, _, q3⟩ := (q9 H1).one hx
    exact ⟨x, b, off, hx, q1, q2, q3⟩)
  have ONE2 : Hid (∀ k, k < n2 → ∃ x b off, l2[k]? = some x ∧ a2 = some ⟨b, off, none⟩ ∧ k + 1 ≤ c2 ∧ ScrAt w (.slice (some ⟨b, off + k * 4, none⟩) 1 (c2 - k)) [x]) := v6 (by
    intro k hk
    obtain ⟨x, hx⟩ : ∃ x, l2[k]? = some x := ⟨_, List.getElem?_eq_getElem (by have := q9 HN2; omega)⟩
    obtain ⟨b, off, q1, q2, _, q3⟩ := (q9 H2).one hx
    exact ⟨x, b, off, hx, q1, q2, q3⟩)
  have FIN : Hid (∀ W s R, Tri w1 W A B C s sb s R → Below w.heap.size w W) := v6 fun W s R hT => v7 (q9 B1) hT.below
  have CX : Hid (∀ W sa sc R k x xa xc, xs[k]? = some x → (Value.slice xa nx xc, xs) ∈ R → Tri w1 W A B C sa sb sc R → ∃ g, xa = some ⟨g, 0, none⟩ ∧ W.cell? ⟨g, k, none⟩ = some (.int .i64 x)) := v6 (by
    intro W sa sc R k x xa xc hx hm hT
    obtain ⟨g, c, hv, hc⟩ := (hT.row hm).cell hx
    simp at hv
    exact ⟨g, hv.1, hc⟩)
  have XJ : Hid (∀ k, k < nx → ∃ x, xs[k]? = some x) := v6 fun k hk => ⟨_, List.getElem?_eq_getElem (by omega)⟩
  have HS0 := v6 hs0
  have HSB := v6 hsb
  clear hs0 hsb hP hs1 hxs hfs her hnx hnf hl0 HE HG HL H1 H2 HN1 HN2 N2 N3 N4
  go_loopw [11] (fun i wr => ∃ k : Nat, k ≤ max n1 n2 ∧ i = .int .i64 k ∧ Hid (Tri w1 wr A B C (twS l1 (min k n1)) (twS l2 (min k n2)) ([], 0) [])) (fun i _ => max n1 n2 - (intOf i).toNat)
  case atStart => exact ⟨0, Nat.zero_le _, rfl, by simpa using T0⟩
  case round =>
    obtain ⟨k, hk, rfl, TK⟩ := hrel
    by_cases hk1 : k < n1
    · have m1 : min k n1 = k := by omega
      have m1' : min (k + 1) n1 = k + 1 := by omega
      obtain ⟨x1, b1, o1, hx1, rfl, hc1, O1⟩ := q9 ONE1 k hk1
      have hk0 : (0 : Int) ≤ (k : Int) := by omega
      have hk1' : (k : Int) < (n1 : Int) := by omega
      rw [m1] at TK
      have DA1 := v6 (q9 DA wr k (min k n2) x1 _ hx1 O1 (q9 TK))
      by_cases hk2 : k < n2
      · have m2 : min k n2 = k := by omega
        have m2' : min (k + 1) n2 = k + 1 := by omega
        obtain ⟨x2, b2, o2, hx2, rfl, hc2, O2⟩ := q9 ONE2 k hk2
        have hk2' : (k : Int) < (n2 : Int) := by omega
        have DB1 : Hid (∀ W, Tri w1 W A B C (twS l1 (k + 1)) (twS l2 k) ([], 0) [] → _) := v6 fun W hT => q9 DB W k (k + 1) x2 _ hx2 O2 hT
        rw [m2] at DA1
        clear DA DB DC PA PC SX SF PL ONE1 ONE2 FIN CX HS0 HSB O1 O2 hx1 hx2 TK T0
        go_wp2_with (first | (go_at_call 11; refine (q9 DB1 _ (q9 T5)).mono ?_; clear DB1; rintro e w6 ⟨ra, rn, rc, rfl, T6⟩) | (go_at_call 11; refine (q9 DA1).mono ?_; clear DA1; rintro e w5 ⟨qa, qn, qc, rfl, T5⟩))
        exact ⟨⟨k + 1, by omega, rfl, by rw [m1', m2']; exact T6⟩, by simp [intOf]; omega⟩
      · have m2 : min k n2 = n2 := by omega
        have m2' : min (k + 1) n2 = n2 := by omega
        have hk2' : ¬ (k : Int) < (n2 : Int) := by omega
        rw [m2] at DA1
        clear DA DB DC PA PC SX SF PL ONE1 ONE2 FIN CX HS0 HSB O1 hx1 TK T0
        go_wp2_with (go_at_call 11; refine (q9 DA1).mono ?_; clear DA1; rintro e w5 ⟨qa, qn, qc, rfl, T5⟩)
        exact ⟨⟨k + 1, by omega, rfl, by rw [m1', m2']; exact T5⟩, by simp [intOf]; omega⟩
    · have m1 : min k n1 = n1 := by omega
      have m1' : min (k + 1) n1 = n1 := by omega
      have hk0 : (0 : Int) ≤ (k : Int) := by omega
      have hk1' : ¬ (k : Int) < (n1 : Int) := by omega
      rw [m1] at TK
      by_cases hk2 : k < n2
      · have m2 : min k n2 = k := by omega
        have m2' : min (k + 1) n2 = k + 1 := by omega
        obtain ⟨x2, b2, o2, hx2, rfl, hc2, O2⟩ := q9 ONE2 k hk2
        have hk2' : (k : Int) < (n2 : Int) := by omega
        rw [m2] at TK
        have DB1 := v6 (q9 DB wr k n1 x2 _ hx2 O2 (q9 TK))
        clear DA DB DC PA PC SX SF PL ONE1 ONE2 FIN CX HS0 HSB O2 hx2 TK T0
        go_wp2_with (go_at_call 11; refine (q9 DB1).mono ?_; clear DB1; rintro e w5 ⟨qa, qn, qc, rfl, T5⟩)
        exact ⟨⟨k + 1, by omega, rfl, by rw [m1', m2']; exact T5⟩, by simp [intOf]; omega⟩
      · have m2 : min k n2 = n2 := by omega
        have hk2' : ¬ (k : Int) < (n2 : Int) := by omega
        rw [m2, q9 HS0, q9 HSB] at TK
        clear DA DB ONE1 ONE2 HS0 HSB T0
        go_wp2_with (first | (go_at_call 17; refine (q9 SF _ _ fa fc ga gc h8.2 (by simp) (by simp) (q9 T8)).mono ?_; clear SF T8; rintro e w9 ⟨rfl, T9⟩) | (go_at_call 17; refine (q9 SX _ _ xa xc ya yc h8.1 (by simp) (by simp) (q9 T7)).mono ?_; clear SX T7; rintro e w8 ⟨rfl, T8⟩) | (go_at_call 15; refine (q9 PC _ _ (q9 T6).2.2).mono ?_; clear PC; rintro e w7 ⟨ya, yc, ga, gc, rfl, T7⟩) | (go_at_call 15; refine (q9 PA _ (q9 T5)).mono ?_; clear PA; rintro e w6 ⟨xa, xc, fa, fc, rfl, T6⟩; have h8 : nx ≤ 8 ∧ nf ≤ 8 := ⟨(q9 T6).1, (q9 T6).2.1⟩) | (go_at_call 11; refine (q9 DC _ (q9 TK)).mono ?_; clear DC; rintro e w5 ⟨qa, qn, qc, rfl, T5⟩))
        obtain ⟨R, hR⟩ : ∃ R, [(Value.slice ya nx yc, xs), (.slice ga nf gc, fs), (.slice xa nx xc, xs), (.slice fa nf fc, fs)] = R := ⟨_, rfl⟩
        rw [hR] at T9
        have HM : Hid ((Value.slice xa nx xc, xs) ∈ R) := v6 (by rw [← hR]; simp)
        clear hR T5 T6 TK
        go_loopw [20] (fun i wr => ∃ k : Nat, k ≤ nx ∧ i = .int .i64 k ∧ ∃ s, Hid (Tri w1 wr A B C s sb s R)) (fun i _ => nx - (intOf i).toNat)
        case atStart => exact ⟨0, Nat.zero_le _, rfl, s1, T9⟩
        case round =>
          obtain ⟨j, hj, rfl, s, TS⟩ := hrel
          by_cases hj1 : j < nx
          · have hj0 : (0 : Int) ≤ (j : Int) := by omega
            have hj1' : (j : Int) < (nx : Int) := by omega
            go_wp2_with fail
            go_loopw [21] (fun i wr => ∃ m : Nat, m ≤ 6 ∧ i = .int .i64 m ∧ ∃ s, Hid (Tri w1 wr A B C s sb s R)) (fun i _ => 6 - (intOf i).toNat)
            case atStart => exact ⟨0, Nat.zero_le _, rfl, s, TS⟩
            case round =>
              obtain ⟨m, hm, rfl, s2, TM⟩ := hrel
              by_cases hm1 : m < 6
              · obtain ⟨id, hid⟩ := q9 XJ j hj1
                obtain ⟨g, rfl, hc⟩ := q9 CX wr s2 s2 R j id _ _ hid (q9 HM) (q9 TM)
                obtain ⟨pk, pe, s3, QA, QC⟩ := q9 PL wr R s2 id (q9 TM)
                have QA := v6 QA
                have QC := v6 QC
                have CX2 : Hid (∀ W s, Tri w1 W A B C s sb s2 R → W.cell? ⟨g, j, none⟩ = some (.int .i64 id)) := v6 (by
                  intro W s hT
                  obtain ⟨g', e, h⟩ := q9 CX W s s2 R j id _ _ hid (q9 HM) hT
                  simp at e
                  subst e
                  exact h)
                have hm' : (m : Int) < 6 := by omega
                clear PL CX XJ hid
                go_wp2_with (first | (go_at_call 22; refine (q9 QC _ (q9 TA)).mono ?_; clear QC; rintro e wd ⟨rfl, TD⟩) | (go_at_call 22; refine (q9 QA).mono ?_; clear QA; rintro e wa ⟨rfl, TA⟩; have hc2 := q9 CX2 wa _ (q9 TA)))
                exact ⟨⟨m + 1, by omega, rfl, s3, TD⟩, by simp [intOf]; omega⟩
              · have hm' : ¬ (m : Int) < 6 := by omega
                go_wp2_with fail
                exact ⟨⟨j + 1, by omega, rfl, s2, TM⟩, by simp [intOf]; omega⟩
          · have hj1' : ¬ (j : Int) < (nx : Int) := by omega
            go_wp2_with fail
            go_ret
            exact ⟨rfl, q9 FIN _ _ _ (q9 TS)⟩
end
section
open Go.ChangeShapes Go.WideShapes Go.ChangeAt Go.RowKit Go.Deep
theorem jk4 : Tryz.prog.cellsOf 69 = 4 := by kernel_rfl
theorem cellsBool : Tryz.prog.cellsOf 4 = 1 := by kernel_rfl
theorem cellsEv : Tryz.prog.cellsOf 23 = 1 := by kernel_rfl
theorem bytesSub : Tryz.prog.bytesOf 69 = 56 := by kernel_rfl
section
variable {H : Type} {enc : TypeId × Value → H}
set_option maxRecDepth 100000 in
theorem jj7 (tx : List UInt8) (k : Int) (f : Bool) (dv : DataW H) : (DataW.agg [.lit (.int .i64 k), .lit (.string tx), .lit (.bool f), dv] : DataW H).weights Tryz.prog 69 = tx.length :: dv.weights Tryz.prog 23 := by
  rw [DataW.weights, Tryz.underlying69]
  simp only [List.map, DataW.weightsEach, DataW.weights]
  simp
set_option maxRecDepth 100000 in
theorem open_sub {W : World} {n : Nat} {cs : List Value} {d : DataW H} {pl : List MemPlace} (h : DataW.trod enc Tryz.prog W 0 (fun _ => true) true n 69 cs = some (d, pl)) (hw : ∀ n ∈ d.weights Tryz.prog 69, n ≤ reachBytes) :
    ∃ x : Sc, cs = [.int .i64 x.id, .string (BS x.text), .bool x.fin, x.ev] ∧ ScOk W x := by
  obtain ⟨y0, y1, y2, y3, n1, hx, hl, t0, t1, t2, t3⟩ := Go.Joins.trod_struct4 Tryz.underlying69 h
  rw [jk4] at hl
  match cs, hl with
  | [c0, c1, c2, c3], _ =>
    simp only [jk3, vs4, cellsBool, cellsEv, List.drop, List.take] at t0 t1 t2 t3
    obtain ⟨k, h0, rfl, wk⟩ := DataW.trod_int Tryz.underlying3 t0
    obtain ⟨tx, h1, rfl, _⟩ := DataW.trod_string Tryz.underlying9 t1
    obtain ⟨f, h2, rfl⟩ := DataW.trod_bool Tryz.underlying4 t2
    obtain ⟨d3, p3⟩ := y3
    simp only [Prod.mk.injEq] at hx
    obtain ⟨rfl, rfl⟩ := hx
    rw [jj7] at hw
    have w1 := hw _ (List.mem_cons_self ..)
    obtain ⟨v, ps, hv, he, hg⟩ := va9 t3 fun m hm => hw m (List.mem_cons_of_mem _ hm)
    simp only [List.cons.injEq, and_true] at h0 h1 h2 hv
    subst h0 h1 h2 hv
    unfold reachBytes at w1
    exact ⟨⟨k, tx.data.toList, f, ps, c3⟩, rfl, ⟨by show tx.data.toList.length ≤ _; omega, wf_rng wk, he, hg⟩⟩
set_option maxRecDepth 100000 in
theorem vj2 {W : World} {base : Nat} {v : Value} {d : DataW H} {pl : List MemPlace} (hval : Value.okWide Tryz.prog W .any base 22 v) (h : DataW.Trod enc Tryz.prog W 0 (fun _ => true) true 22 v d pl)
    (hw : ∀ n ∈ d.weights Tryz.prog 22, n ≤ reachBytes) : ∃ l, ScrAt W v l := by
  obtain ⟨fuel, ht⟩ := h
  obtain ⟨a0, len0, cap0, rfl⟩ := okWide_slice Tryz.underlying22 hval
  rcases open_slice Tryz.underlying22 ht with ⟨hc, hx⟩ | ⟨a, len, cap, m, n, D, Pl, hc, _, hl, hm, hmm, hx, hall⟩
  · simp [Value.cells] at hc
    obtain ⟨rfl, rfl, rfl⟩ := hc
    exact ⟨[], none, 0, rfl, Nat.zero_le _, Nat.zero_le _, fun i x hi => by simp at hi⟩
  · simp [Value.cells] at hc
    obtain ⟨rfl, rfl, rfl⟩ := hc
    simp only [if_true] at hmm
    subst hmm
    simp only [Prod.mk.injEq] at hx
    obtain ⟨rfl, rfl⟩ := hx
    rw [jk4] at hall
    have hwt := hw
    rw [DataW.weights, Tryz.underlying22] at hwt
    simp only [List.mem_cons, List.mem_append] at hwt
    have each : ∀ i, i < len0 → ∃ x : Sc, ScOk W x ∧ W.cell? (a.add (i * 4)) = some (.int .i64 x.id) ∧ W.cell? (a.add (i * 4 + 1)) = some (.string (BS x.text)) ∧ W.cell? (a.add (i * 4 + 2)) = some (.bool x.fin) ∧ W.cell? (a.add (i * 4 + 3)) = some x.ev := by
      intro i hi
      obtain ⟨cs', h1, h2⟩ := hall i (by omega)
      have hin : D i ∈ (List.range len0).map D := List.mem_map.2 ⟨i, List.mem_range.2 hi, rfl⟩
      obtain ⟨x, rfl, ok⟩ := open_sub h2 fun n hn => hwt n (.inr (.inl (vm7 hin n hn)))
      obtain ⟨_, _, hcell⟩ := World.cells?_some h1
      have c0 := hcell 0 (by decide)
      have c1 := hcell 1 (by decide)
      have c2 := hcell 2 (by decide)
      have c3 := hcell 3 (by decide)
      rw [add_add] at c0 c1 c2 c3
      exact ⟨x, ok, c0, c1, c2, c3⟩
    have inh : Inhabited Sc := ⟨⟨0, [], false, [], .slice none 0 0⟩⟩
    obtain ⟨f, hf⟩ := choose_lt each
    have hlen : ((List.range len0).map f).length = len0 := by rw [List.length_map, List.length_range]
    have hget : ∀ (k : Nat) (p : Sc), ((List.range len0).map f)[k]? = some p → k < len0 ∧ p = f k := by
      intro k p hk
      rw [List.getElem?_map] at hk
      cases hr : (List.range len0)[k]? with
      | none => rw [hr] at hk; cases hk
      | some j =>
        rw [hr] at hk
        obtain ⟨h1, h2⟩ := List.getElem?_eq_some_iff.1 hr
        rw [List.length_range] at h1
        rw [List.getElem_range] at h2
        subst h2
        exact ⟨h1, by simpa using hk.symm⟩
    refine ⟨(List.range len0).map f, some a, _, by rw [hlen], ?_, by rw [hlen]; exact hl, fun i x hi => ?_⟩
    · have := hwt _ (.inl rfl)
      rw [bytesSub, List.length_map, List.length_range] at this
      rw [hlen]
      unfold reachBytes at this
      omega
    · obtain ⟨h1, rfl⟩ := hget i x hi
      obtain ⟨ok, c0, c1, c2, c3⟩ := hf i h1
      obtain ⟨b, off, spot⟩ := a
      have hs : spot = none := by
        have := World.cell?_spot (hf 0 (by omega)).2.1
        simpa [Addr.add] using this
      subst hs
      have hadd : ∀ j, (⟨b, off, none⟩ : Addr).add j = ⟨b, off + j, none⟩ := by intro j; simp [Addr.add]
      rw [hadd] at c0 c1 c2 c3
      exact ⟨ok, b, off, rfl, block_lt_of_cell c0, c0, c1, c2, c3⟩
end
end
end Go.Proofs.YtfkcaldjphakpabGreatDoor
