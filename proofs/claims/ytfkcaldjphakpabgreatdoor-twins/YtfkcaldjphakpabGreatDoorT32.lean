/- together: one program of the selectors of subscriptions. A broker in memory. A broker and what it keeps; Poll. Unsubscribe; Poll and Unsubscribe of a number that there is not. -/
import Derived.Test.YtfkcaldjphakpabGreatDoorT29
import Derived.Test.YtfkcaldjphakpabGreatDoorT31
import Derived.Test.YtfkcaldjphakpabGreatDoorT30
import Derived.Lib.OwnKind
namespace Go.Proofs.YtfkcaldjphakpabGreatDoor
open Go.RowKit
section
theorem CoAt.low {B B' E : Nat} {w : World} (hB : B' ≤ B) : ∀ {c : Co} {v : Value}, CoAt B E w v c → CoAt B' E w v c := by
  have hc : ∀ {b : Nat} {p : CP} {l r : Value} {t : List UInt8}, CellsC B E w b p l r t → CellsC B' E w b p l r t := fun h => ⟨Nat.le_trans hB h.lo, h.hi, h.within, h.c0, h.c1, h.c2, h.c3, h.c4, h.c5, h.c6⟩
  intro c
  induction c with
  | leaf p => rintro v ⟨b, rfl, h⟩; exact ⟨b, rfl, hc h⟩
  | un p x ih => rintro v ⟨b, vx, rfl, h, hx⟩; exact ⟨b, vx, rfl, hc h, ih hx⟩
  | bin p x y ihx ihy => rintro v ⟨b, vx, vy, rfl, h, hx, hy⟩; exact ⟨b, vx, vy, rfl, hc h, ihx hx, ihy hy⟩
theorem y9 {w : World} {base base' size n : Nat} {e : TypeId} {v : Value} {xs : List Value} (h : w.ownsRow base e size v n xs) (hb : base' ≤ base) : w.ownsRow base' e size v n xs := by
  refine ⟨h.1, ?_⟩
  rcases h.2 with hn | ⟨g, cap, cur, rfl, hbg, rest⟩
  · exact .inl hn
  · exact .inr ⟨g, cap, cur, rfl, by omega, rest⟩
structure RowsAt (w : World) (base : Nat) (tv rv : Value) (ts : List Tm) (rs : List Nat) : Prop where
  ats : TsAt w base tv ts
  ars : IsAt w base rv rs
  ne : ∀ g, tv.ownBlock = some g → rv.ownBlock ≠ some g
def vp3 (w : World) (cs : List Co) (n : Nat) (e : Ending) (w' : World) : Prop := ∃ tv rv, e = .returned (.agg #[tv, rv]) ∧ RowsAt w' w.heap.size tv rv (qh0 cs n).1 (qh0 cs n).2 ∧ Below w.heap.size w w'
theorem IsAt.form {w : World} {base : Nat} {v : Value} {l : List Nat} (h : IsAt w base v l) : ∃ a c, v = .slice a l.length c := by
  rcases h.2 with ⟨rfl, hn⟩ | ⟨g, cap, cur, rfl, _⟩
  · exact ⟨none, 0, by rw [hn]⟩
  · exact ⟨_, _, rfl⟩
def CoOk (w : World) (v : Value) (c : Co) : Prop := CoAt 0 w.heap.size w v c ∧ vf3 c ∧ qs1 c ≤ 250000000
set_option maxHeartbeats 2000000 in
set_option maxRecDepth 100000 in
theorem qx0 (l : List Sb) (cs : List Co) (hlen : cs.length = l.length) (h8 : l.length ≤ 8) (v : Value) (w : World) (hv : SubsAt w w.heap.size v l) (hcs : ∀ (k : Nat) (s : Sb) (c : Co), l[k]? = some s → cs[k]? = some c → CoOk w (.pointer s.core) c) :
    Calls Tryz.prog 35 #[v] w (vp3 w cs l.length) := by
  have HCS := v6 hcs
  have HLEN := v6 hlen
  obtain ⟨a, cap, rfl, hx⟩ := hv
  have HX := v6 hx
  obtain ⟨W1, hW1⟩ : ∃ W1, W1 = w.alloc (.cells #[.slice none 0 0, .slice none 0 0] 65) := ⟨_, rfl⟩
  have hz1 : W1.heap.size = w.heap.size + 1 := by rw [hW1]; simp
  have HB1 : Hid (Below w.heap.size w W1) := v6 (by rw [hW1]; exact (Below.refl _ _).alloc (Nat.le_refl _) _)
  have HC1 : Hid (W1.cell? ⟨w.heap.size, 0, none⟩ = some (.slice none 0 0) ∧ W1.cell? ⟨w.heap.size, 1, none⟩ = some (.slice none 0 0) ∧ ∀ j, W1.frozen? ⟨w.heap.size, j, none⟩ = false) := v6 (by rw [hW1]; simp [go_sem])
  have NM := v6 (ve9 W1)
  have HK : Hid (∀ k, k ≤ l.length → (qh0 cs k).1.length ≤ k * 250000000 ∧ (qh0 cs k).2.length = k) := v6 (by
    intro k
    induction k with
    | zero => intro _; exact ⟨by simp [qh0], rfl⟩
    | succ k ih =>
      intro hk
      obtain ⟨i1, i2⟩ := ih (by omega)
      obtain ⟨s, hs⟩ : ∃ s, l[k]? = some s := ⟨_, List.getElem?_eq_getElem (by omega)⟩
      obtain ⟨c, hc⟩ : ∃ c, cs[k]? = some c := ⟨_, List.getElem?_eq_getElem (by omega)⟩
      have hz := (hcs k s c hs hc).2.2
      refine ⟨?_, (qp5 cs (k + 1)).1⟩
      have := (qp7 (qh0 cs k).1 c).2.1
      rw [qh0, List.getD_eq_getElem?_getD, hc]
      show (j9 (qh0 cs k).1 c).1.length ≤ _
      omega)
  have HQ : Hid (∀ e w', vp3 w cs l.length e w' → vp3 w cs l.length e w') := v6 fun _ _ h => h
  obtain ⟨Q, hQ⟩ : ∃ Q, vp3 w cs l.length = Q := ⟨_, rfl⟩
  rw [hQ] at HQ ⊢
  have HQ' : Hid (∀ e w', vp3 w cs l.length e w' → Q e w') := v6 (by rw [← hQ]; exact fun _ _ h => h)
  clear HQ hQ hx hcs hlen
  obtain ⟨n, hn⟩ : ∃ n, l.length = n := ⟨_, rfl⟩
  rw [hn] at HLEN HK HQ' h8 ⊢
  have HN := v6 hn
  clear hn
  go_enter Tryz.func35, Tryz.ntmps35
  go_wp2_with (go_at_call 37; rw [← hW1]; refine (q9 NM).mono ?_; rintro e w1 ⟨rfl, hm1, hb1⟩; have M1 := v6 hm1; have B1 := v6 hb1; rw [hz1] at M1 ⊢; clear hm1 hb1)
  clear hW1
  go_loopw [9] (fun i wr => ∃ (k : Nat) (tv rv : Value), k ≤ n ∧ i = .int .i64 k ∧ Hid (MkAt wr (w.heap.size + 1 + 1) (w.heap.size + 1) (qh0 cs k).1 (qh0 cs k).2 tv rv) ∧ Hid (Below W1.heap.size W1 wr)) (fun i _ => n - (intOf i).toNat)
  case atStart => exact ⟨0, _, _, Nat.zero_le _, rfl, M1, B1⟩
  case round =>
    obtain ⟨k, tv, rv, hk, rfl, MK, HB⟩ := hrel
    have hBw : Hid (Below w.heap.size w wr) := v6 ((q9 HB1).trans ((q9 HB).mono (by omega)))
    by_cases hlt : k < n
    · obtain ⟨s, hs⟩ : ∃ s, l[k]? = some s := ⟨_, List.getElem?_eq_getElem (by have := q9 HN; omega)⟩
      obtain ⟨c, hc⟩ : ∃ c, cs[k]? = some c := ⟨_, List.getElem?_eq_getElem (by have := q9 HLEN; omega)⟩
      obtain ⟨g, rfl, glt, s0, s1, s2⟩ := q9 HX k s hs
      obtain ⟨hcoat, hgood, hsize⟩ := q9 HCS k s c hs hc
      rw [← (q9 hBw).cell (p := ⟨g, k * 3, none⟩) glt] at s0
      rw [← (q9 hBw).cell (p := ⟨g, k * 3 + 1, none⟩) glt] at s1
      rw [← (q9 hBw).cell (p := ⟨g, k * 3 + 2, none⟩) glt] at s2
      have hk0 : (0 : Int) ≤ (k : Int) := by omega
      have hk1 : (k : Int) < (n : Int) := by omega
      have hS : Hid (qh0 cs (k + 1) = ((j9 (qh0 cs k).1 c).1, (qh0 cs k).2 ++ [(j9 (qh0 cs k).1 c).2])) := v6 (by rw [qh0, List.getD_eq_getElem?_getD, hc]; rfl)
      obtain ⟨hle, hrl⟩ := q9 HK k hk
      have AD : Hid (∀ (U : World), Below wr.heap.size wr U → Calls Tryz.prog 38 #[.pointer (some ⟨w.heap.size + 1 + 1, 0, none⟩), .pointer s.core] U fun e w' => ∃ tv' rv', e = .returned (.tuple #[]) ∧ MkAt w' (w.heap.size + 1 + 1) (w.heap.size + 1) (qh0 cs (k + 1)).1 (qh0 cs (k + 1)).2 tv' rv' ∧ Below W1.heap.size W1 w') := v6 (by
        intro U hU
        have hmU := (q9 MK).below hU
        have hUw := v7 (q9 hBw) hU
        have hcU : CoAt 0 w.heap.size U (.pointer s.core) c := CoAt.keep (Nat.le_refl _) (fun i _ h2 => hUw.block i h2) hUw.size hcoat
        refine jm8 c hgood 0 w.heap.size _ _ U _ _ _ tv rv hmU hcU hUw.size (fun j hj => ?_) (by omega) (by omega) _ ?_
        · rcases hj with rfl | rfl | hj | hj
          · right; omega
          · right; omega
          · right; have := (hmU.ats.lt j hj).1; omega
          · right; have := (hmU.ars.lt j hj).1; omega
        · intro w' tv' rv' h1 h2
          rw [q9 hS]
          exact ⟨tv', rv', rfl, h1, jj9 (v7 (q9 HB) hU) hmU h2 (by omega)⟩)
      obtain ⟨R, hR⟩ : ∃ R, qh0 cs (k + 1) = R := ⟨_, rfl⟩
      rw [hR] at AD
      have HR := v6 hR
      have hU1 : Below wr.heap.size wr (wr.alloc (.cells #[.int .i64 s.id, .pointer s.core, .slice s.row s.len s.cap] 83)) := (Below.refl _ _).alloc (Nat.le_refl _) _
      clear hS hle hrl hR hs hc hcoat hgood hsize
      go_wp2_with (go_at_call 38; refine (q9 AD _ (by with_reducible assumption)).mono ?_; rintro e w4 ⟨tv4, rv4, rfl, hm4, hb4⟩; have M4 := v6 hm4; have B4 := v6 hb4; clear hm4 hb4)
      exact ⟨⟨k + 1, _, _, by omega, rfl, by rw [q9 HR]; exact M4, B4⟩, by simp [intOf]; omega⟩
    · have : k = n := by omega
      subst this
      obtain ⟨ta, tc, rfl⟩ := (q9 MK).ats.form
      obtain ⟨ra, rc, rfl⟩ := (q9 MK).ars.form
      have m0 := (q9 MK).c0
      have m1 := (q9 MK).c1
      have mlt := (q9 MK).lt
      obtain ⟨d0, d1, df⟩ := q9 HC1
      rw [← (q9 HB).cell (p := ⟨w.heap.size, 0, none⟩) (by show w.heap.size < _; omega)] at d0
      rw [← (q9 HB).cell (p := ⟨w.heap.size, 1, none⟩) (by show w.heap.size < _; omega)] at d1
      have df' : ∀ j, wr.frozen? ⟨w.heap.size, j, none⟩ = false := fun j => ((q9 HB).frozen (p := ⟨w.heap.size, j, none⟩) (by show w.heap.size < _; omega)).trans (df j)
      have hRow : Hid (∀ x y, vp3 w cs k (.returned (.agg #[.slice ta (qh0 cs k).1.length tc, .slice ra (qh0 cs k).2.length rc])) ((wr.setCell ⟨w.heap.size, 0, none⟩ x).setCell ⟨w.heap.size, 1, none⟩ y)) := v6 (by
        intro x y
        have hb2 : Below w.heap.size wr ((wr.setCell ⟨w.heap.size, 0, none⟩ x).setCell ⟨w.heap.size, 1, none⟩ y) := ((Below.refl _ _).setCell (by exact Nat.le_refl _) _).setCell (by exact Nat.le_refl _) _
        have hne : ∀ j, w.heap.size + 1 + 1 + 1 ≤ j → ((wr.setCell ⟨w.heap.size, 0, none⟩ x).setCell ⟨w.heap.size, 1, none⟩ y).heap[j]? = wr.heap[j]? := fun j hj =>
          (Below.heap_setCell _ ⟨w.heap.size, 1, none⟩ y j (by show j ≠ w.heap.size; omega)).trans (Below.heap_setCell _ ⟨w.heap.size, 0, none⟩ x j (by show j ≠ w.heap.size; omega))
        refine ⟨_, _, rfl, ⟨?_, ?_, (q9 MK).ne⟩, (q9 hBw).trans hb2⟩
        · have h := (q9 MK).ats
          exact y9 (v9 h fun g hg => hne g (h.lt g hg).1) (by omega)
        · have h := (q9 MK).ars
          exact y9 (v9 h fun g hg => hne g (h.lt g hg).1) (by omega))
      go_wp2_with fail
      refine bodyPost_ret (by simp [results, Tryz.results35, go_sem, d0, d1] <;> rfl) rfl ?_
      exact q9 HQ' _ _ (q9 hRow _ _)
end
section
structure Sx where
  id : Int
  cp : Option Addr
  lo : Nat
  hi : Nat
  co : Co
  row : Option Addr
  cap : Nat
  ms : List Mg
def Sx.sb (x : Sx) : Sb := ⟨x.id, x.cp, x.row, x.ms.length, x.cap⟩
def Sx.hv (x : Sx) : Value := .slice x.row x.ms.length x.cap
def BOwn (bb : Nat) (sv tv rv : Value) (l : List Sx) (k : Nat) : Prop := k = bb ∨ sv.ownBlock = some k ∨ tv.ownBlock = some k ∨ rv.ownBlock = some k ∨ ∃ x ∈ l, x.hv.ownBlock = some k
def vg8 (bb : Nat) (sv tv rv : Value) (l : List Sx) (k : Nat) : Prop := BOwn bb sv tv rv l k ∨ ∃ x ∈ l, x.lo ≤ k ∧ k < x.hi
def qj8 (l : List Sx) : List Co := l.map Sx.co
def tsX (l : List Sx) : List Tm := (qh0 (qj8 l) l.length).1
def rsX (l : List Sx) : List Nat := (qh0 (qj8 l) l.length).2
structure BrAt (w : World) (bb : Nat) (last : Int) (sv tv rv : Value) (l : List Sx) : Prop where
  blk : w.heap[bb]? = some (.cells #[.int .i64 last, sv, tv, rv] 67 (0, 0))
  row : SbRow w 0 sv (l.map Sx.sb)
  rows : RowsAt w 0 tv rv (tsX l) (rsX l)
  hps : ∀ x ∈ l, w.ownsRow 0 102 2 x.hv x.ms.length (qn3 x.ms)
  dis : l.Pairwise fun x y => ∀ k, x.hv.ownBlock = some k → y.hv.ownBlock ≠ some k
  cos : ∀ x ∈ l, CoAt x.lo x.hi w (.pointer x.cp) x.co ∧ x.hi ≤ w.heap.size ∧ vf3 x.co ∧ qs1 x.co ≤ 250000000
  out : ∀ x ∈ l, ∀ k, BOwn bb sv tv rv l k → k < x.lo ∨ x.hi ≤ k
  up : qn1 (l.map Sx.sb)
  n8 : l.length ≤ 8
  m6 : ∀ x ∈ l, x.ms.length ≤ 6
  prg : Prg (tsX l) (rsX l)
theorem BrAt.lt {w : World} {bb : Nat} {last : Int} {sv tv rv : Value} {l : List Sx} (h : BrAt w bb last sv tv rv l) : bb < w.heap.size := (Array.getElem?_eq_some_iff.1 h.blk).1
theorem BrAt.cells {w : World} {bb : Nat} {last : Int} {sv tv rv : Value} {l : List Sx} (h : BrAt w bb last sv tv rv l) : w.cell? ⟨bb, 0, none⟩ = some (.int .i64 last) ∧ w.cell? ⟨bb, 1, none⟩ = some sv ∧ w.cell? ⟨bb, 2, none⟩ = some tv ∧ w.cell? ⟨bb, 3, none⟩ = some rv ∧ ∀ j, w.frozen? ⟨bb, j, none⟩ = false := by
  have hb := h.blk
  simp [World.cell?, World.frozen?, hb]
theorem BrAt.foot_lt {w : World} {bb : Nat} {last : Int} {sv tv rv : Value} {l : List Sx} (h : BrAt w bb last sv tv rv l) {k : Nat} (hk : vg8 bb sv tv rv l k) : k < w.heap.size := by
  rcases hk with (rfl | hk | hk | hk | ⟨x, hx, hk⟩) | ⟨x, hx, _, hk⟩
  · exact h.lt
  · exact (h.row.lt k hk).2
  · exact (h.rows.ats.lt k hk).2
  · exact (h.rows.ars.lt k hk).2
  · exact ((h.hps x hx).lt k hk).2
  · have := (h.cos x hx).2.1
    omega
theorem BrAt.same {w w' : World} {bb : Nat} {last : Int} {sv tv rv : Value} {l : List Sx} (h : BrAt w bb last sv tv rv l) (hz : w.heap.size ≤ w'.heap.size) (hb : ∀ k, vg8 bb sv tv rv l k → w'.heap[k]? = w.heap[k]?) : BrAt w' bb last sv tv rv l := by
  refine ⟨(hb bb (.inl (.inl rfl))).trans h.blk, v9 h.row fun g hg => hb g (.inl (.inr (.inl hg))), ⟨v9 h.rows.ats fun g hg => hb g (.inl (.inr (.inr (.inl hg)))), v9 h.rows.ars fun g hg => hb g (.inl (.inr (.inr (.inr (.inl hg))))), h.rows.ne⟩, fun x hx => v9 (h.hps x hx) fun g hg => hb g (.inl (.inr (.inr (.inr (.inr ⟨x, hx, hg⟩))))), h.dis, fun x hx => ?_, h.out, h.up, h.n8, h.m6, h.prg⟩
  obtain ⟨h1, h2, h3⟩ := h.cos x hx
  exact ⟨CoAt.keep (Nat.le_refl _) (fun k k1 k2 => hb k (.inr ⟨x, hx, k1, k2⟩)) hz h1, Nat.le_trans h2 hz, h3⟩
theorem BrAt.below {w w' : World} {bb : Nat} {last : Int} {sv tv rv : Value} {l : List Sx} (h : BrAt w bb last sv tv rv l) (hb : Below w.heap.size w w') : BrAt w' bb last sv tv rv l :=
  h.same hb.size fun k hk => hb.block k (h.foot_lt hk)
theorem SbRow.subs {w : World} {base : Nat} {v : Value} {l : List Sb} (h : SbRow w base v l) : SubsAt w w.heap.size v l := by
  rcases qd6 h with ⟨rfl, h0⟩ | ⟨g, c, rfl⟩
  · have e : l = [] := List.length_eq_zero_iff.1 h0
    subst e
    exact ⟨none, 0, rfl, fun i s hi => by simp at hi⟩
  · obtain ⟨_, _, _, cur, hcur, _⟩ := qe1 h
    refine ⟨_, c, rfl, fun i s hi => ⟨g, rfl, (Array.getElem?_eq_some_iff.1 hcur).1, ?_⟩⟩
    have hil := (List.getElem?_eq_some_iff.1 hi).1
    have hs : ∀ j, j < 3 → (j4 l)[i * 3 + j]? = (qa0 s)[j]? := by
      intro j hj
      have h1 : l = l.take i ++ (s :: l.drop (i + 1)) := by
        have e := List.drop_eq_getElem_cons hil
        rw [(List.getElem?_eq_some_iff.1 hi).2] at e
        rw [← e, List.take_append_drop]
      have h2 : j4 l = j4 (l.take i) ++ (qa0 s ++ j4 (l.drop (i + 1))) := by
        conv => lhs; rw [h1]
        rw [qe2]
        rfl
      rw [h2, List.getElem?_append_right (by rw [qc6, List.length_take]; omega), qc6, List.length_take, List.getElem?_append_left (by show _ < 3; omega)]
      congr 1
      omega
    have hc : ∀ j u, (j4 l)[j]? = some u → w.cell? ⟨g, j, none⟩ = some u := fun j u hu => by
      have := World.ownsRow.cells h (g := g) rfl j u hu
      rwa [qj3, Nat.zero_add] at this
    exact ⟨hc _ _ ((hs 0 (by omega)).trans rfl), hc _ _ ((hs 1 (by omega)).trans rfl), hc _ _ ((hs 2 (by omega)).trans rfl)⟩
theorem qv1 {w : World} {b1 b2 s1 s2 n1 n2 : Nat} {e1 e2 : TypeId} {v1 v2 : Value} {x1 x2 : List Value} (h1 : w.ownsRow b1 e1 s1 v1 n1 x1) (h2 : w.ownsRow b2 e2 s2 v2 n2 x2) (hne : e1 ≠ e2) {k : Nat} (hk : v1.ownBlock = some k) : v2.ownBlock ≠ some k := by
  intro hk2
  obtain ⟨c1, f1, g1⟩ := Go.Lib.ownsRow_kind h1 k hk
  obtain ⟨c2, f2, g2⟩ := Go.Lib.ownsRow_kind h2 k hk2
  rw [g1] at g2
  simp at g2
  exact hne g2.2.1
theorem qm6 {w : World} {b1 s1 n1 : Nat} {e1 : TypeId} {v1 : Value} {x1 : List Value} (h1 : w.ownsRow b1 e1 s1 v1 n1 x1) {k : Nat} {cs : Array Value} {t : TypeId} {fr : Nat × Nat} (hb : w.heap[k]? = some (.cells cs t fr)) (hne : e1 ≠ t) : v1.ownBlock ≠ some k := by
  intro hk
  obtain ⟨c1, f1, g1⟩ := Go.Lib.ownsRow_kind h1 k hk
  rw [g1] at hb
  simp at hb
  exact hne hb.2.1
theorem BrAt.heap {w : World} {bb g n c : Nat} {last : Int} {tv rv : Value} {l : List Sx} (h : BrAt w bb last (.slice (some ⟨g, 0, none⟩) n c) tv rv l) {i : Nat} {x : Sx} (hx : l[i]? = some x) : HqAt w g (i * 3 + 2) x.hv 0 x.ms := by
  have hr := h.row
  have hxm := List.mem_of_getElem? hx
  have hn : n = l.length := by
    rcases qd6 hr with ⟨hv, _⟩ | ⟨g', c', hv⟩
    · simp at hv
    · simp at hv; exact hv.2.1
  have hr' : w.ownsRow 0 83 3 (.slice (some ⟨g, 0, none⟩) (l.map Sx.sb).length c) (l.map Sx.sb).length (j4 (l.map Sx.sb)) := by
    have := hr
    rw [hn] at this
    simpa [SbRow] using this
  obtain ⟨_, _, _, cur, hcur, _⟩ := qe1 hr'
  obtain ⟨a, c', hv, hs⟩ := SbRow.subs hr
  obtain ⟨g', ha, hlt, _, _, h2⟩ := hs i x.sb (by rw [List.getElem?_map, hx]; rfl)
  have e : g = g' := by
    rw [ha] at hv
    simp at hv
    exact hv.1
  subst e
  refine ⟨h2, by simp [World.frozen?, hcur], hlt, h.hps x hxm, ?_⟩
  exact fun hk => qv1 (h.hps x hxm) hr (by decide) hk rfl
theorem ja4 {l : List Sb} {i : Nat} {s t : Sb} (hi : l[i]? = some s) (h0 : t.id = s.id) (h1 : t.core = s.core) : j4 (l.set i t) = (j4 l).set (i * 3 + 2) (.slice t.row t.len t.cap) := by
  induction l generalizing i with
  | nil => simp at hi
  | cons a r ih =>
    cases i with
    | zero =>
      simp at hi
      subst hi
      simp [j4, qa0, h0, h1]
    | succ i =>
      have := ih (i := i) (by simpa using hi)
      have e1 : ∀ r' : List Sb, j4 (a :: r') = qa0 a ++ j4 r' := fun r' => List.flatMap_cons
      rw [List.set_cons_succ, e1, e1, this]
      have e : (i + 1) * 3 + 2 = (qa0 a).length + (i * 3 + 2) := by simp [qa0]; omega
      rw [e, List.set_append_right _ _ (by omega)]
      congr 2
      omega
theorem vj3 {w w' : World} {base : Nat} {e : TypeId} {size g n cap j : Nat} {xs : List Value} {u : Value} (h : w.ownsRow base e size (.slice (some ⟨g, 0, none⟩) n cap) n xs) (hb : w'.heap[g]? = (w.setCell ⟨g, j, none⟩ u).heap[g]?) (_hj : j < n * size) : w'.ownsRow base e size (.slice (some ⟨g, 0, none⟩) n cap) n (xs.set j u) := by
  obtain ⟨hbg, hnc, hcm, cur, hcur, hcs, hct⟩ := qe1 h
  have h2 : (w.setCell ⟨g, j, none⟩ u).heap[g]? = some (.cells (cur.setIfInBounds j u) e (0, 0)) := by
    rw [setCell_eq_setRow w g j cur e (0, 0) u hcur]
    exact setRow_heap w g cur _ e (0, 0) hcur
  refine ⟨by rw [List.length_set, h.1], .inr ⟨g, cap, cur.setIfInBounds j u, rfl, hbg, hb.trans h2, hnc, hcm, by simp [hcs], ?_⟩⟩
  rw [Array.toList_setIfInBounds, List.take_set, hct]
theorem BrAt.turned {w w' : World} {bb g n c : Nat} {last : Int} {tv rv v' : Value} {l : List Sx} (h : BrAt w bb last (.slice (some ⟨g, 0, none⟩) n c) tv rv l) {i : Nat} {x : Sx} (hx : l[i]? = some x) {ms' : List Mg} (hq : HqAt w' g (i * 3 + 2) v' 0 ms') (hk : PqKept g (i * 3 + 2) x.hv v' w w') (h6 : ms'.length ≤ 6) :
    ∃ x' : Sx, x'.hv = v' ∧ x'.ms = ms' ∧ x'.id = x.id ∧ x'.co = x.co ∧ x'.lo = x.lo ∧ x'.hi = x.hi ∧ BrAt w' bb last (.slice (some ⟨g, 0, none⟩) n c) tv rv (l.set i x') := by
  obtain ⟨a, cp, rfl⟩ := hq.form
  have hxm := List.mem_of_getElem? hx
  have hil := (List.getElem?_eq_some_iff.1 hx).1
  obtain ⟨x', hx'⟩ : ∃ x' : Sx, x' = { x with row := a, cap := cp, ms := ms' } := ⟨_, rfl⟩
  have hhv : x'.hv = .slice a ms'.length cp := by rw [hx']; rfl
  have hco : x'.co = x.co := by rw [hx']
  refine ⟨x', hhv, by rw [hx'], by rw [hx'], hco, by rw [hx'], by rw [hx'], ?_⟩
  have hr := h.row
  have hcores : qj8 (l.set i x') = qj8 l := by
    unfold qj8
    rw [List.map_set, hco]
    apply List.ext_getElem?
    intro j
    rw [List.getElem?_set]
    split
    · rename_i e
      subst e
      simp [hil, (List.getElem?_eq_some_iff.1 hx).2]
    · rfl
  have hts : tsX (l.set i x') = tsX l := by unfold tsX; rw [hcores, List.length_set]
  have hrs : rsX (l.set i x') = rsX l := by unfold rsX; rw [hcores, List.length_set]
  have stay : ∀ k, k < w.heap.size → k ≠ g → x.hv.ownBlock ≠ some k → w'.heap[k]? = w.heap[k]? := hk.block
  have hgx : ∀ k, x.hv.ownBlock = some k → k ≠ g := fun k hk' e => by subst e; exact (qv1 (h.hps x hxm) hr (by decide) hk') rfl
  have nx : ∀ {b s m : Nat} {e : TypeId} {v : Value} {xs : List Value}, w.ownsRow b e s v m xs → e ≠ 102 → ∀ k, v.ownBlock = some k → x.hv.ownBlock ≠ some k := fun ho hne k hk' => qv1 ho (h.hps x hxm) hne hk'
  have ng : ∀ {b s m : Nat} {e : TypeId} {v : Value} {xs : List Value}, w.ownsRow b e s v m xs → e ≠ 83 → ∀ k, v.ownBlock = some k → k ≠ g := fun ho hne k hk' e => by subst e; exact (qv1 ho hr hne hk') rfl
  have hbb : w'.heap[bb]? = w.heap[bb]? := stay bb h.lt (fun e => by subst e; exact (qm6 hr h.blk (by decide)) rfl) (qm6 (h.hps x hxm) h.blk (by decide))
  have newown : ∀ k, x'.hv.ownBlock = some k → x.hv.ownBlock = some k ∨ w.heap.size ≤ k := fun k hk' => hk.row k (by rw [← hhv]; exact hk')
  have hmem : ∀ y ∈ l.set i x', y = x' ∨ ∃ j, j ≠ i ∧ l[j]? = some y := by
    intro y hy
    obtain ⟨j, hj⟩ := List.getElem?_of_mem hy
    rw [List.getElem?_set] at hj
    split at hj
    · left
      simp at hj
      exact hj.symm
    · rename_i hne
      exact .inr ⟨j, fun e => hne e.symm, hj⟩
  have disj : ∀ j y, j ≠ i → l[j]? = some y → ∀ k, y.hv.ownBlock = some k → x.hv.ownBlock ≠ some k := by
    intro j y hji hy k hyk hxk
    have hp := List.pairwise_iff_getElem.1 h.dis
    obtain ⟨jl, je⟩ := List.getElem?_eq_some_iff.1 hy
    obtain ⟨_, ie⟩ := List.getElem?_eq_some_iff.1 hx
    rcases Nat.lt_or_gt_of_ne hji with hlt | hgt
    · have := hp j i jl hil hlt k (by rw [je]; exact hyk)
      rw [ie] at this
      exact this hxk
    · have := hp i j hil jl hgt k (by rw [ie]; exact hxk)
      rw [je] at this
      exact this hyk
  have ownold : ∀ k, BOwn bb (.slice (some ⟨g, 0, none⟩) n c) tv rv (l.set i x') k → BOwn bb (.slice (some ⟨g, 0, none⟩) n c) tv rv l k ∨ w.heap.size ≤ k := by
    intro k hk'
    rcases hk' with e | e | e | e | ⟨y, hy, e⟩
    · exact .inl (.inl e)
    · exact .inl (.inr (.inl e))
    · exact .inl (.inr (.inr (.inl e)))
    · exact .inl (.inr (.inr (.inr (.inl e))))
    · rcases hmem y hy with rfl | ⟨j, _, hj⟩
      · rcases newown k e with e' | e'
        · exact .inl (.inr (.inr (.inr (.inr ⟨x, hxm, e'⟩))))
        · exact .inr e'
      · exact .inl (.inr (.inr (.inr (.inr ⟨y, List.mem_of_getElem? hj, e⟩))))
  have hout : ∀ y ∈ l.set i x', ∃ y0 ∈ l, y.lo = y0.lo ∧ y.hi = y0.hi ∧ y.cp = y0.cp ∧ y.co = y0.co := by
    intro y hy
    rcases hmem y hy with rfl | ⟨j, _, hj⟩
    · exact ⟨x, hxm, by rw [hx'], by rw [hx'], by rw [hx'], by rw [hx']⟩
    · exact ⟨y, List.mem_of_getElem? hj, rfl, rfl, rfl, rfl⟩
  have hn : n = l.length := by
    rcases qd6 hr with ⟨hv, _⟩ | ⟨g', c', hv⟩
    · simp at hv
    · simp at hv; exact hv.2.1
  refine ⟨hbb.trans h.blk, ?_, ⟨?_, ?_, h.rows.ne⟩, ?_, ?_, ?_, ?_, ?_, by rw [List.length_set]; exact h.n8, ?_, by rw [hts, hrs]; exact h.prg⟩
  · have hr' : w.ownsRow 0 83 3 (.slice (some ⟨g, 0, none⟩) n c) n (j4 (l.map Sx.sb)) := by
      have := hr
      simp only [SbRow, List.length_map] at this
      rwa [← hn] at this
    have := vj3 hr' hk.hdr (by omega)
    show w'.ownsRow 0 _ 3 _ ((l.set i x').map Sx.sb).length (j4 ((l.set i x').map Sx.sb))
    rw [List.length_map, List.length_set, ← hn, List.map_set, ja4 (s := x.sb) (by rw [List.getElem?_map, hx]; rfl) (by rw [hx']; rfl) (by rw [hx']; rfl)]
    rw [hx']
    exact this
  · rw [hts]
    exact v9 h.rows.ats fun k hk' => stay k (h.rows.ats.lt k hk').2 (ng h.rows.ats (by decide) k hk') (nx h.rows.ats (by decide) k hk')
  · rw [hrs]
    exact v9 h.rows.ars fun k hk' => stay k (h.rows.ars.lt k hk').2 (ng h.rows.ars (by decide) k hk') (nx h.rows.ars (by decide) k hk')
  · intro y hy
    rcases hmem y hy with rfl | ⟨j, hji, hj⟩
    · have := hq.own
      rw [hhv]
      have e : y.ms = ms' := by rw [hx']
      rw [e]
      exact this
    · have hy' := h.hps y (List.mem_of_getElem? hj)
      exact v9 hy' fun k hk' => stay k (hy'.lt k hk').2 (ng hy' (by decide) k hk') (disj j y hji hj k hk')
  · rw [List.pairwise_iff_getElem]
    intro p q hp0 hq0 hpq k hpk
    have hp : p < l.length := by rwa [List.length_set] at hp0
    have hq' : q < l.length := by rwa [List.length_set] at hq0
    have hd := List.pairwise_iff_getElem.1 h.dis
    by_cases hpi : p = i
    · subst hpi
      rw [List.getElem_set_self] at hpk
      rw [List.getElem_set_ne (by omega)]
      intro e
      rcases newown k hpk with e' | e'
      · exact disj q _ (by omega) (List.getElem?_eq_getElem hq') k e e'
      · have := ((h.hps _ (List.getElem_mem hq')).lt k e).2
        omega
    · rw [List.getElem_set_ne (fun e => hpi e.symm)] at hpk
      by_cases hqi : q = i
      · subst hqi
        rw [List.getElem_set_self]
        intro e
        rcases newown k e with e' | e'
        · exact disj p _ hpi (List.getElem?_eq_getElem hp) k hpk e'
        · have := ((h.hps _ (List.getElem_mem hp)).lt k hpk).2
          omega
      · rw [List.getElem_set_ne (fun e => hqi e.symm)]
        exact hd p q hp hq' hpq k hpk
  · intro y hy
    obtain ⟨y0, hy0, e1, e2, e3, e4⟩ := hout y hy
    obtain ⟨h1, h2, h3⟩ := h.cos y0 hy0
    rw [e1, e2, e3, e4]
    refine ⟨CoAt.keep (Nat.le_refl _) (fun k k1 k2 => stay k (by omega) ?_ ?_) hk.size h1, Nat.le_trans h2 hk.size, h3⟩
    · intro e
      have := h.out y0 hy0 k (.inr (.inl (by rw [e]; rfl)))
      omega
    · intro e
      have := h.out y0 hy0 k (.inr (.inr (.inr (.inr ⟨x, hxm, e⟩))))
      omega
  · intro y hy k hk'
    obtain ⟨y0, hy0, e1, e2, _⟩ := hout y hy
    rw [e1, e2]
    rcases ownold k hk' with ho | ho
    · exact h.out y0 hy0 k ho
    · have := (h.cos y0 hy0).2.1
      omega
  · have e : (l.set i x').map Sx.sb = (l.map Sx.sb).set i x'.sb := by rw [List.map_set]
    rw [e]
    unfold qn1
    rw [List.pairwise_iff_getElem]
    intro p q hp hq' hpq
    have hu := List.pairwise_iff_getElem.1 h.up
    rw [List.length_set] at hp hq'
    have key : ∀ t (ht : t < (l.map Sx.sb).length), (((l.map Sx.sb).set i x'.sb)[t]'(by rw [List.length_set]; exact ht)).id = ((l.map Sx.sb)[t]).id := by
      intro t ht
      rw [List.getElem_set]
      split
      · rename_i e
        subst e
        have : (l.map Sx.sb)[i] = x.sb := by
          rw [List.getElem_map, (List.getElem?_eq_some_iff.1 hx).2]
        rw [this, hx']
        rfl
      · rfl
    rw [key p hp, key q hq']
    exact hu p q hp hq' hpq
  · intro y hy
    rcases hmem y hy with rfl | ⟨j, _, hj⟩
    · rw [hx']; exact h6
    · exact h.m6 y (List.mem_of_getElem? hj)
end
section
structure Su where
  id : Int
  co : Co
  ms : List Mg
def Sx.su (x : Sx) : Su := ⟨x.id, x.co, x.ms⟩
structure Grow (F : Nat → Prop) (w w' : World) : Prop where
  os : w'.os = w.os
  tape : w'.tape = w.tape
  output : w'.output = w.output
  size : w.heap.size ≤ w'.heap.size
  block : ∀ k, k < w.heap.size → ¬ F k → w'.heap[k]? = w.heap[k]?
def upF (F : Nat → Prop) (w w' : World) (k : Nat) : Prop := F k ∨ (w.heap.size ≤ k ∧ k < w'.heap.size)
def Br (w : World) (F : Nat → Prop) (bb : Nat) (last : Int) (L : List Su) : Prop := (∀ k, F k → k < w.heap.size) ∧ ∃ sv tv rv l, BrAt w bb last sv tv rv l ∧ l.map Sx.su = L ∧ ∀ k, vg8 bb sv tv rv l k → F k
theorem Grow.of_below {F : Nat → Prop} {w w' : World} (h : Below w.heap.size w w') : Grow F w w' := ⟨h.os, h.tape, h.output, h.size, fun k hk _ => h.block k hk⟩
theorem Grow.trans {F : Nat → Prop} {a b c : World} (h : Grow F a b) (k : Grow (upF F a b) b c) : Grow F a c :=
  ⟨k.os.trans h.os, k.tape.trans h.tape, k.output.trans h.output, Nat.le_trans h.size k.size, fun i h1 h2 => (k.block i (Nat.lt_of_lt_of_le h1 h.size) (fun e => by rcases e with e | e; exact h2 e; omega)).trans (h.block i h1 h2)⟩
theorem Grow.trans' {F : Nat → Prop} {a b c : World} (h : Grow F a b) (k : Grow F b c) : Grow F a c :=
  ⟨k.os.trans h.os, k.tape.trans h.tape, k.output.trans h.output, Nat.le_trans h.size k.size, fun i h1 h2 => (k.block i (Nat.lt_of_lt_of_le h1 h.size) h2).trans (h.block i h1 h2)⟩
theorem Br.frame {w w' : World} {F : Nat → Prop} {bb : Nat} {last : Int} {L : List Su} (h : Br w F bb last L) (hz : w.heap.size ≤ w'.heap.size) (hb : ∀ k, F k → w'.heap[k]? = w.heap[k]?) : Br w' F bb last L := by
  obtain ⟨h1, sv, tv, rv, l, h2, h3, h4⟩ := h
  exact ⟨fun k hk => Nat.lt_of_lt_of_le (h1 k hk) hz, sv, tv, rv, l, h2.same hz fun k hk => hb k (h4 k hk), h3, h4⟩
theorem Br.below {w w' : World} {F : Nat → Prop} {bb : Nat} {last : Int} {L : List Su} (h : Br w F bb last L) (hb : Below w.heap.size w w') : Br w' F bb last L := h.frame hb.size fun k hk => hb.block k (h.1 k hk)
theorem Br.wide {w : World} {F F' : Nat → Prop} {bb : Nat} {last : Int} {L : List Su} (h : Br w F bb last L) (hF : ∀ k, F k → F' k) (hb : ∀ k, F' k → k < w.heap.size) : Br w F' bb last L := by
  obtain ⟨_, sv, tv, rv, l, h2, h3, h4⟩ := h
  exact ⟨hb, sv, tv, rv, l, h2, h3, fun k hk => hF k (h4 k hk)⟩
theorem Br.lt {w : World} {F : Nat → Prop} {bb : Nat} {last : Int} {L : List Su} (h : Br w F bb last L) : bb < w.heap.size := by
  obtain ⟨_, sv, tv, rv, l, h2, _⟩ := h
  exact h2.lt
theorem vu5 {l : List Sb} (h : qn1 l) {i : Nat} {s : Sb} (hi : l[i]? = some s) : qb7 l s.id = i ∧ (l.any fun t => t.id == s.id) = true := by
  have hc := qt3 h s.id
  have h1 : ¬ i < qb7 l s.id := fun hh => by have := (hc i s hi).2 hh; omega
  refine ⟨?_, List.any_eq_true.2 ⟨s, List.mem_of_getElem? hi, by simp⟩⟩
  rcases Nat.lt_or_ge (qb7 l s.id) i with hlt | hge
  · have hil := (List.getElem?_eq_some_iff.1 hi).1
    have hp := List.pairwise_iff_getElem.1 h (qb7 l s.id) i (by omega) hil hlt
    have e2 := (List.getElem?_eq_some_iff.1 hi).2
    rw [e2] at hp
    have := (hc (qb7 l s.id) _ (List.getElem?_eq_getElem (by omega))).1 hp
    omega
  · omega
theorem pop_any (hb ho : Nat) (v : Value) (ms : List Mg) (hn : ms.length ≤ 90) (w : World) (h : HqAt w hb ho v 0 ms) : Calls Tryz.prog 46 #[.pointer (some ⟨hb, ho, none⟩)] w (vh1 hb ho 0 v ms w) := by
  cases ms with
  | nil => exact pop_none hb ho 0 v w h
  | cons x r =>
    rcases qd6 h.own with ⟨_, h0⟩ | ⟨g, c, rfl⟩
    · simp at h0
    · obtain ⟨y, hy⟩ : ∃ y, (x :: r)[r.length]? = some y := ⟨_, List.getElem?_eq_getElem (by simp)⟩
      exact pop_some hb ho 0 g c r.length (x :: r) rfl hn x y rfl hy w h _ fun e w' h => h
theorem jh7 (ms : List Mg) : (popM ms).length = ms.length - 1 := by
  unfold popM
  split
  · rw [ja7, vf1]; unfold vf9; rw [List.length_take, List.length_set]; omega
  · rename_i h
    have : ms = [] := List.getLast?_eq_none_iff.1 h
    subst this
    rfl
def headN (ms : List Mg) : Int := ((ms.head?).getD ⟨0, 0⟩).num
set_option maxHeartbeats 2000000 in
set_option maxRecDepth 100000 in
theorem poll_at (w : World) (F : Nat → Prop) (bb : Nat) (last : Int) (L : List Su) (h : Br w F bb last L) (i : Nat) (x : Su) (hx : L[i]? = some x)
    (Q : Ending → World → Prop) (hQ : ∀ w', Br w' (upF F w w') bb last (L.set i { x with ms := popM x.ms }) → Grow F w w' → Q (.returned (.tuple #[.int .i64 (headN x.ms), .int .i64 0])) w') :
    Calls Tryz.prog 22 #[.pointer (some ⟨bb, 0, none⟩), .int .i64 x.id] w Q := by
  obtain ⟨hF, sv, tv, rv, l, hB, hL, hfoot⟩ := h
  obtain ⟨y, hy, hyx⟩ : ∃ y, l[i]? = some y ∧ y.su = x := by
    rw [← hL, List.getElem?_map] at hx
    cases hl : l[i]? with
    | none => rw [hl] at hx; cases hx
    | some y => rw [hl] at hx; exact ⟨y, rfl, by simpa using hx⟩
  have hil := (List.getElem?_eq_some_iff.1 hy).1
  obtain ⟨g, c, rfl⟩ : ∃ g c, sv = .slice (some ⟨g, 0, none⟩) l.length c := by
    rcases qd6 hB.row with ⟨_, h0⟩ | ⟨g, c, hv⟩
    · simp at h0; subst h0; simp at hil
    · exact ⟨g, c, by simpa using hv⟩
  have hpl := vu5 hB.up (i := i) (s := y.sb) (by rw [List.getElem?_map, hy]; rfl)
  have hyid : y.sb.id = x.id := by rw [← hyx]; rfl
  rw [hyid] at hpl
  have FD := v6 (va1 bb (l.map Sx.sb) x.id _ w hB.cells.2.1 (SbRow.subs hB.row) hB.up (by rw [List.length_map]; exact hB.n8))
  rw [hpl.1, hpl.2] at FD
  have CELLS : Hid (∀ w', Below w.heap.size w w' → w'.cell? ⟨bb, 1, none⟩ = some (.slice (some ⟨g, 0, none⟩) l.length c)) := v6 fun w' hb => (hB.below hb).cells.2.1
  have POP : Hid (∀ w', Below w.heap.size w w' → Calls Tryz.prog 46 #[.pointer (some ⟨g, i * 3 + 2, none⟩)] w' (vh1 g (i * 3 + 2) 0 y.hv y.ms w')) := v6 fun w' hb => pop_any _ _ _ _ (by have := hB.m6 y (List.mem_of_getElem? hy); omega) w' ((hB.below hb).heap hy)
  have HE : Hid (∀ w1 w2 w3 m, Below w.heap.size w w1 → vh1 g (i * 3 + 2) 0 y.hv y.ms w1 (.returned (.tuple #[mgV m, .bool (decide (0 < y.ms.length))])) w2 → Below w2.heap.size w2 w3 → Q (.returned (.tuple #[.int .i64 m.num, .int .i64 0])) w3) := v6 (by
    rintro w1 w2 w3 m hb1 ⟨v', m', he, hm, hq, hk⟩ hb3
    have em : mgV m = mgV m' := by injection he with e1; injection e1 with e2; simpa using e2
    have em2 : m.num = m'.num := by simp [mgV] at em; exact em.2
    have hB1 := hB.below hb1
    obtain ⟨x', a1, a2, a3, a4, a5, a6, hB2⟩ := hB1.turned hy hq hk (by rw [jh7]; have := hB.m6 y (List.mem_of_getElem? hy); omega)
    have hB3 := hB2.below hb3
    have hz1 := hb1.size
    have hz2 := hk.size
    have hz3 := hb3.size
    have hGrow : Grow F w w3 := by
      refine ⟨hb3.os.trans (hk.os.trans hb1.os), hb3.tape.trans (hk.tape.trans hb1.tape), hb3.output.trans (hk.output.trans hb1.output), by omega, fun k hk1 hk2 => ?_⟩
      rw [hb3.block k (by omega), hk.block k (by omega) (fun e => hk2 (hfoot k (.inl (.inr (.inl (by rw [e]; rfl)))))) (fun e => hk2 (hfoot k (.inl (.inr (.inr (.inr (.inr ⟨y, List.mem_of_getElem? hy, e⟩))))))), hb1.block k hk1]
    have hnum : headN x.ms = m.num := by rw [em2, hm, ← hyx]; rfl
    rw [← hnum]
    refine hQ w3 ⟨?_, _, tv, rv, l.set i x', hB3, ?_, ?_⟩ hGrow
    · intro k hk'
      rcases hk' with hk' | hk'
      · have := hF k hk'; omega
      · exact hk'.2
    · rw [List.map_set, hL]
      congr 1
      rw [← hyx]
      simp [Sx.su, a2, a3, a4]
    · intro k hk'
      have hlt := hB2.foot_lt hk'
      by_cases hkw : w.heap.size ≤ k
      · exact .inr ⟨hkw, by omega⟩
      · left
        apply hfoot
        rcases hk' with (e | e | e | e | ⟨z, hz, e⟩) | ⟨z, hz, e⟩
        · exact .inl (.inl e)
        · exact .inl (.inr (.inl e))
        · exact .inl (.inr (.inr (.inl e)))
        · exact .inl (.inr (.inr (.inr (.inl e))))
        · rcases List.mem_or_eq_of_mem_set hz with hz | rfl
          · exact .inl (.inr (.inr (.inr (.inr ⟨z, hz, e⟩))))
          · rw [a1] at e
            rcases hk.row k e with e' | e'
            · exact .inl (.inr (.inr (.inr (.inr ⟨y, List.mem_of_getElem? hy, e'⟩))))
            · omega
        · rcases List.mem_or_eq_of_mem_set hz with hz | rfl
          · exact .inr ⟨z, hz, e⟩
          · rw [a5, a6] at e
            exact .inr ⟨y, List.mem_of_getElem? hy, e⟩)
  have hi8 : l.length ≤ 8 := hB.n8
  obtain ⟨n, hn⟩ : ∃ n, l.length = n := ⟨_, rfl⟩
  rw [hn] at CELLS hi8 hil
  have i0 : (0 : Int) ≤ (i : Int) := by omega
  have i1 : (i : Int) < (n : Int) := by omega
  clear hB hL hfoot hx hy hyx hpl hyid hQ hn hF
  go_enter Tryz.func22, Tryz.ntmps22
  go_wp2_with (first | (go_at_call 30; refine (q9 FD).mono ?_; rintro e w1 ⟨rfl, hb1⟩; have B1 := v6 hb1; have c1 := q9 CELLS w1 hb1; clear hb1) | (go_at_call 46; refine (q9 POP _ (q9 B1)).mono ?_; intro e w2 hp2; have P2 := v6 hp2; obtain ⟨v2, m2, rfl, hz2⟩ := hp2; clear hz2; unfold mgV))
  exact q9 HE w1 w2 _ m2 (q9 B1) (q9 P2) (by first | exact (Below.refl _ _).alloc (Nat.le_refl _) _ | exact Below.refl _ _)
end
section
theorem vs3 {w : World} {bb : Nat} {a b c d : Value} {t : TypeId} (h : w.heap[bb]? = some (.cells #[a, b, c, d] t (0, 0))) (x : Value) : (w.setCell ⟨bb, 1, none⟩ x).heap[bb]? = some (.cells #[a, x, c, d] t (0, 0)) := by
  rw [setCell_eq_setRow w bb 1 _ t (0, 0) x h]
  exact setRow_heap w bb _ _ t (0, 0) h
theorem jk0 {w : World} {bb : Nat} {a b c d : Value} {t : TypeId} (h : w.heap[bb]? = some (.cells #[a, b, c, d] t (0, 0))) (x : Value) : (w.setCell ⟨bb, 2, none⟩ x).heap[bb]? = some (.cells #[a, b, x, d] t (0, 0)) := by
  rw [setCell_eq_setRow w bb 2 _ t (0, 0) x h]
  exact setRow_heap w bb _ _ t (0, 0) h
theorem jk1 {w : World} {bb : Nat} {a b c d : Value} {t : TypeId} (h : w.heap[bb]? = some (.cells #[a, b, c, d] t (0, 0))) (x : Value) : (w.setCell ⟨bb, 3, none⟩ x).heap[bb]? = some (.cells #[a, b, c, x] t (0, 0)) := by
  rw [setCell_eq_setRow w bb 3 _ t (0, 0) x h]
  exact setRow_heap w bb _ _ t (0, 0) h
theorem blk_set0 {w : World} {bb : Nat} {a b c d : Value} {t : TypeId} (h : w.heap[bb]? = some (.cells #[a, b, c, d] t (0, 0))) (x : Value) : (w.setCell ⟨bb, 0, none⟩ x).heap[bb]? = some (.cells #[x, b, c, d] t (0, 0)) := by
  rw [setCell_eq_setRow w bb 0 _ t (0, 0) x h]
  exact setRow_heap w bb _ _ t (0, 0) h
theorem vx5 {w : World} {bb : Nat} {a b c d : Value} {t : TypeId} (h : w.heap[bb]? = some (.cells #[a, b, c, d] t (0, 0))) : w.cell? ⟨bb, 0, none⟩ = some a ∧ w.cell? ⟨bb, 1, none⟩ = some b ∧ w.cell? ⟨bb, 2, none⟩ = some c ∧ w.cell? ⟨bb, 3, none⟩ = some d ∧ (∀ j, w.frozen? ⟨bb, j, none⟩ = false) ∧ bb < w.heap.size := by
  refine ⟨?_, ?_, ?_, ?_, ?_, (Array.getElem?_eq_some_iff.1 h).1⟩ <;> simp [World.cell?, World.frozen?, h]
def vn1 (l : List Sx) (k : Nat) : List Sx := l.take k ++ l.drop (k + 1)
theorem delX_sb (l : List Sx) (k : Nat) : (vn1 l k).map Sx.sb = vs8 (l.map Sx.sb) k := by simp [vn1, vs8, List.map_append, List.map_take, List.map_drop]
theorem jk8 (l : List Sx) (k : Nat) : (vn1 l k).Sublist l := by
  have h : (l.take k ++ l.drop (k + 1)).Sublist (l.take k ++ l.drop k) := List.Sublist.append_left (by
    have : l.drop (k + 1) = (l.drop k).drop 1 := by rw [List.drop_drop]
    rw [this]
    exact List.drop_sublist _ _) _
  rwa [List.take_append_drop] at h
theorem getX {L : List Su} {l : List Sx} (hL : l.map Sx.su = L) {i : Nat} {x : Su} (hx : L[i]? = some x) : ∃ y, l[i]? = some y ∧ y.su = x := by
  rw [← hL, List.getElem?_map] at hx
  cases hl : l[i]? with
  | none => rw [hl] at hx; cases hx
  | some y => rw [hl] at hx; exact ⟨y, rfl, by simpa using hx⟩
def qn5 (L : List Su) : List Tm × List Nat := qh0 (L.map Su.co) L.length
theorem qx6 (l : List Sx) : qn5 (l.map Sx.su) = (tsX l, rsX l) := by
  unfold qn5 tsX rsX qj8
  rw [List.map_map, List.length_map]
  rfl
def PrgS (L : List Su) : Prop := Prg (qn5 L).1 (qn5 L).2
theorem vd0 {w : World} {bb : Nat} {last : Int} {sv tv rv : Value} {l : List Sx} (hB : BrAt w bb last sv tv rv l) {id : Int} (hno : ∀ x ∈ l, x.id ≠ id) : Calls Tryz.prog 30 #[.pointer (some ⟨bb, 0, none⟩), .int .i64 id] w fun e w' => e = .returned (.tuple #[.int .i64 (qb7 (l.map Sx.sb) id), .bool false]) ∧ Below w.heap.size w w' := by
  have h := va1 bb (l.map Sx.sb) id _ w hB.cells.2.1 (SbRow.subs hB.row) hB.up (by rw [List.length_map]; exact hB.n8)
  have e : ((l.map Sx.sb).any fun s => s.id == id) = false := by
    rw [List.any_eq_false]
    intro s hs
    obtain ⟨x, hx, rfl⟩ := List.mem_map.1 hs
    have := hno x hx
    simpa [Sx.sb] using this
  rw [e] at h
  exact h
set_option maxHeartbeats 2000000 in
theorem poll_no (w : World) (F : Nat → Prop) (bb : Nat) (last : Int) (L : List Su) (h : Br w F bb last L) (id : Int) (hno : ∀ x ∈ L, x.id ≠ id) :
    Calls Tryz.prog 22 #[.pointer (some ⟨bb, 0, none⟩), .int .i64 id] w fun e w' => e = .returned (.tuple #[.int .i64 0, .int .i64 5]) ∧ Below w.heap.size w w' := by
  obtain ⟨hF, sv, tv, rv, l, hB, hL, hfoot⟩ := h
  have FD := v6 (vd0 hB (id := id) (fun x hx => by have := hno x.su (by rw [← hL]; exact List.mem_map_of_mem hx); exact this))
  generalize qb7 (l.map Sx.sb) id = P at *
  clear hB hL hfoot hno hF
  go_enter Tryz.func22, Tryz.ntmps22
  go_wp2_with (go_at_call 30; refine (q9 FD).mono ?_; rintro e w1 ⟨rfl, hb1⟩; have B1 := v6 hb1; clear hb1)
  go_ret2
  exact ⟨rfl, q9 B1⟩
set_option maxHeartbeats 2000000 in
theorem unsub_no (w : World) (F : Nat → Prop) (bb : Nat) (last : Int) (L : List Su) (h : Br w F bb last L) (id : Int) (hno : ∀ x ∈ L, x.id ≠ id) :
    Calls Tryz.prog 19 #[.pointer (some ⟨bb, 0, none⟩), .int .i64 id] w fun e w' => e = .returned (.int .i64 5) ∧ Below w.heap.size w w' := by
  obtain ⟨hF, sv, tv, rv, l, hB, hL, hfoot⟩ := h
  have FD := v6 (vd0 hB (id := id) (fun x hx => by have := hno x.su (by rw [← hL]; exact List.mem_map_of_mem hx); exact this))
  generalize qb7 (l.map Sx.sb) id = P at *
  clear hB hL hfoot hno hF
  go_enter Tryz.func19, Tryz.ntmps19
  go_wp2_with (go_at_call 30; refine (q9 FD).mono ?_; rintro e w1 ⟨rfl, hb1⟩; have B1 := v6 hb1; clear hb1)
  go_ret
  exact ⟨rfl, q9 B1⟩
theorem BrAt.deleted {w w1 wS w2 : World} {bb g n c : Nat} {last : Int} {tv rv tv' rv' : Value} {l : List Sx} (h : BrAt w bb last (.slice (some ⟨g, 0, none⟩) (n + 1) c) tv rv l) {i : Nat}
    (hrow : SbRow w1 0 (.slice (some ⟨g, 0, none⟩) n c) (vs8 (l.map Sx.sb) i)) (hg : w.grownBy w1 (some g)) (hS : wS = w1.setCell ⟨bb, 1, none⟩ (.slice (some ⟨g, 0, none⟩) n c))
    (hr : RowsAt w2 wS.heap.size tv' rv' (tsX (vn1 l i)) (rsX (vn1 l i))) (hb2 : Below wS.heap.size wS w2) (hp : Prg (tsX (vn1 l i)) (rsX (vn1 l i))) :
    BrAt ((w2.setCell ⟨bb, 2, none⟩ tv').setCell ⟨bb, 3, none⟩ rv') bb last (.slice (some ⟨g, 0, none⟩) n c) tv' rv' (vn1 l i) := by
  have hz1 := hg.size
  have hzS : wS.heap.size = w1.heap.size := by rw [hS]; simp
  have hz2 := hb2.size
  have hlt := h.lt
  have hne : bb ≠ g := fun e => by subst e; exact (qm6 h.row h.blk (by decide)) rfl
  have blk1 : w1.heap[bb]? = some (.cells #[.int .i64 last, .slice (some ⟨g, 0, none⟩) (n + 1) c, tv, rv] 67 (0, 0)) := (hg.block bb hlt (fun e => hne (by simpa using e))).trans h.blk
  have blkS := vs3 blk1 (.slice (some ⟨g, 0, none⟩) n c)
  rw [← hS] at blkS
  have blk2 := (hb2.block bb (by omega)).trans blkS
  have blk3 := jk1 (jk0 blk2 tv') rv'
  have keep : ∀ k, k < w.heap.size → k ≠ bb → k ≠ g → ((w2.setCell ⟨bb, 2, none⟩ tv').setCell ⟨bb, 3, none⟩ rv').heap[k]? = w.heap[k]? := fun k h1 h2 h3 => by
    rw [Below.heap_setCell _ ⟨bb, 3, none⟩ _ k (by show k ≠ bb; exact h2), Below.heap_setCell _ ⟨bb, 2, none⟩ _ k (by show k ≠ bb; exact h2), hb2.block k (by omega), hS, Below.heap_setCell _ ⟨bb, 1, none⟩ _ k (by show k ≠ bb; exact h2)]
    exact hg.block k h1 (fun e => h3 (by simpa using e))
  have late : ∀ k, k ≠ bb → ((w2.setCell ⟨bb, 2, none⟩ tv').setCell ⟨bb, 3, none⟩ rv').heap[k]? = w2.heap[k]? := fun k h2 => by
    rw [Below.heap_setCell _ ⟨bb, 3, none⟩ _ k (by show k ≠ bb; exact h2), Below.heap_setCell _ ⟨bb, 2, none⟩ _ k (by show k ≠ bb; exact h2)]
  have sub := jk8 l i
  have hgl : g < w.heap.size := (h.row.lt g rfl).2
  refine ⟨blk3, ?_, ⟨?_, ?_, hr.ne⟩, fun x hx => ?_, h.dis.sublist sub, fun x hx => ?_, fun x hx k hk => ?_, ?_, Nat.le_trans sub.length_le h.n8, fun x hx => h.m6 x (sub.subset hx), hp⟩
  · show World.ownsRow _ 0 _ 3 _ ((vn1 l i).map Sx.sb).length (j4 ((vn1 l i).map Sx.sb))
    rw [delX_sb]
    refine v9 hrow fun k hk => ?_
    have e : g = k := by simpa [Value.ownBlock] using hk
    subst e
    rw [late g (fun e => hne e.symm), hb2.block g (by omega), hS, Below.heap_setCell _ ⟨bb, 1, none⟩ _ g (by show g ≠ bb; exact fun e => hne e.symm)]
  · exact y9 (v9 hr.ats fun k hk => late k (fun e => by have := (hr.ats.lt k hk).1; omega)) (Nat.zero_le _)
  · exact y9 (v9 hr.ars fun k hk => late k (fun e => by have := (hr.ars.lt k hk).1; omega)) (Nat.zero_le _)
  · have ho := h.hps x (sub.subset hx)
    exact v9 ho fun k hk => keep k (ho.lt k hk).2 (fun e => by subst e; exact qm6 ho h.blk (by decide) hk) (fun e => by subst e; exact qv1 ho h.row (by decide) hk rfl)
  · obtain ⟨h1, h2, h3⟩ := h.cos x (sub.subset hx)
    refine ⟨CoAt.keep (Nat.le_refl _) (fun k k1 k2 => keep k (by omega) ?_ ?_) (by simp; omega) h1, by simp; omega, h3⟩
    · intro e
      have := h.out x (sub.subset hx) k (.inl e)
      omega
    · intro e
      have := h.out x (sub.subset hx) k (.inr (.inl (by rw [e]; rfl)))
      omega
  · have h2 := (h.cos x (sub.subset hx)).2.1
    rcases hk with e | e | e | e | ⟨y, hy, e⟩
    · exact h.out x (sub.subset hx) k (.inl e)
    · exact h.out x (sub.subset hx) k (.inr (.inl e))
    · have := (hr.ats.lt k e).1; right; omega
    · have := (hr.ars.lt k e).1; right; omega
    · exact h.out x (sub.subset hx) k (.inr (.inr (.inr (.inr ⟨y, sub.subset hy, e⟩))))
  · exact h.up.sublist (sub.map _)
theorem PrgS.at {l : List Sx} (h : PrgS (l.map Sx.su)) : Prg (tsX l) (rsX l) := by
  unfold PrgS at h
  rw [qx6] at h
  exact h
theorem vh8 {l : List Sx} {k : Nat} (hk : k < l.length) : (vn1 l k).length = l.length - 1 := by simp [vn1]; omega
set_option maxHeartbeats 4000000 in
set_option maxRecDepth 100000 in
theorem unsub_at (w : World) (F : Nat → Prop) (bb : Nat) (last : Int) (L : List Su) (h : Br w F bb last L) (i : Nat) (x : Su) (hx : L[i]? = some x) (hprg : PrgS (L.take i ++ L.drop (i + 1)))
    (Q : Ending → World → Prop) (hQ : ∀ w', Br w' (upF F w w') bb last (L.take i ++ L.drop (i + 1)) → Grow F w w' → Q (.returned (.int .i64 0)) w') :
    Calls Tryz.prog 19 #[.pointer (some ⟨bb, 0, none⟩), .int .i64 x.id] w Q := by
  obtain ⟨hF, sv, tv, rv, l, hB, hL, hfoot⟩ := h
  obtain ⟨y, hy, hyx⟩ := getX hL hx
  have hil := (List.getElem?_eq_some_iff.1 hy).1
  obtain ⟨n, hn⟩ : ∃ n, l.length = n + 1 := ⟨l.length - 1, by omega⟩
  obtain ⟨g, c, rfl⟩ : ∃ g c, sv = .slice (some ⟨g, 0, none⟩) (n + 1) c := by
    rcases qd6 hB.row with ⟨_, h0⟩ | ⟨g, c, hv⟩
    · simp at h0; subst h0; simp at hil
    · exact ⟨g, c, by rw [hv, List.length_map, hn]⟩
  have hpl := vu5 hB.up (i := i) (s := y.sb) (by rw [List.getElem?_map, hy]; rfl)
  have hyid : y.sb.id = x.id := by rw [← hyx]; rfl
  rw [hyid] at hpl
  have FD := v6 (va1 bb (l.map Sx.sb) x.id _ w hB.cells.2.1 (SbRow.subs hB.row) hB.up (by rw [List.length_map]; exact hB.n8))
  rw [hpl.1, hpl.2] at FD
  have hdL : (vn1 l i).map Sx.su = L.take i ++ L.drop (i + 1) := by rw [← hL]; simp [vn1, List.map_append, List.map_take, List.map_drop]
  have hp' : Prg (tsX (vn1 l i)) (rsX (vn1 l i)) := PrgS.at (by rw [hdL]; exact hprg)
  have hne : bb ≠ g := fun e => by subst e; exact (qm6 hB.row hB.blk (by decide)) rfl
  have CELLS : Hid (∀ w', Below w.heap.size w w' → w'.cell? ⟨bb, 1, none⟩ = some (.slice (some ⟨g, 0, none⟩) (n + 1) c)) := v6 fun w' hb => (hB.below hb).cells.2.1
  have DEL : Hid (∀ w', Below w.heap.size w w' → Calls Tryz.prog 45 #[.slice (some ⟨g, 0, none⟩) (n + 1 : Nat) c, .int .i64 i, .int .i64 ((i : Int) + 1)] w' fun e w'' => e = .returned (.slice (some ⟨g, 0, none⟩) n c) ∧ w''.cell? ⟨bb, 1, none⟩ = some (.slice (some ⟨g, 0, none⟩) (n + 1) c) ∧ (∀ j, w''.frozen? ⟨bb, j, none⟩ = false) ∧ bb < w''.heap.size ∧ Hid (SbRow w'' 0 (.slice (some ⟨g, 0, none⟩) n c) (vs8 (l.map Sx.sb) i)) ∧ Hid (w'.grownBy w'' (some g))) := v6 (by
    intro w' hb
    have hB' := hB.below hb
    refine (jr7 (l.map Sx.sb) n i c g (by rw [List.length_map, hn]) 0 w' hB'.row (by omega) (by have := hB.n8; omega)).mono ?_
    rintro e w'' ⟨rfl, hrow, hgr⟩
    have hl : (vs8 (l.map Sx.sb) i).length = n := by rw [qt4 (by rw [List.length_map]; exact hil), List.length_map, hn]; rfl
    rw [hl] at hrow ⊢
    obtain ⟨_, b1, _, _, b4, b5⟩ := vx5 ((hgr.block bb hB'.lt (fun e => hne (by simpa using e))).trans hB'.blk)
    exact ⟨rfl, b1, b4, b5, v6 hrow, v6 hgr⟩)
  have TG : Hid (∀ w' w'', Below w.heap.size w w' → SbRow w'' 0 (.slice (some ⟨g, 0, none⟩) n c) (vs8 (l.map Sx.sb) i) → w'.grownBy w'' (some g) → Calls Tryz.prog 35 #[.slice (some ⟨g, 0, none⟩) n c] (w''.setCell ⟨bb, 1, none⟩ (.slice (some ⟨g, 0, none⟩) n c)) fun e w3 => ∃ a2 n2 c2 a3 n3 c3, e = .returned (.agg #[.slice a2 n2 c2, .slice a3 n3 c3]) ∧ (∃ u2 u3, w3.cell? ⟨bb, 2, none⟩ = some u2 ∧ w3.cell? ⟨bb, 3, none⟩ = some u3) ∧ (∀ j, w3.frozen? ⟨bb, j, none⟩ = false) ∧ bb < w3.heap.size ∧ Hid (Q (.returned (.int .i64 0)) ((w3.setCell ⟨bb, 2, none⟩ (.slice a2 n2 c2)).setCell ⟨bb, 3, none⟩ (.slice a3 n3 c3)))) := v6 (by
    intro w1 w2 hb1 hrow hgr
    have hB1 := hB.below hb1
    obtain ⟨wS, hS⟩ : ∃ wS, wS = w2.setCell ⟨bb, 1, none⟩ (.slice (some ⟨g, 0, none⟩) n c) := ⟨_, rfl⟩
    rw [← hS]
    have hzS : wS.heap.size = w2.heap.size := by rw [hS]; simp
    have hz1 := hb1.size
    have hzg := hgr.size
    have hrowS : SbRow wS 0 (.slice (some ⟨g, 0, none⟩) n c) (vs8 (l.map Sx.sb) i) := by
      rw [hS]
      exact v9 hrow fun k hk => Below.heap_setCell _ ⟨bb, 1, none⟩ _ k (by
        have e : g = k := by simpa [Value.ownBlock] using hk
        show k ≠ bb
        exact fun e' => hne (by rw [← e', ← e]))
    have keepS : ∀ k, k < w1.heap.size → k ≠ bb → k ≠ g → wS.heap[k]? = w1.heap[k]? := fun k h1 h2 h3 => by
      rw [hS, Below.heap_setCell _ ⟨bb, 1, none⟩ _ k (by show k ≠ bb; exact h2)]
      exact hgr.block k h1 (fun e => h3 (by simpa using e))
    have hlen : (vs8 (l.map Sx.sb) i).length = n := by rw [qt4 (by rw [List.length_map]; exact hil), List.length_map, hn]; rfl
    have hcl : (qj8 (vn1 l i)).length = n := by unfold qj8; rw [List.length_map, vh8 hil, hn]; rfl
    have sub := jk8 l i
    have T := qx0 (vs8 (l.map Sx.sb) i) (qj8 (vn1 l i)) (by rw [hcl, hlen]) (by rw [hlen]; have := hB.n8; omega) (.slice (some ⟨g, 0, none⟩) n c) wS (SbRow.subs hrowS) (by
      intro k s cc hs hc
      rw [← delX_sb, List.getElem?_map] at hs
      unfold qj8 at hc
      rw [List.getElem?_map] at hc
      cases hz : (vn1 l i)[k]? with
      | none => rw [hz] at hs; cases hs
      | some z =>
        rw [hz] at hs hc
        simp at hs hc
        subst hs hc
        have hzm := sub.subset (List.mem_of_getElem? hz)
        obtain ⟨q1, q2, q3, q4⟩ := hB1.cos z hzm
        refine ⟨?_, q3, q4⟩
        have q5 : CoAt z.lo wS.heap.size wS (.pointer z.cp) z.co := CoAt.keep (by omega) (fun k k1 k2 => keepS k (by omega) (fun e => by have := hB1.out z hzm k (.inl e); omega) (fun e => by have := hB1.out z hzm k (.inr (.inl (by rw [e]; rfl))); omega)) (by omega) q1
        exact CoAt.low (Nat.zero_le _) q5)
    refine T.mono ?_
    rintro e w3 ⟨tv', rv', rfl, hr, hb3⟩
    rw [hlen] at hr
    have hr' : RowsAt w3 wS.heap.size tv' rv' (tsX (vn1 l i)) (rsX (vn1 l i)) := by
      unfold tsX rsX
      rw [vh8 hil, hn]
      exact hr
    have hz3 := hb3.size
    have hBd := hB1.deleted hrow hgr hS hr' hb3 hp'
    obtain ⟨a2, c2, rfl⟩ := hr.ats.form
    obtain ⟨a3, c3, rfl⟩ := hr.ars.form
    have blk1 := (hgr.block bb hB1.lt (fun e => hne (by simpa using e))).trans hB1.blk
    have blkS := vs3 blk1 (.slice (some ⟨g, 0, none⟩) n c)
    rw [← hS] at blkS
    obtain ⟨_, _, b2, b3, b4, b5⟩ := vx5 ((hb3.block bb (by have := hB.lt; omega)).trans blkS)
    refine ⟨a2, _, c2, a3, _, c3, rfl, ⟨_, _, b2, b3⟩, b4, b5, v6 (hQ _ ⟨?_, _, _, _, vn1 l i, hBd, hdL, ?_⟩ ?_)⟩
    · intro k hk
      rcases hk with hk | hk
      · have := hF k hk; simp; omega
      · exact hk.2
    · intro k hk
      have hlt := hBd.foot_lt hk
      by_cases hkw : w.heap.size ≤ k
      · exact .inr ⟨hkw, hlt⟩
      · left
        apply hfoot
        rcases hk with (e | e | e | e | ⟨z, hz, e⟩) | ⟨z, hz, e⟩
        · exact .inl (.inl e)
        · exact .inl (.inr (.inl e))
        · have := (hr.ats.lt k e).1; omega
        · have := (hr.ars.lt k e).1; omega
        · exact .inl (.inr (.inr (.inr (.inr ⟨z, sub.subset hz, e⟩))))
        · exact .inr ⟨z, sub.subset hz, e⟩
    · refine ⟨hb3.os.trans ?_, hb3.tape.trans ?_, hb3.output.trans ?_, by simp; omega, fun k h1 h2 => ?_⟩
      · rw [hS]; exact hgr.os.trans hb1.os
      · rw [hS]; exact hgr.tape.trans hb1.tape
      · rw [hS]; exact hgr.output.trans hb1.output
      · have hkb : k ≠ bb := fun e => h2 (hfoot k (.inl (.inl e)))
        have hkg : k ≠ g := fun e => h2 (hfoot k (.inl (.inr (.inl (by rw [e]; rfl)))))
        rw [Below.heap_setCell _ ⟨bb, 3, none⟩ _ k (by show k ≠ bb; exact hkb), Below.heap_setCell _ ⟨bb, 2, none⟩ _ k (by show k ≠ bb; exact hkb), hb3.block k (by omega), keepS k (by omega) hkb hkg]
        exact hb1.block k h1)
  have hi8 : l.length ≤ 8 := hB.n8
  have iw : (i : Int) ≤ 1000 := by omega
  have i0 : (0 : Int) ≤ (i : Int) := by omega
  clear hB hL hfoot hx hy hyx hpl hyid hQ hn hF hdL hp' hprg hil hi8
  go_enter Tryz.func19, Tryz.ntmps19
  go_wp2_with (first | (go_at_call 30; refine (q9 FD).mono ?_; rintro e w1 ⟨rfl, hb1⟩; have B1 := v6 hb1; have c1 := q9 CELLS w1 hb1; clear hb1) | (go_at_call 45; refine (q9 DEL _ (q9 B1)).mono ?_; rintro e w2 ⟨rfl, c2, f2, l2, R2, G2⟩) | (go_at_call 35; refine (q9 TG w1 w2 (q9 B1) (q9 R2) (q9 G2)).mono ?_; rintro e w3 ⟨a2, n2, cc2, a3, n3, cc3, rfl, ⟨u2, u3, d2, d3⟩, f3, l3, E3⟩))
  exact q9 E3
end
end Go.Proofs.YtfkcaldjphakpabGreatDoor
