/- Compile of selectors that are all read, and together have no more terms than there may be. find; Live, Nodes, New. together: one program of the selectors of subscriptions. sieve.Run of any bytes and any event. -/
import Derived.Test.YtfkcaldjphakpabGreatDoorM14
import Derived.Test.YtfkcaldjphakpabGreatDoorM24
import Derived.Test.YtfkcaldjphakpabGreatDoorM22
import Derived.Test.YtfkcaldjphakpabGreatDoorM31
import Derived.Test.YtfkcaldjphakpabGreatDoorM13
import Derived.Test.YtfkcaldjphakpabGreatDoorM27
namespace Go.Proofs.YtfkcaldjphakpabGreatDoor
open Go.RowKit

section
/-- The first k cores are added. -/
def addK (cs : List Co) : Nat → List Tm × List Nat
  | 0 => ([], [])
  | k + 1 => ((placeL (addK cs k).1 (cs.getD k (.leaf ⟨3, 0, [], []⟩))).1, (addK cs k).2 ++ [(placeL (addK cs k).1 (cs.getD k (.leaf ⟨3, 0, [], []⟩))).2])

theorem addK_roots (cs : List Co) (k : Nat) : (addK cs k).2.length = k ∧ ∀ r ∈ (addK cs k).2, r < (addK cs k).1.length := by
  induction k with
  | zero => exact ⟨rfl, fun r hr => by simp [addK] at hr⟩
  | succ k ih =>
    have hp := placeL_len (addK cs k).1 (cs.getD k (.leaf ⟨3, 0, [], []⟩))
    refine ⟨by rw [addK, List.length_append, ih.1]; rfl, fun r hr => ?_⟩
    rw [addK, List.mem_append] at hr
    rw [addK]
    rcases hr with hr | hr
    · have := ih.2 r hr
      show r < (placeL (addK cs k).1 (cs.getD k (.leaf ⟨3, 0, [], []⟩))).1.length
      omega
    · simp at hr
      subst hr
      exact hp.2.2

/-- A text whose core is known. -/
def TxOk (s : List UInt8) (c : Co) : Prop := ∃ t, readR (BS s) = .ok t ∧ coreA t = c ∧ (HasIn t → AmongOk) ∧ GoodC c ∧ sizeC c ≤ 10000 ∧ s.length ≤ 140737488355328

theorem MkAt.prog {W : World} {mb mp : Nat} {ts : List Tm} {rs : List Nat} {tv rv : Value} (h : MkAt W mb mp ts rs tv rv) : ProgAt W mb 0 ts rs := ⟨h.lt, ⟨tv, _, h.c0, h.ats⟩, rv, _, h.c1, h.ars⟩

theorem below_mk {w W W' : World} {mb mp : Nat} {ts : List Tm} {rs : List Nat} {tv rv tv' rv' : Value} (hb : Below w.heap.size w W) (hm : MkAt W mb mp ts rs tv rv) (hk : MkKept mb mp tv rv tv' rv' W W') (hp : w.heap.size ≤ mp) : Below w.heap.size w W' := by
  have hlo := hm.lo
  refine ⟨hk.os.trans hb.os, hk.tape.trans hb.tape, hk.output.trans hb.output, Nat.le_trans hb.size hk.size, fun k hlt => (hk.block k (by have := hb.size; omega) (fun ho => ?_)).trans (hb.block k hlt)⟩
  rcases ho with rfl | rfl | ho | ho
  · omega
  · omega
  · have := (hm.ats.lt k ho).1; omega
  · have := (hm.ars.lt k ho).1; omega
end

section
attribute [local go_sem ↓] app_fold

theorem SubsAt.form {w : World} {lo : Nat} {v : Value} {l : List Sb} (h : SubsAt w lo v l) : ∃ a c, v = .slice a l.length c := by
  obtain ⟨a, c, hv, _⟩ := h
  exact ⟨a, c, hv⟩

set_option maxHeartbeats 400000 in
theorem bfind_any (bb : Nat) (l : List Sb) (id : Int) (v : Value) (w : World) (hc : w.cell? ⟨bb, 1, none⟩ = some v) (h : SubsAt w w.heap.size v l) (hup : RisingS l) (hn : l.length ≤ 8) :
    Calls Tryz.prog 30 #[.pointer (some ⟨bb, 0, none⟩), .int .i64 id] w fun e w' => e = .returned (.tuple #[.int .i64 (placeId l id), .bool (l.any fun s => s.id == id)]) ∧ Below w.heap.size w w' := by
  have BS := hide (bsearch_any l id v w h hup hn)
  obtain ⟨a, c, rfl⟩ := h.form
  obtain ⟨F, hF⟩ : ∃ F, (l.any fun s => s.id == id) = F := ⟨_, rfl⟩
  obtain ⟨P, hP⟩ : ∃ P, placeId l id = P := ⟨_, rfl⟩
  rw [hF, hP] at BS ⊢
  clear hF hP h
  go_enter Tryz.func30, Tryz.ntmps30
  go_wp2_with (go_at_call 51; refine (unhide BS).mono ?_; rintro e w1 ⟨rfl, hb1⟩; have B1 := hide hb1; clear hb1)
  go_ret2
  exact ⟨rfl, unhide B1⟩

set_option maxHeartbeats 400000 in
theorem new_any (w : World) : Calls Tryz.prog 10 #[] w fun e w' => e = .returned (.pointer (some ⟨w.heap.size, 0, none⟩)) ∧ w' = w.alloc (.cells #[.int .i64 0, .slice none 0 0, .slice none 0 0, .slice none 0 0] 67) := by
  go_enter Tryz.func10, Tryz.ntmps10
  go_wp2_with fail
  go_ret
  exact ⟨rfl, rfl⟩
end

section
theorem CoAt.low {B B' E : Nat} {w : World} (hB : B' ≤ B) : ∀ {c : Co} {v : Value}, CoAt B E w v c → CoAt B' E w v c := by
  have hc : ∀ {b : Nat} {p : CP} {l r : Value} {t : List UInt8}, CellsC B E w b p l r t → CellsC B' E w b p l r t := fun h => ⟨Nat.le_trans hB h.lo, h.hi, h.within, h.c0, h.c1, h.c2, h.c3, h.c4, h.c5, h.c6⟩
  intro c
  induction c with
  | leaf p => rintro v ⟨b, rfl, h⟩; exact ⟨b, rfl, hc h⟩
  | un p x ih => rintro v ⟨b, vx, rfl, h, hx⟩; exact ⟨b, vx, rfl, hc h, ih hx⟩
  | bin p x y ihx ihy => rintro v ⟨b, vx, vy, rfl, h, hx, hy⟩; exact ⟨b, vx, vy, rfl, hc h, ihx hx, ihy hy⟩

theorem ownsRow_le' {w : World} {base base' size n : Nat} {e : TypeId} {v : Value} {xs : List Value} (h : w.ownsRow base e size v n xs) (hb : base' ≤ base) : w.ownsRow base' e size v n xs := by
  refine ⟨h.1, ?_⟩
  rcases h.2 with hn | ⟨g, cap, cur, rfl, hbg, rest⟩
  · exact .inl hn
  · exact .inr ⟨g, cap, cur, rfl, by omega, rest⟩

/-- A program's two rows. -/
structure RowsAt (w : World) (base : Nat) (tv rv : Value) (ts : List Tm) (rs : List Nat) : Prop where
  ats : TsAt w base tv ts
  ars : IsAt w base rv rs
  ne : ∀ g, tv.ownBlock = some g → rv.ownBlock ≠ some g

/-- How together ends. -/
def TgEnds (w : World) (cs : List Co) (n : Nat) (e : Ending) (w' : World) : Prop := ∃ tv rv, e = .returned (.agg #[tv, rv]) ∧ RowsAt w' w.heap.size tv rv (addK cs n).1 (addK cs n).2 ∧ Below w.heap.size w w'

theorem IsAt.form {w : World} {base : Nat} {v : Value} {l : List Nat} (h : IsAt w base v l) : ∃ a c, v = .slice a l.length c := by
  rcases h.2 with ⟨rfl, hn⟩ | ⟨g, cap, cur, rfl, _⟩
  · exact ⟨none, 0, by rw [hn]⟩
  · exact ⟨_, _, rfl⟩

/-- A core, and that it may be put into a program. -/
def CoOk (w : World) (v : Value) (c : Co) : Prop := CoAt 0 w.heap.size w v c ∧ GoodC c ∧ sizeC c ≤ 10000

set_option maxHeartbeats 2000000 in
set_option maxRecDepth 100000 in
theorem together_any (l : List Sb) (cs : List Co) (hlen : cs.length = l.length) (h8 : l.length ≤ 8) (v : Value) (w : World) (hv : SubsAt w w.heap.size v l) (hcs : ∀ (k : Nat) (s : Sb) (c : Co), l[k]? = some s → cs[k]? = some c → CoOk w (.pointer s.core) c) :
    Calls Tryz.prog 35 #[v] w (TgEnds w cs l.length) := by
  have HCS := hide hcs
  have HLEN := hide hlen
  obtain ⟨a, cap, rfl, hx⟩ := hv
  have HX := hide hx
  obtain ⟨W1, hW1⟩ : ∃ W1, W1 = w.alloc (.cells #[.slice none 0 0, .slice none 0 0] 65) := ⟨_, rfl⟩
  have hz1 : W1.heap.size = w.heap.size + 1 := by rw [hW1]; simp
  have HB1 : Hid (Below w.heap.size w W1) := hide (by rw [hW1]; exact (Below.refl _ _).alloc (Nat.le_refl _) _)
  have HC1 : Hid (W1.cell? ⟨w.heap.size, 0, none⟩ = some (.slice none 0 0) ∧ W1.cell? ⟨w.heap.size, 1, none⟩ = some (.slice none 0 0) ∧ ∀ j, W1.frozen? ⟨w.heap.size, j, none⟩ = false) := hide (by rw [hW1]; simp [go_sem])
  have NM := hide (newMaker_any W1)
  have HK : Hid (∀ k, k ≤ l.length → (addK cs k).1.length ≤ k * 10000 ∧ (addK cs k).2.length = k) := hide (by
    intro k
    induction k with
    | zero => intro _; exact ⟨by simp [addK], rfl⟩
    | succ k ih =>
      intro hk
      obtain ⟨i1, i2⟩ := ih (by omega)
      obtain ⟨s, hs⟩ : ∃ s, l[k]? = some s := ⟨_, List.getElem?_eq_getElem (by omega)⟩
      obtain ⟨c, hc⟩ : ∃ c, cs[k]? = some c := ⟨_, List.getElem?_eq_getElem (by omega)⟩
      have hz := (hcs k s c hs hc).2.2
      refine ⟨?_, (addK_roots cs (k + 1)).1⟩
      have := (placeL_len (addK cs k).1 c).2.1
      rw [addK, List.getD_eq_getElem?_getD, hc]
      show (placeL (addK cs k).1 c).1.length ≤ _
      omega)
  have HQ : Hid (∀ e w', TgEnds w cs l.length e w' → TgEnds w cs l.length e w') := hide fun _ _ h => h
  obtain ⟨Q, hQ⟩ : ∃ Q, TgEnds w cs l.length = Q := ⟨_, rfl⟩
  rw [hQ] at HQ ⊢
  have HQ' : Hid (∀ e w', TgEnds w cs l.length e w' → Q e w') := hide (by rw [← hQ]; exact fun _ _ h => h)
  clear HQ hQ hx hcs hlen
  obtain ⟨n, hn⟩ : ∃ n, l.length = n := ⟨_, rfl⟩
  rw [hn] at HLEN HK HQ' h8 ⊢
  have HN := hide hn
  clear hn
  go_enter Tryz.func35, Tryz.ntmps35
  go_wp2_with (go_at_call 37; rw [← hW1]; refine (unhide NM).mono ?_; rintro e w1 ⟨rfl, hm1, hb1⟩; have M1 := hide hm1; have B1 := hide hb1; rw [hz1] at M1 ⊢; clear hm1 hb1)
  clear hW1
  go_loopw [9] (fun i wr => ∃ (k : Nat) (tv rv : Value), k ≤ n ∧ i = .int .i64 k ∧ Hid (MkAt wr (w.heap.size + 1 + 1) (w.heap.size + 1) (addK cs k).1 (addK cs k).2 tv rv) ∧ Hid (Below W1.heap.size W1 wr)) (fun i _ => n - (intOf i).toNat)
  case atStart => exact ⟨0, _, _, Nat.zero_le _, rfl, M1, B1⟩
  case round =>
    obtain ⟨k, tv, rv, hk, rfl, MK, HB⟩ := hrel
    have hBw : Hid (Below w.heap.size w wr) := hide ((unhide HB1).trans ((unhide HB).mono (by omega)))
    by_cases hlt : k < n
    · obtain ⟨s, hs⟩ : ∃ s, l[k]? = some s := ⟨_, List.getElem?_eq_getElem (by have := unhide HN; omega)⟩
      obtain ⟨c, hc⟩ : ∃ c, cs[k]? = some c := ⟨_, List.getElem?_eq_getElem (by have := unhide HLEN; omega)⟩
      obtain ⟨g, rfl, glt, s0, s1, s2⟩ := unhide HX k s hs
      obtain ⟨hcoat, hgood, hsize⟩ := unhide HCS k s c hs hc
      rw [← (unhide hBw).cell (p := ⟨g, k * 3, none⟩) glt] at s0
      rw [← (unhide hBw).cell (p := ⟨g, k * 3 + 1, none⟩) glt] at s1
      rw [← (unhide hBw).cell (p := ⟨g, k * 3 + 2, none⟩) glt] at s2
      have hk0 : (0 : Int) ≤ (k : Int) := by omega
      have hk1 : (k : Int) < (n : Int) := by omega
      have hS : Hid (addK cs (k + 1) = ((placeL (addK cs k).1 c).1, (addK cs k).2 ++ [(placeL (addK cs k).1 c).2])) := hide (by rw [addK, List.getD_eq_getElem?_getD, hc]; rfl)
      obtain ⟨hle, hrl⟩ := unhide HK k hk
      have AD : Hid (∀ (U : World), Below wr.heap.size wr U → Calls Tryz.prog 38 #[.pointer (some ⟨w.heap.size + 1 + 1, 0, none⟩), .pointer s.core] U fun e w' => ∃ tv' rv', e = .returned (.tuple #[]) ∧ MkAt w' (w.heap.size + 1 + 1) (w.heap.size + 1) (addK cs (k + 1)).1 (addK cs (k + 1)).2 tv' rv' ∧ Below W1.heap.size W1 w') := hide (by
        intro U hU
        have hmU := (unhide MK).below hU
        have hUw := below_any (unhide hBw) hU
        have hcU : CoAt 0 w.heap.size U (.pointer s.core) c := CoAt.keep (Nat.le_refl _) (fun i _ h2 => hUw.block i h2) hUw.size hcoat
        refine madd_any c hgood 0 w.heap.size _ _ U _ _ _ tv rv hmU hcU hUw.size (fun j hj => ?_) (by omega) (by omega) _ ?_
        · rcases hj with rfl | rfl | hj | hj
          · right; omega
          · right; omega
          · right; have := (hmU.ats.lt j hj).1; omega
          · right; have := (hmU.ars.lt j hj).1; omega
        · intro w' tv' rv' h1 h2
          rw [unhide hS]
          exact ⟨tv', rv', rfl, h1, below_mk (below_any (unhide HB) hU) hmU h2 (by omega)⟩)
      obtain ⟨R, hR⟩ : ∃ R, addK cs (k + 1) = R := ⟨_, rfl⟩
      rw [hR] at AD
      have HR := hide hR
      have hU1 : Below wr.heap.size wr (wr.alloc (.cells #[.int .i64 s.id, .pointer s.core, .slice s.row s.len s.cap] 83)) := (Below.refl _ _).alloc (Nat.le_refl _) _
      clear hS hle hrl hR hs hc hcoat hgood hsize
      go_wp2_with (go_at_call 38; refine (unhide AD _ (by with_reducible assumption)).mono ?_; rintro e w4 ⟨tv4, rv4, rfl, hm4, hb4⟩; have M4 := hide hm4; have B4 := hide hb4; clear hm4 hb4)
      exact ⟨⟨k + 1, _, _, by omega, rfl, by rw [unhide HR]; exact M4, B4⟩, by simp [intOf]; omega⟩
    · have : k = n := by omega
      subst this
      obtain ⟨ta, tc, rfl⟩ := (unhide MK).ats.form
      obtain ⟨ra, rc, rfl⟩ := (unhide MK).ars.form
      have m0 := (unhide MK).c0
      have m1 := (unhide MK).c1
      have mlt := (unhide MK).lt
      obtain ⟨d0, d1, df⟩ := unhide HC1
      rw [← (unhide HB).cell (p := ⟨w.heap.size, 0, none⟩) (by show w.heap.size < _; omega)] at d0
      rw [← (unhide HB).cell (p := ⟨w.heap.size, 1, none⟩) (by show w.heap.size < _; omega)] at d1
      have df' : ∀ j, wr.frozen? ⟨w.heap.size, j, none⟩ = false := fun j => ((unhide HB).frozen (p := ⟨w.heap.size, j, none⟩) (by show w.heap.size < _; omega)).trans (df j)
      have hRow : Hid (∀ x y, TgEnds w cs k (.returned (.agg #[.slice ta (addK cs k).1.length tc, .slice ra (addK cs k).2.length rc])) ((wr.setCell ⟨w.heap.size, 0, none⟩ x).setCell ⟨w.heap.size, 1, none⟩ y)) := hide (by
        intro x y
        have hb2 : Below w.heap.size wr ((wr.setCell ⟨w.heap.size, 0, none⟩ x).setCell ⟨w.heap.size, 1, none⟩ y) := ((Below.refl _ _).setCell (by exact Nat.le_refl _) _).setCell (by exact Nat.le_refl _) _
        have hne : ∀ j, w.heap.size + 1 + 1 + 1 ≤ j → ((wr.setCell ⟨w.heap.size, 0, none⟩ x).setCell ⟨w.heap.size, 1, none⟩ y).heap[j]? = wr.heap[j]? := fun j hj =>
          (Below.heap_setCell _ ⟨w.heap.size, 1, none⟩ y j (by show j ≠ w.heap.size; omega)).trans (Below.heap_setCell _ ⟨w.heap.size, 0, none⟩ x j (by show j ≠ w.heap.size; omega))
        refine ⟨_, _, rfl, ⟨?_, ?_, (unhide MK).ne⟩, (unhide hBw).trans hb2⟩
        · have h := (unhide MK).ats
          exact ownsRow_le' (ownsRow_same h fun g hg => hne g (h.lt g hg).1) (by omega)
        · have h := (unhide MK).ars
          exact ownsRow_le' (ownsRow_same h fun g hg => hne g (h.lt g hg).1) (by omega))
      go_wp2_with fail
      refine bodyPost_ret (by simp [results, Tryz.results35, go_sem, d0, d1] <;> rfl) rfl ?_
      exact unhide HQ' _ _ (unhide hRow _ _)
end

section
theorem BytesAt.below {w w' : World} {v : Value} {l : List UInt8} (h : BytesAt w w.heap.size v l) (hb : Below w.heap.size w w') : BytesAt w' w'.heap.size v l := by
  obtain ⟨a, c, hv, hc, hx⟩ := h
  refine ⟨a, c, hv, hc, fun i x hi => ?_⟩
  obtain ⟨b, o, ha, hbl, hcell⟩ := hx i x hi
  exact ⟨b, o, ha, Nat.lt_of_lt_of_le hbl hb.size, (hb.cell (p := ⟨b, o + i, none⟩) hbl).trans hcell⟩
end

end Go.Proofs.YtfkcaldjphakpabGreatDoor
