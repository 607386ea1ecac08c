/- row: operands with operators of one rank between them, whatever reads an operand. -/
import Derived.Test.YtfkcaldjphakpaaGreatDoorQRd5
namespace Go.Proofs.YtfkcaldjphakpaaGreatDoor
open Go.RowKit

def rowLoop (s : ByteArray) (f : St → Res) (ks : List Int) : Nat → Ast → St → Res
  | 0, l, st => .ok l st
  | n + 1, l, st => if ks.contains st.tk.kind then (match joinRes s f st l with
      | .ok l' st' => rowLoop s f ks n l' st'
      | .err en pl => .err en pl) else .ok l st
def rowRes (s : ByteArray) (f : St → Res) (ks : List Int) (st : St) : Res := match f st with
  | .ok l st' => rowLoop s f ks (s.size + 1) l st'
  | .err en pl => .err en pl

theorem rowLoop_stop {s : ByteArray} {f : St → Res} {ks : List Int} {n : Nat} {l : Ast} {st : St} (h : ks.contains st.tk.kind = false) : rowLoop s f ks (n + 1) l st = .ok l st := by
  rw [rowLoop, if_neg (by rw [h]; simp)]
theorem rowLoop_more {s : ByteArray} {f : St → Res} {ks : List Int} {n : Nat} {l l' : Ast} {st st' : St} (h : ks.contains st.tk.kind = true) (hj : joinRes s f st l = .ok l' st') : rowLoop s f ks (n + 1) l st = rowLoop s f ks n l' st' := by
  rw [rowLoop, if_pos h, hj]
theorem rowLoop_err {s : ByteArray} {f : St → Res} {ks : List Int} {n : Nat} {l : Ast} {st : St} {en pl : Int} (h : ks.contains st.tk.kind = true) (hj : joinRes s f st l = .err en pl) : rowLoop s f ks (n + 1) l st = .err en pl := by
  rw [rowLoop, if_pos h, hj]
theorem rowRes_ok {s : ByteArray} {f : St → Res} {ks : List Int} {st st' : St} {l : Ast} (h : f st = .ok l st') : rowRes s f ks st = rowLoop s f ks (s.size + 1) l st' := by unfold rowRes; rw [h]
theorem rowRes_err {s : ByteArray} {f : St → Res} {ks : List Int} {st : St} {en pl : Int} (h : f st = .err en pl) : rowRes s f ks st = .err en pl := by unfold rowRes; rw [h]

/-- The place of the token that the reader looks at. -/
def plOf (w : World) (rb : Nat) : Nat := match w.cell? ⟨rb, 2, none⟩ with
  | some (.int _ n) => n.toNat
  | _ => 0
theorem plOf_at {w : World} {rb : Nat} {s : ByteArray} {st : St} (h : RdAt w rb s st) : plOf w rb = st.place := by
  unfold plOf; rw [h.c2]; simp

theorem KsAt.kept {rb b : Nat} {w w' : World} {ks : List Int} (h : KsAt w b ks) (hk : Kept rb w w') (hb : b < w.heap.size) (hn : ¬ b = rb) : KsAt w' b ks :=
  fun j k hj => ((kcell hk).1 b j hb hn).trans (h j k hj)

set_option maxHeartbeats 1000000 in
set_option maxRecDepth 100000 in
theorem row_both (rb ob cap : Nat) (s : ByteArray) (op : Nat) (f : St → Res) (hf : Reads 102 rb s op f) (ks : List Int) (hks : ks.length ≤ 8) (h0 : ks.contains 0 = false) (st : St) (w : World) (h : Ready rb s w st) (hop : st.op = op) (ho : KsAt w ob ks) (hob : ob < w.heap.size) (hne : ¬ ob = rb) :
    Calls Tryz.prog 101 #[.pointer (some ⟨rb, 0, none⟩), .func (.func 102) #[.pointer (some ⟨rb, 0, none⟩)] #[], .slice (some ⟨ob, 0, none⟩) ks.length cap] w (Gives rb s w op st.place (rowRes s f ks st)) := by
  have H := hide h
  have HF := hide hf
  have HO := hide ho
  have hlt := h.lt
  clear h hf ho
  cases hres : f st with
  | err en pl =>
    rw [rowRes_err hres]
    have HRES := hide hres
    clear hres
    go_enter Tryz.func101, Tryz.ntmps101
    go_wp2_with (go_at_call 102; refine (unhide HF _ st (unhide H) hop).mono ?_; rintro e w1 ⟨hk1, h1⟩; rw [unhide HRES] at h1; subst h1; simp only [gaveUp])
    exact ⟨rfl, hk1, rfl⟩
  | ok l0 st0 =>
    rw [rowRes_ok hres]
    have HRES := hide hres
    clear hres
    obtain ⟨R, hR⟩ : ∃ r, rowLoop s f ks (s.size + 1) l0 st0 = r := ⟨_, rfl⟩
    rw [hR]
    have HR := hide hR
    clear hR
    go_enter Tryz.func101, Tryz.ntmps101
    go_wp2_with (go_at_call 102; refine (unhide HF _ st (unhide H) hop).mono ?_; rintro e w1 ⟨hk1, h1⟩; rw [unhide HRES] at h1; obtain ⟨v1, rfl, hn1, hr1, hf1, ho1, hp1⟩ := h1; have hn1 := hide hn1; have hr1 := hide hr1; have hk1 := hide hk1; have hf1 := hide hf1)
    go_loopw [7] (fun v wr => ∃ (n : Nat) (l : Ast) (sl : St), Hid (R = rowLoop s f ks n l sl) ∧ s.size < n + sl.place ∧ IsNode rb wr v l ∧ Hid (Ready rb s wr sl) ∧ sl.op = op ∧ st.place ≤ sl.place ∧ Kept rb w wr) (fun v wr => s.size + 1 - plOf wr rb)
    case atStart => exact ⟨s.size + 1, l0, st0, hide (unhide HR).symm, by omega, unhide hn1, hide ((unhide H).kept (unhide hk1) (unhide hr1) (unhide hf1)), ho1, hp1, unhide hk1⟩
    case round =>
      obtain ⟨n, l, sl, hR, hn, hnode, hready, hopl, hpl, hk⟩ := hrel
      have hfine := (unhide hready).fine
      have hf1' := hfine.place
      obtain ⟨lb, rfl⟩ := hnode.ptr
      obtain ⟨m, rfl⟩ : ∃ m, n = m + 1 := ⟨n - 1, by omega⟩
      have HKS := hide ((unhide HO).kept hk hob hne)
      have HND := hide hnode
      have HK := hide hk
      have hltr := (unhide hready).lt
      have HPL := hide (plOf_at (unhide hready).at')
      obtain ⟨c0, c1, c2, c3, c4, c5, c6, fz⟩ := (unhide hready).at'
      clear hnode hk
      have CON := fun w => containsK_any ob cap ks sl.tk.kind w hks
      cases hc : ks.contains sl.tk.kind with
      | false =>
        have HRR : Hid (R = .ok l sl) := hide (by rw [unhide hR, rowLoop_stop hc])
        rw [hc] at CON
        have HCON := hide CON
        clear hc CON hR c0 c2 c3 c4 c5 c6 fz
        go_wp2_with (go_at_call 145; refine (unhide HCON _ (unhide HKS)).mono ?_; rintro e w' ⟨rfl, rfl⟩)
        go_ret
        rw [unhide HRR]
        exact ⟨unhide HK, _, rfl, unhide HND, (unhide hready).at', hfine, hopl, hpl⟩
      | true =>
        rw [hc] at CON
        have HCON := hide CON
        have hk0 : sl.tk.kind ≠ 0 := fun h => by rw [h, h0] at hc; cases hc
        have hlong := hfine.long hk0
        cases hj : joinRes s f sl l with
        | err en pl =>
          have HRR : Hid (R = .err en pl) := hide (by rw [unhide hR, rowLoop_err hc hj])
          have HJ := hide hj
          clear hc CON hR hj c0 c2 c3 c4 c5 c6 fz hk0
          go_wp2_with (first | (go_at_call 145; refine (unhide HCON _ (unhide HKS)).mono ?_; rintro e w' ⟨rfl, rfl⟩) | (go_at_call 146; refine (joined_both rb s op f (unhide HF) sl l _ _ (unhide hready) hopl (unhide HND)).mono ?_; rintro e w2 ⟨hk2, h2⟩; rw [unhide HJ] at h2; subst h2; simp only [gaveUp]))
          rw [unhide HRR]
          exact ⟨rfl, (unhide HK).trans hk2, rfl⟩
        | ok l2 st2 =>
          have HRR : Hid (R = rowLoop s f ks m l2 st2) := hide (by rw [unhide hR, rowLoop_more hc hj])
          have HJ := hide hj
          clear hc CON hR hj c0 c2 c3 c4 c5 c6 fz hk0
          go_wp2_with (first | (go_at_call 145; refine (unhide HCON _ (unhide HKS)).mono ?_; rintro e w' ⟨rfl, rfl⟩) | (go_at_call 146; refine (joined_both rb s op f (unhide HF) sl l _ _ (unhide hready) hopl (unhide HND)).mono ?_; rintro e w2 ⟨hk2, h2⟩; rw [unhide HJ] at h2; obtain ⟨v2, rfl, hn2, hr2, hf2, ho2, hp2⟩ := h2; have HPL2 := hide (plOf_at hr2); have hr2 := hide hr2; have hn2 := hide hn2; have hk2 := hide hk2; have hf2 := hide hf2))
          have hb2 := (unhide hf2).place
          go_roundw
          case rel => exact ⟨m, l2, st2, HRR, by omega, unhide hn2, hide ((unhide hready).kept (unhide hk2) (unhide hr2) (unhide hf2)), ho2, by omega, (unhide HK).trans (unhide hk2)⟩
          case measure => rw [unhide HPL, unhide HPL2]; omega

set_option maxHeartbeats 1000000 in
set_option maxRecDepth 100000 in
theorem row_denied (rb ob cap : Nat) (s : ByteArray) (op : Nat) (f : St → Res) (hf : Reads 147 rb s op f) (ks : List Int) (hks : ks.length ≤ 8) (h0 : ks.contains 0 = false) (st : St) (w : World) (h : Ready rb s w st) (hop : st.op = op) (ho : KsAt w ob ks) (hob : ob < w.heap.size) (hne : ¬ ob = rb) :
    Calls Tryz.prog 101 #[.pointer (some ⟨rb, 0, none⟩), .func (.func 147) #[.pointer (some ⟨rb, 0, none⟩)] #[], .slice (some ⟨ob, 0, none⟩) ks.length cap] w (Gives rb s w op st.place (rowRes s f ks st)) := by
  have H := hide h
  have HF := hide hf
  have HO := hide ho
  have hlt := h.lt
  clear h hf ho
  cases hres : f st with
  | err en pl =>
    rw [rowRes_err hres]
    have HRES := hide hres
    clear hres
    go_enter Tryz.func101, Tryz.ntmps101
    go_wp2_with (go_at_call 147; refine (unhide HF _ st (unhide H) hop).mono ?_; rintro e w1 ⟨hk1, h1⟩; rw [unhide HRES] at h1; subst h1; simp only [gaveUp])
    exact ⟨rfl, hk1, rfl⟩
  | ok l0 st0 =>
    rw [rowRes_ok hres]
    have HRES := hide hres
    clear hres
    obtain ⟨R, hR⟩ : ∃ r, rowLoop s f ks (s.size + 1) l0 st0 = r := ⟨_, rfl⟩
    rw [hR]
    have HR := hide hR
    clear hR
    go_enter Tryz.func101, Tryz.ntmps101
    go_wp2_with (go_at_call 147; refine (unhide HF _ st (unhide H) hop).mono ?_; rintro e w1 ⟨hk1, h1⟩; rw [unhide HRES] at h1; obtain ⟨v1, rfl, hn1, hr1, hf1, ho1, hp1⟩ := h1; have hn1 := hide hn1; have hr1 := hide hr1; have hk1 := hide hk1; have hf1 := hide hf1)
    go_loopw [7] (fun v wr => ∃ (n : Nat) (l : Ast) (sl : St), Hid (R = rowLoop s f ks n l sl) ∧ s.size < n + sl.place ∧ IsNode rb wr v l ∧ Hid (Ready rb s wr sl) ∧ sl.op = op ∧ st.place ≤ sl.place ∧ Kept rb w wr) (fun v wr => s.size + 1 - plOf wr rb)
    case atStart => exact ⟨s.size + 1, l0, st0, hide (unhide HR).symm, by omega, unhide hn1, hide ((unhide H).kept (unhide hk1) (unhide hr1) (unhide hf1)), ho1, hp1, unhide hk1⟩
    case round =>
      obtain ⟨n, l, sl, hR, hn, hnode, hready, hopl, hpl, hk⟩ := hrel
      have hfine := (unhide hready).fine
      have hf1' := hfine.place
      obtain ⟨lb, rfl⟩ := hnode.ptr
      obtain ⟨m, rfl⟩ : ∃ m, n = m + 1 := ⟨n - 1, by omega⟩
      have HKS := hide ((unhide HO).kept hk hob hne)
      have HND := hide hnode
      have HK := hide hk
      have hltr := (unhide hready).lt
      have HPL := hide (plOf_at (unhide hready).at')
      obtain ⟨c0, c1, c2, c3, c4, c5, c6, fz⟩ := (unhide hready).at'
      clear hnode hk
      have CON := fun w => containsK_any ob cap ks sl.tk.kind w hks
      cases hc : ks.contains sl.tk.kind with
      | false =>
        have HRR : Hid (R = .ok l sl) := hide (by rw [unhide hR, rowLoop_stop hc])
        rw [hc] at CON
        have HCON := hide CON
        clear hc CON hR c0 c2 c3 c4 c5 c6 fz
        go_wp2_with (go_at_call 145; refine (unhide HCON _ (unhide HKS)).mono ?_; rintro e w' ⟨rfl, rfl⟩)
        go_ret
        rw [unhide HRR]
        exact ⟨unhide HK, _, rfl, unhide HND, (unhide hready).at', hfine, hopl, hpl⟩
      | true =>
        rw [hc] at CON
        have HCON := hide CON
        have hk0 : sl.tk.kind ≠ 0 := fun h => by rw [h, h0] at hc; cases hc
        have hlong := hfine.long hk0
        cases hj : joinRes s f sl l with
        | err en pl =>
          have HRR : Hid (R = .err en pl) := hide (by rw [unhide hR, rowLoop_err hc hj])
          have HJ := hide hj
          clear hc CON hR hj c0 c2 c3 c4 c5 c6 fz hk0
          go_wp2_with (first | (go_at_call 145; refine (unhide HCON _ (unhide HKS)).mono ?_; rintro e w' ⟨rfl, rfl⟩) | (go_at_call 146; refine (joined_denied rb s op f (unhide HF) sl l _ _ (unhide hready) hopl (unhide HND)).mono ?_; rintro e w2 ⟨hk2, h2⟩; rw [unhide HJ] at h2; subst h2; simp only [gaveUp]))
          rw [unhide HRR]
          exact ⟨rfl, (unhide HK).trans hk2, rfl⟩
        | ok l2 st2 =>
          have HRR : Hid (R = rowLoop s f ks m l2 st2) := hide (by rw [unhide hR, rowLoop_more hc hj])
          have HJ := hide hj
          clear hc CON hR hj c0 c2 c3 c4 c5 c6 fz hk0
          go_wp2_with (first | (go_at_call 145; refine (unhide HCON _ (unhide HKS)).mono ?_; rintro e w' ⟨rfl, rfl⟩) | (go_at_call 146; refine (joined_denied rb s op f (unhide HF) sl l _ _ (unhide hready) hopl (unhide HND)).mono ?_; rintro e w2 ⟨hk2, h2⟩; rw [unhide HJ] at h2; obtain ⟨v2, rfl, hn2, hr2, hf2, ho2, hp2⟩ := h2; have HPL2 := hide (plOf_at hr2); have hr2 := hide hr2; have hn2 := hide hn2; have hk2 := hide hk2; have hf2 := hide hf2))
          have hb2 := (unhide hf2).place
          go_roundw
          case rel => exact ⟨m, l2, st2, HRR, by omega, unhide hn2, hide ((unhide hready).kept (unhide hk2) (unhide hr2) (unhide hf2)), ho2, by omega, (unhide HK).trans (unhide hk2)⟩
          case measure => rw [unhide HPL, unhide HPL2]; omega

set_option maxHeartbeats 1000000 in
set_option maxRecDepth 100000 in
theorem row_product (rb ob cap : Nat) (s : ByteArray) (op : Nat) (f : St → Res) (hf : Reads 266 rb s op f) (ks : List Int) (hks : ks.length ≤ 8) (h0 : ks.contains 0 = false) (st : St) (w : World) (h : Ready rb s w st) (hop : st.op = op) (ho : KsAt w ob ks) (hob : ob < w.heap.size) (hne : ¬ ob = rb) :
    Calls Tryz.prog 101 #[.pointer (some ⟨rb, 0, none⟩), .func (.func 266) #[.pointer (some ⟨rb, 0, none⟩)] #[], .slice (some ⟨ob, 0, none⟩) ks.length cap] w (Gives rb s w op st.place (rowRes s f ks st)) := by
  have H := hide h
  have HF := hide hf
  have HO := hide ho
  have hlt := h.lt
  clear h hf ho
  cases hres : f st with
  | err en pl =>
    rw [rowRes_err hres]
    have HRES := hide hres
    clear hres
    go_enter Tryz.func101, Tryz.ntmps101
    go_wp2_with (go_at_call 266; refine (unhide HF _ st (unhide H) hop).mono ?_; rintro e w1 ⟨hk1, h1⟩; rw [unhide HRES] at h1; subst h1; simp only [gaveUp])
    exact ⟨rfl, hk1, rfl⟩
  | ok l0 st0 =>
    rw [rowRes_ok hres]
    have HRES := hide hres
    clear hres
    obtain ⟨R, hR⟩ : ∃ r, rowLoop s f ks (s.size + 1) l0 st0 = r := ⟨_, rfl⟩
    rw [hR]
    have HR := hide hR
    clear hR
    go_enter Tryz.func101, Tryz.ntmps101
    go_wp2_with (go_at_call 266; refine (unhide HF _ st (unhide H) hop).mono ?_; rintro e w1 ⟨hk1, h1⟩; rw [unhide HRES] at h1; obtain ⟨v1, rfl, hn1, hr1, hf1, ho1, hp1⟩ := h1; have hn1 := hide hn1; have hr1 := hide hr1; have hk1 := hide hk1; have hf1 := hide hf1)
    go_loopw [7] (fun v wr => ∃ (n : Nat) (l : Ast) (sl : St), Hid (R = rowLoop s f ks n l sl) ∧ s.size < n + sl.place ∧ IsNode rb wr v l ∧ Hid (Ready rb s wr sl) ∧ sl.op = op ∧ st.place ≤ sl.place ∧ Kept rb w wr) (fun v wr => s.size + 1 - plOf wr rb)
    case atStart => exact ⟨s.size + 1, l0, st0, hide (unhide HR).symm, by omega, unhide hn1, hide ((unhide H).kept (unhide hk1) (unhide hr1) (unhide hf1)), ho1, hp1, unhide hk1⟩
    case round =>
      obtain ⟨n, l, sl, hR, hn, hnode, hready, hopl, hpl, hk⟩ := hrel
      have hfine := (unhide hready).fine
      have hf1' := hfine.place
      obtain ⟨lb, rfl⟩ := hnode.ptr
      obtain ⟨m, rfl⟩ : ∃ m, n = m + 1 := ⟨n - 1, by omega⟩
      have HKS := hide ((unhide HO).kept hk hob hne)
      have HND := hide hnode
      have HK := hide hk
      have hltr := (unhide hready).lt
      have HPL := hide (plOf_at (unhide hready).at')
      obtain ⟨c0, c1, c2, c3, c4, c5, c6, fz⟩ := (unhide hready).at'
      clear hnode hk
      have CON := fun w => containsK_any ob cap ks sl.tk.kind w hks
      cases hc : ks.contains sl.tk.kind with
      | false =>
        have HRR : Hid (R = .ok l sl) := hide (by rw [unhide hR, rowLoop_stop hc])
        rw [hc] at CON
        have HCON := hide CON
        clear hc CON hR c0 c2 c3 c4 c5 c6 fz
        go_wp2_with (go_at_call 145; refine (unhide HCON _ (unhide HKS)).mono ?_; rintro e w' ⟨rfl, rfl⟩)
        go_ret
        rw [unhide HRR]
        exact ⟨unhide HK, _, rfl, unhide HND, (unhide hready).at', hfine, hopl, hpl⟩
      | true =>
        rw [hc] at CON
        have HCON := hide CON
        have hk0 : sl.tk.kind ≠ 0 := fun h => by rw [h, h0] at hc; cases hc
        have hlong := hfine.long hk0
        cases hj : joinRes s f sl l with
        | err en pl =>
          have HRR : Hid (R = .err en pl) := hide (by rw [unhide hR, rowLoop_err hc hj])
          have HJ := hide hj
          clear hc CON hR hj c0 c2 c3 c4 c5 c6 fz hk0
          go_wp2_with (first | (go_at_call 145; refine (unhide HCON _ (unhide HKS)).mono ?_; rintro e w' ⟨rfl, rfl⟩) | (go_at_call 146; refine (joined_product rb s op f (unhide HF) sl l _ _ (unhide hready) hopl (unhide HND)).mono ?_; rintro e w2 ⟨hk2, h2⟩; rw [unhide HJ] at h2; subst h2; simp only [gaveUp]))
          rw [unhide HRR]
          exact ⟨rfl, (unhide HK).trans hk2, rfl⟩
        | ok l2 st2 =>
          have HRR : Hid (R = rowLoop s f ks m l2 st2) := hide (by rw [unhide hR, rowLoop_more hc hj])
          have HJ := hide hj
          clear hc CON hR hj c0 c2 c3 c4 c5 c6 fz hk0
          go_wp2_with (first | (go_at_call 145; refine (unhide HCON _ (unhide HKS)).mono ?_; rintro e w' ⟨rfl, rfl⟩) | (go_at_call 146; refine (joined_product rb s op f (unhide HF) sl l _ _ (unhide hready) hopl (unhide HND)).mono ?_; rintro e w2 ⟨hk2, h2⟩; rw [unhide HJ] at h2; obtain ⟨v2, rfl, hn2, hr2, hf2, ho2, hp2⟩ := h2; have HPL2 := hide (plOf_at hr2); have hr2 := hide hr2; have hn2 := hide hn2; have hk2 := hide hk2; have hf2 := hide hf2))
          have hb2 := (unhide hf2).place
          go_roundw
          case rel => exact ⟨m, l2, st2, HRR, by omega, unhide hn2, hide ((unhide hready).kept (unhide hk2) (unhide hr2) (unhide hf2)), ho2, by omega, (unhide HK).trans (unhide hk2)⟩
          case measure => rw [unhide HPL, unhide HPL2]; omega

set_option maxHeartbeats 1000000 in
set_option maxRecDepth 100000 in
theorem row_signed (rb ob cap : Nat) (s : ByteArray) (op : Nat) (f : St → Res) (hf : Reads 301 rb s op f) (ks : List Int) (hks : ks.length ≤ 8) (h0 : ks.contains 0 = false) (st : St) (w : World) (h : Ready rb s w st) (hop : st.op = op) (ho : KsAt w ob ks) (hob : ob < w.heap.size) (hne : ¬ ob = rb) :
    Calls Tryz.prog 101 #[.pointer (some ⟨rb, 0, none⟩), .func (.func 301) #[.pointer (some ⟨rb, 0, none⟩)] #[], .slice (some ⟨ob, 0, none⟩) ks.length cap] w (Gives rb s w op st.place (rowRes s f ks st)) := by
  have H := hide h
  have HF := hide hf
  have HO := hide ho
  have hlt := h.lt
  clear h hf ho
  cases hres : f st with
  | err en pl =>
    rw [rowRes_err hres]
    have HRES := hide hres
    clear hres
    go_enter Tryz.func101, Tryz.ntmps101
    go_wp2_with (go_at_call 301; refine (unhide HF _ st (unhide H) hop).mono ?_; rintro e w1 ⟨hk1, h1⟩; rw [unhide HRES] at h1; subst h1; simp only [gaveUp])
    exact ⟨rfl, hk1, rfl⟩
  | ok l0 st0 =>
    rw [rowRes_ok hres]
    have HRES := hide hres
    clear hres
    obtain ⟨R, hR⟩ : ∃ r, rowLoop s f ks (s.size + 1) l0 st0 = r := ⟨_, rfl⟩
    rw [hR]
    have HR := hide hR
    clear hR
    go_enter Tryz.func101, Tryz.ntmps101
    go_wp2_with (go_at_call 301; refine (unhide HF _ st (unhide H) hop).mono ?_; rintro e w1 ⟨hk1, h1⟩; rw [unhide HRES] at h1; obtain ⟨v1, rfl, hn1, hr1, hf1, ho1, hp1⟩ := h1; have hn1 := hide hn1; have hr1 := hide hr1; have hk1 := hide hk1; have hf1 := hide hf1)
    go_loopw [7] (fun v wr => ∃ (n : Nat) (l : Ast) (sl : St), Hid (R = rowLoop s f ks n l sl) ∧ s.size < n + sl.place ∧ IsNode rb wr v l ∧ Hid (Ready rb s wr sl) ∧ sl.op = op ∧ st.place ≤ sl.place ∧ Kept rb w wr) (fun v wr => s.size + 1 - plOf wr rb)
    case atStart => exact ⟨s.size + 1, l0, st0, hide (unhide HR).symm, by omega, unhide hn1, hide ((unhide H).kept (unhide hk1) (unhide hr1) (unhide hf1)), ho1, hp1, unhide hk1⟩
    case round =>
      obtain ⟨n, l, sl, hR, hn, hnode, hready, hopl, hpl, hk⟩ := hrel
      have hfine := (unhide hready).fine
      have hf1' := hfine.place
      obtain ⟨lb, rfl⟩ := hnode.ptr
      obtain ⟨m, rfl⟩ : ∃ m, n = m + 1 := ⟨n - 1, by omega⟩
      have HKS := hide ((unhide HO).kept hk hob hne)
      have HND := hide hnode
      have HK := hide hk
      have hltr := (unhide hready).lt
      have HPL := hide (plOf_at (unhide hready).at')
      obtain ⟨c0, c1, c2, c3, c4, c5, c6, fz⟩ := (unhide hready).at'
      clear hnode hk
      have CON := fun w => containsK_any ob cap ks sl.tk.kind w hks
      cases hc : ks.contains sl.tk.kind with
      | false =>
        have HRR : Hid (R = .ok l sl) := hide (by rw [unhide hR, rowLoop_stop hc])
        rw [hc] at CON
        have HCON := hide CON
        clear hc CON hR c0 c2 c3 c4 c5 c6 fz
        go_wp2_with (go_at_call 145; refine (unhide HCON _ (unhide HKS)).mono ?_; rintro e w' ⟨rfl, rfl⟩)
        go_ret
        rw [unhide HRR]
        exact ⟨unhide HK, _, rfl, unhide HND, (unhide hready).at', hfine, hopl, hpl⟩
      | true =>
        rw [hc] at CON
        have HCON := hide CON
        have hk0 : sl.tk.kind ≠ 0 := fun h => by rw [h, h0] at hc; cases hc
        have hlong := hfine.long hk0
        cases hj : joinRes s f sl l with
        | err en pl =>
          have HRR : Hid (R = .err en pl) := hide (by rw [unhide hR, rowLoop_err hc hj])
          have HJ := hide hj
          clear hc CON hR hj c0 c2 c3 c4 c5 c6 fz hk0
          go_wp2_with (first | (go_at_call 145; refine (unhide HCON _ (unhide HKS)).mono ?_; rintro e w' ⟨rfl, rfl⟩) | (go_at_call 146; refine (joined_signed rb s op f (unhide HF) sl l _ _ (unhide hready) hopl (unhide HND)).mono ?_; rintro e w2 ⟨hk2, h2⟩; rw [unhide HJ] at h2; subst h2; simp only [gaveUp]))
          rw [unhide HRR]
          exact ⟨rfl, (unhide HK).trans hk2, rfl⟩
        | ok l2 st2 =>
          have HRR : Hid (R = rowLoop s f ks m l2 st2) := hide (by rw [unhide hR, rowLoop_more hc hj])
          have HJ := hide hj
          clear hc CON hR hj c0 c2 c3 c4 c5 c6 fz hk0
          go_wp2_with (first | (go_at_call 145; refine (unhide HCON _ (unhide HKS)).mono ?_; rintro e w' ⟨rfl, rfl⟩) | (go_at_call 146; refine (joined_signed rb s op f (unhide HF) sl l _ _ (unhide hready) hopl (unhide HND)).mono ?_; rintro e w2 ⟨hk2, h2⟩; rw [unhide HJ] at h2; obtain ⟨v2, rfl, hn2, hr2, hf2, ho2, hp2⟩ := h2; have HPL2 := hide (plOf_at hr2); have hr2 := hide hr2; have hn2 := hide hn2; have hk2 := hide hk2; have hf2 := hide hf2))
          have hb2 := (unhide hf2).place
          go_roundw
          case rel => exact ⟨m, l2, st2, HRR, by omega, unhide hn2, hide ((unhide hready).kept (unhide hk2) (unhide hr2) (unhide hf2)), ho2, by omega, (unhide HK).trans (unhide hk2)⟩
          case measure => rw [unhide HPL, unhide HPL2]; omega

end Go.Proofs.YtfkcaldjphakpaaGreatDoor
