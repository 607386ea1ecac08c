/- signed. -/
import Derived.Test.YtfkcaldjphakpaaGreatDoorRdD
namespace Go.Proofs.YtfkcaldjphakpaaGreatDoor
open Go.RowKit

def leafOf (o : Int) (st : St) (num : Int) (str : List UInt8) : Ast := .leaf ⟨o, st.place, num, str, [], []⟩

def signedRes (s : ByteArray) (fS fE : St → Res) (st : St) : Res :=
  if st.tk.kind = 22 then signRes s fS 14 st else if st.tk.kind = 23 then signRes s fS 15 st else if st.tk.kind = 26 then groupRes s fE st
  else if st.tk.kind = 2 then .ok (leafOf 0 st 0 st.tk.str) (stepSt s st)
  else if st.tk.kind = 3 then .ok (leafOf 1 st st.tk.num []) (stepSt s st)
  else if st.tk.kind = 4 then .ok (leafOf 2 st 0 st.tk.str) (stepSt s st)
  else if st.tk.kind = 8 then .ok (leafOf 3 st 0 []) (stepSt s st)
  else if st.tk.kind = 9 then .ok (leafOf 4 st 0 []) (stepSt s st) else .err 2 st.place

/-- A new term without sides. -/
theorem IsNode.leafed {rb : Nat} {w : World} (hlt : rb < w.heap.size) (op place num : Int) (str : List UInt8) :
    IsNode rb (w.alloc (.cells #[.int .i64 op, .int .i64 place, .slice none 0 0, .int .i64 num, .string (BS str), .string ⟨#[]⟩, .slice none 0 0] 102))
      (.pointer (some ⟨w.heap.size, 0, none⟩)) (.leaf ⟨op, place, num, str, [], []⟩) :=
  ⟨w.heap.size, rfl, ⟨hlt, by simp, by simp, by simp, by simp, by simp, by simp, by simp [BS], .slice none 0 0, by simp, .inl ⟨rfl, rfl⟩⟩⟩

theorem field_place (k p n : Int) (b : ByteArray) (w : World) : (Instr.field 91 (.agg #[.int .i64 k, .int .i64 p, .int .i64 n, .string b]) 1).run Tryz.prog w = .ok (.int .i64 p) w := by kernel_rfl

set_option maxHeartbeats 2000000 in
set_option maxRecDepth 100000 in
theorem signed_reads (rb : Nat) (s : ByteArray) (op : Nat) (hop : op ≤ 12) (fS fE : St → Res) (hS : op < 12 → Reads 301 rb s (op + 1) fS) (hE : op < 12 → Reads 55 rb s (op + 1) fE) : Reads 301 rb s op (signedRes s fS fE) := by
  intro w st h ho
  have H := hide h
  have HS := hide hS
  have HE := hide hE
  have hlt := h.lt
  have n0 : ¬ w.heap.size = rb := by omega
  have hle : st.tk.kind ≠ 0 → st.place ≤ (stepSt s st).place := h.fine.le
  have HFN := hide h.fine.next
  obtain ⟨c0, c1, c2, c3, c4, c5, c6, fz⟩ := h.at'
  clear h hS hE
  by_cases hk : st.tk.kind = 22
  · have hne : st.tk.kind ≠ 0 := by rw [hk]; decide
    have e22 : (st.tk.kind == 22) = true := by rw [hk]; rfl
    rw [signedRes, if_pos hk]
    have hlp := hle hne
    have HNE := hide hne
    clear hk hle hne
    go_enter Tryz.func301, Tryz.ntmps301
    go_wp2_with fail
    refine (sign_reads rb s op hop fS (unhide HS) 14 _ st ((unhide H).allocd _) ho (unhide HNE)).mono ?_
    rintro e w' hg
    rcases hg.cases with ⟨v, rfl, hg⟩ | ⟨en, pl, rfl, hg⟩
    · have HG := hide (hg.from ((Kept.refl rb w).alloc _))
      clear hg
      go_wp2_with fail
      go_ret
      exact unhide HG
    · exact ⟨rfl, hg.from ((Kept.refl rb w).alloc _)⟩
  have h22 := hk
  clear hk
  by_cases hk : st.tk.kind = 23
  · have hne : st.tk.kind ≠ 0 := by rw [hk]; decide
    have e22 : (st.tk.kind == 22) = false := by rw [hk]; rfl
    have e23 : (st.tk.kind == 23) = true := by rw [hk]; rfl
    rw [signedRes, if_neg (show ¬ st.tk.kind = 22 by rw [hk]; decide), if_pos hk]
    have hlp := hle hne
    have HNE := hide hne
    clear hk hle hne
    go_enter Tryz.func301, Tryz.ntmps301
    go_wp2_with fail
    refine (sign_reads rb s op hop fS (unhide HS) 15 _ st ((unhide H).allocd _) ho (unhide HNE)).mono ?_
    rintro e w' hg
    rcases hg.cases with ⟨v, rfl, hg⟩ | ⟨en, pl, rfl, hg⟩
    · have HG := hide (hg.from ((Kept.refl rb w).alloc _))
      clear hg
      go_wp2_with fail
      go_ret
      exact unhide HG
    · exact ⟨rfl, hg.from ((Kept.refl rb w).alloc _)⟩
  have h23 := hk
  clear hk
  by_cases hk : st.tk.kind = 26
  · have hne : st.tk.kind ≠ 0 := by rw [hk]; decide
    have e22 : (st.tk.kind == 22) = false := by rw [hk]; rfl
    have e23 : (st.tk.kind == 23) = false := by rw [hk]; rfl
    have e26 : (st.tk.kind == 26) = true := by rw [hk]; rfl
    rw [signedRes, if_neg (show ¬ st.tk.kind = 22 by rw [hk]; decide), if_neg (show ¬ st.tk.kind = 23 by rw [hk]; decide), if_pos hk]
    have hlp := hle hne
    have HNE := hide hne
    clear hk hle hne
    go_enter Tryz.func301, Tryz.ntmps301
    go_wp2_with fail
    refine (group_reads rb s op hop fE (unhide HE) _ st ((unhide H).allocd _) ho (unhide HNE)).mono ?_
    rintro e w' hg
    rcases hg.cases with ⟨v, rfl, hg⟩ | ⟨en, pl, rfl, hg⟩
    · have HG := hide (hg.from ((Kept.refl rb w).alloc _))
      clear hg
      go_wp2_with fail
      go_ret
      exact unhide HG
    · exact ⟨rfl, hg.from ((Kept.refl rb w).alloc _)⟩
  have h26 := hk
  clear hk
  by_cases hk : st.tk.kind = 2
  · have hne : st.tk.kind ≠ 0 := by rw [hk]; decide
    have e22 : (st.tk.kind == 22) = false := by rw [hk]; rfl
    have e23 : (st.tk.kind == 23) = false := by rw [hk]; rfl
    have e26 : (st.tk.kind == 26) = false := by rw [hk]; rfl
    have e2 : (st.tk.kind == 2) = true := by rw [hk]; rfl
    rw [signedRes, if_neg (show ¬ st.tk.kind = 22 by rw [hk]; decide), if_neg (show ¬ st.tk.kind = 23 by rw [hk]; decide), if_neg (show ¬ st.tk.kind = 26 by rw [hk]; decide), if_pos hk]
    have hlp := hle hne
    have HNE := hide hne
    clear hk hle hne
    go_enter Tryz.func301, Tryz.ntmps301
    go_wp2_with (go_at_call 54; refine (step_any rb s st _ (unhide H).size (unhide H).fine.after ((unhide H).at'.allocd _ hlt) (by simp; omega) ((unhide H).err.alloc _)).mono ?_; rintro e w1 ⟨rfl, hr1, hk1⟩; have hz1 : w.heap.size < w1.heap.size := (by have := hk1.size; simp at this; omega); have q1 : w1.cell? ⟨w.heap.size, 1, none⟩ = some (.int .i64 st.place) := ((kcell hk1).1 _ 1 (by simp) n0).trans (by simp); have q2 : w1.cell? ⟨w.heap.size, 2, none⟩ = some (.int .i64 st.tk.num) := ((kcell hk1).1 _ 2 (by simp) n0).trans (by simp); have q3 : w1.cell? ⟨w.heap.size, 3, none⟩ = some (.string (BS st.tk.str)) := ((kcell hk1).1 _ 3 (by simp) n0).trans (by simp); have hr1 := hide hr1; have hK1 := hide (((Kept.refl rb w).alloc _).trans hk1); clear hk1)
    go_ret
    refine ⟨(unhide hK1).alloc _, _, rfl, ?_, (unhide hr1).allocd _ (by omega), unhide HFN, ho, hlp⟩
    exact IsNode.leafed (by omega) 0 st.place (0) (st.tk.str)
  have h2 := hk
  clear hk
  by_cases hk : st.tk.kind = 3
  · have hne : st.tk.kind ≠ 0 := by rw [hk]; decide
    have e22 : (st.tk.kind == 22) = false := by rw [hk]; rfl
    have e23 : (st.tk.kind == 23) = false := by rw [hk]; rfl
    have e26 : (st.tk.kind == 26) = false := by rw [hk]; rfl
    have e2 : (st.tk.kind == 2) = false := by rw [hk]; rfl
    have e3 : (st.tk.kind == 3) = true := by rw [hk]; rfl
    rw [signedRes, if_neg (show ¬ st.tk.kind = 22 by rw [hk]; decide), if_neg (show ¬ st.tk.kind = 23 by rw [hk]; decide), if_neg (show ¬ st.tk.kind = 26 by rw [hk]; decide), if_neg (show ¬ st.tk.kind = 2 by rw [hk]; decide), if_pos hk]
    have hlp := hle hne
    have HNE := hide hne
    clear hk hle hne
    go_enter Tryz.func301, Tryz.ntmps301
    go_wp2_with (go_at_call 54; refine (step_any rb s st _ (unhide H).size (unhide H).fine.after ((unhide H).at'.allocd _ hlt) (by simp; omega) ((unhide H).err.alloc _)).mono ?_; rintro e w1 ⟨rfl, hr1, hk1⟩; have hz1 : w.heap.size < w1.heap.size := (by have := hk1.size; simp at this; omega); have q1 : w1.cell? ⟨w.heap.size, 1, none⟩ = some (.int .i64 st.place) := ((kcell hk1).1 _ 1 (by simp) n0).trans (by simp); have q2 : w1.cell? ⟨w.heap.size, 2, none⟩ = some (.int .i64 st.tk.num) := ((kcell hk1).1 _ 2 (by simp) n0).trans (by simp); have q3 : w1.cell? ⟨w.heap.size, 3, none⟩ = some (.string (BS st.tk.str)) := ((kcell hk1).1 _ 3 (by simp) n0).trans (by simp); have hr1 := hide hr1; have hK1 := hide (((Kept.refl rb w).alloc _).trans hk1); clear hk1)
    go_ret
    refine ⟨(unhide hK1).alloc _, _, rfl, ?_, (unhide hr1).allocd _ (by omega), unhide HFN, ho, hlp⟩
    exact IsNode.leafed (by omega) 1 st.place (st.tk.num) ([])
  have h3 := hk
  clear hk
  by_cases hk : st.tk.kind = 4
  · have hne : st.tk.kind ≠ 0 := by rw [hk]; decide
    have e22 : (st.tk.kind == 22) = false := by rw [hk]; rfl
    have e23 : (st.tk.kind == 23) = false := by rw [hk]; rfl
    have e26 : (st.tk.kind == 26) = false := by rw [hk]; rfl
    have e2 : (st.tk.kind == 2) = false := by rw [hk]; rfl
    have e3 : (st.tk.kind == 3) = false := by rw [hk]; rfl
    have e4 : (st.tk.kind == 4) = true := by rw [hk]; rfl
    rw [signedRes, if_neg (show ¬ st.tk.kind = 22 by rw [hk]; decide), if_neg (show ¬ st.tk.kind = 23 by rw [hk]; decide), if_neg (show ¬ st.tk.kind = 26 by rw [hk]; decide), if_neg (show ¬ st.tk.kind = 2 by rw [hk]; decide), if_neg (show ¬ st.tk.kind = 3 by rw [hk]; decide), if_pos hk]
    have hlp := hle hne
    have HNE := hide hne
    clear hk hle hne
    go_enter Tryz.func301, Tryz.ntmps301
    go_wp2_with (go_at_call 54; refine (step_any rb s st _ (unhide H).size (unhide H).fine.after ((unhide H).at'.allocd _ hlt) (by simp; omega) ((unhide H).err.alloc _)).mono ?_; rintro e w1 ⟨rfl, hr1, hk1⟩; have hz1 : w.heap.size < w1.heap.size := (by have := hk1.size; simp at this; omega); have q1 : w1.cell? ⟨w.heap.size, 1, none⟩ = some (.int .i64 st.place) := ((kcell hk1).1 _ 1 (by simp) n0).trans (by simp); have q2 : w1.cell? ⟨w.heap.size, 2, none⟩ = some (.int .i64 st.tk.num) := ((kcell hk1).1 _ 2 (by simp) n0).trans (by simp); have q3 : w1.cell? ⟨w.heap.size, 3, none⟩ = some (.string (BS st.tk.str)) := ((kcell hk1).1 _ 3 (by simp) n0).trans (by simp); have hr1 := hide hr1; have hK1 := hide (((Kept.refl rb w).alloc _).trans hk1); clear hk1)
    go_ret
    refine ⟨(unhide hK1).alloc _, _, rfl, ?_, (unhide hr1).allocd _ (by omega), unhide HFN, ho, hlp⟩
    exact IsNode.leafed (by omega) 2 st.place (0) (st.tk.str)
  have h4 := hk
  clear hk
  by_cases hk : st.tk.kind = 8
  · have hne : st.tk.kind ≠ 0 := by rw [hk]; decide
    have e22 : (st.tk.kind == 22) = false := by rw [hk]; rfl
    have e23 : (st.tk.kind == 23) = false := by rw [hk]; rfl
    have e26 : (st.tk.kind == 26) = false := by rw [hk]; rfl
    have e2 : (st.tk.kind == 2) = false := by rw [hk]; rfl
    have e3 : (st.tk.kind == 3) = false := by rw [hk]; rfl
    have e4 : (st.tk.kind == 4) = false := by rw [hk]; rfl
    have e8 : (st.tk.kind == 8) = true := by rw [hk]; rfl
    rw [signedRes, if_neg (show ¬ st.tk.kind = 22 by rw [hk]; decide), if_neg (show ¬ st.tk.kind = 23 by rw [hk]; decide), if_neg (show ¬ st.tk.kind = 26 by rw [hk]; decide), if_neg (show ¬ st.tk.kind = 2 by rw [hk]; decide), if_neg (show ¬ st.tk.kind = 3 by rw [hk]; decide), if_neg (show ¬ st.tk.kind = 4 by rw [hk]; decide), if_pos hk]
    have hlp := hle hne
    have HNE := hide hne
    clear hk hle hne
    go_enter Tryz.func301, Tryz.ntmps301
    go_wp2_with (go_at_call 54; refine (step_any rb s st _ (unhide H).size (unhide H).fine.after ((unhide H).at'.allocd _ hlt) (by simp; omega) ((unhide H).err.alloc _)).mono ?_; rintro e w1 ⟨rfl, hr1, hk1⟩; have hz1 : w.heap.size < w1.heap.size := (by have := hk1.size; simp at this; omega); have q1 : w1.cell? ⟨w.heap.size, 1, none⟩ = some (.int .i64 st.place) := ((kcell hk1).1 _ 1 (by simp) n0).trans (by simp); have q2 : w1.cell? ⟨w.heap.size, 2, none⟩ = some (.int .i64 st.tk.num) := ((kcell hk1).1 _ 2 (by simp) n0).trans (by simp); have q3 : w1.cell? ⟨w.heap.size, 3, none⟩ = some (.string (BS st.tk.str)) := ((kcell hk1).1 _ 3 (by simp) n0).trans (by simp); have hr1 := hide hr1; have hK1 := hide (((Kept.refl rb w).alloc _).trans hk1); clear hk1)
    go_ret
    refine ⟨(unhide hK1).alloc _, _, rfl, ?_, (unhide hr1).allocd _ (by omega), unhide HFN, ho, hlp⟩
    exact IsNode.leafed (by omega) 3 st.place (0) ([])
  have h8 := hk
  clear hk
  have e22 : (st.tk.kind == 22) = false := beq_eq_false_iff_ne.2 h22
  have e23 : (st.tk.kind == 23) = false := beq_eq_false_iff_ne.2 h23
  have e26 : (st.tk.kind == 26) = false := beq_eq_false_iff_ne.2 h26
  have e2 : (st.tk.kind == 2) = false := beq_eq_false_iff_ne.2 h2
  have e3 : (st.tk.kind == 3) = false := beq_eq_false_iff_ne.2 h3
  have e4 : (st.tk.kind == 4) = false := beq_eq_false_iff_ne.2 h4
  have e8 : (st.tk.kind == 8) = false := beq_eq_false_iff_ne.2 h8
  rw [signedRes, if_neg h22, if_neg h23, if_neg h26, if_neg h2, if_neg h3, if_neg h4, if_neg h8]
  clear h22 h23 h26 h2 h3 h4 h8
  by_cases h9 : st.tk.kind = 9
  · rw [if_pos h9]
    have hlp := hle (by rw [h9]; decide)
    have H9 := hide h9
    clear h9 hle
    have hfd := field_place
    go_enter Tryz.func301, Tryz.ntmps301
    go_wp2_with (go_at_call 56; refine (take_ok rb s st 9 _ (unhide H).size (unhide H).fine.after ((unhide H).at'.allocd _ hlt) (by simp; omega) ((unhide H).err.alloc _) (unhide H9)).mono ?_; rintro e w1 ⟨rfl, hr1, hk1⟩; have hz1 : w.heap.size < w1.heap.size := (by have := hk1.size; simp at this; omega); have hr1 := hide hr1; have hK1 := hide (((Kept.refl rb w).alloc _).trans hk1); clear hk1; simp only [tkV])
    go_ret
    refine ⟨(unhide hK1).alloc _, _, rfl, ?_, (unhide hr1).allocd _ (by omega), unhide HFN, ho, hlp⟩
    exact IsNode.leafed (by omega) 4 st.place 0 []
  · rw [if_neg h9]
    have H9 := hide h9
    clear h9 hle
    go_enter Tryz.func301, Tryz.ntmps301
    go_wp2_with (go_at_call 56; refine (take_no rb s st 9 _ ((unhide H).at'.allocd _ hlt) (by simp; omega) (unhide H9)).mono ?_; rintro e w1 ⟨rfl, hk1⟩; simp only [gaveUp])
    exact ⟨rfl, ((Kept.refl rb w).alloc _).trans hk1, rfl⟩

end Go.Proofs.YtfkcaldjphakpaaGreatDoor
