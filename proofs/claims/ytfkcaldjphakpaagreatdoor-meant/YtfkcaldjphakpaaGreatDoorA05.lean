/- signed. denied. -/
import Derived.Test.YtfkcaldjphakpaaGreatDoorA04
namespace Go.Proofs.YtfkcaldjphakpaaGreatDoor
open Go.RowKit

section
def leafOf (o : Int) (st : St) (num : Int) (str : List UInt8) : Ast := .leaf ⟨o, st.place, num, str, [], []⟩

def signedRes (s : ByteArray) (fS fE : St → Res) (st : St) : Res :=
  if st.tk.kind = 22 then signRes s fS 14 st else if st.tk.kind = 23 then signRes s fS 15 st else if st.tk.kind = 26 then groupRes s fE st
  else if st.tk.kind = 2 then .ok (leafOf 0 st 0 st.tk.str) (stepSt s st)
  else if st.tk.kind = 3 then .ok (leafOf 1 st st.tk.num []) (stepSt s st)
  else if st.tk.kind = 4 then .ok (leafOf 2 st 0 st.tk.str) (stepSt s st)
  else if st.tk.kind = 8 then .ok (leafOf 3 st 0 []) (stepSt s st)
  else if st.tk.kind = 9 then .ok (leafOf 4 st 0 []) (stepSt s st) else .err 2 st.place

/-- A new term without sides. -/
theorem IsNode.leafed {rb : Nat} {w : World} (hlt : rb < w.heap.size) (op place num : Int) (str : List UInt8) :
    IsNode rb (w.alloc (.cells #[.int .i64 op, .int .i64 place, .slice none 0 0, .int .i64 num, .string (BS str), .string ⟨#[]⟩, .slice none 0 0] 102))
      (.pointer (some ⟨w.heap.size, 0, none⟩)) (.leaf ⟨op, place, num, str, [], []⟩) :=
  ⟨w.heap.size, rfl, ⟨hlt, by simp, by simp, by simp, by simp, by simp, by simp, by simp [BS], .slice none 0 0, by simp, .inl ⟨rfl, rfl⟩⟩⟩

theorem field_place (k p n : Int) (b : ByteArray) (w : World) : (Instr.field 91 (.agg #[.int .i64 k, .int .i64 p, .int .i64 n, .string b]) 1).run Tryz.prog w = .ok (.int .i64 p) w := by kernel_rfl

set_option maxHeartbeats 2000000 in
set_option maxRecDepth 100000 in
theorem signed_reads (rb : Nat) (s : ByteArray) (op : Nat) (hop : op ≤ 12) (fS fE : St → Res) (hS : op < 12 → Reads 301 rb s (op + 1) fS) (hE : op < 12 → Reads 55 rb s (op + 1) fE) : Reads 301 rb s op (signedRes s fS fE) := by
  intro w st h ho
  have H := hide h
  have HS := hide hS
  have HE := hide hE
  have hlt := h.lt
  have n0 : ¬ w.heap.size = rb := by omega
  have hle : st.tk.kind ≠ 0 → st.place ≤ (stepSt s st).place := h.fine.le
  have HFN := hide h.fine.next
  obtain ⟨c0, c1, c2, c3, c4, c5, c6, fz⟩ := h.at'
  clear h hS hE
  by_cases hk : st.tk.kind = 22
  · have hne : st.tk.kind ≠ 0 := by rw [hk]; decide
    have e22 : (st.tk.kind == 22) = true := by rw [hk]; rfl
    rw [signedRes, if_pos hk]
    have hlp := hle hne
    have HNE := hide hne
    clear hk hle hne
    go_enter Tryz.func301, Tryz.ntmps301
    go_wp2_with fail
    refine (sign_reads rb s op hop fS (unhide HS) 14 _ st ((unhide H).allocd _) ho (unhide HNE)).mono ?_
    rintro e w' hg
    rcases hg.cases with ⟨v, rfl, hg⟩ | ⟨en, pl, rfl, hg⟩
    · have HG := hide (hg.from ((Kept.refl rb w).alloc _))
      clear hg
      go_wp2_with fail
      go_ret
      exact unhide HG
    · exact ⟨rfl, hg.from ((Kept.refl rb w).alloc _)⟩
  have h22 := hk
  clear hk
  by_cases hk : st.tk.kind = 23
  · have hne : st.tk.kind ≠ 0 := by rw [hk]; decide
    have e22 : (st.tk.kind == 22) = false := by rw [hk]; rfl
    have e23 : (st.tk.kind == 23) = true := by rw [hk]; rfl
    rw [signedRes, if_neg (show ¬ st.tk.kind = 22 by rw [hk]; decide), if_pos hk]
    have hlp := hle hne
    have HNE := hide hne
    clear hk hle hne
    go_enter Tryz.func301, Tryz.ntmps301
    go_wp2_with fail
    refine (sign_reads rb s op hop fS (unhide HS) 15 _ st ((unhide H).allocd _) ho (unhide HNE)).mono ?_
    rintro e w' hg
    rcases hg.cases with ⟨v, rfl, hg⟩ | ⟨en, pl, rfl, hg⟩
    · have HG := hide (hg.from ((Kept.refl rb w).alloc _))
      clear hg
      go_wp2_with fail
      go_ret
      exact unhide HG
    · exact ⟨rfl, hg.from ((Kept.refl rb w).alloc _)⟩
  have h23 := hk
  clear hk
  by_cases hk : st.tk.kind = 26
  · have hne : st.tk.kind ≠ 0 := by rw [hk]; decide
    have e22 : (st.tk.kind == 22) = false := by rw [hk]; rfl
    have e23 : (st.tk.kind == 23) = false := by rw [hk]; rfl
    have e26 : (st.tk.kind == 26) = true := by rw [hk]; rfl
    rw [signedRes, if_neg (show ¬ st.tk.kind = 22 by rw [hk]; decide), if_neg (show ¬ st.tk.kind = 23 by rw [hk]; decide), if_pos hk]
    have hlp := hle hne
    have HNE := hide hne
    clear hk hle hne
    go_enter Tryz.func301, Tryz.ntmps301
    go_wp2_with fail
    refine (group_reads rb s op hop fE (unhide HE) _ st ((unhide H).allocd _) ho (unhide HNE)).mono ?_
    rintro e w' hg
    rcases hg.cases with ⟨v, rfl, hg⟩ | ⟨en, pl, rfl, hg⟩
    · have HG := hide (hg.from ((Kept.refl rb w).alloc _))
      clear hg
      go_wp2_with fail
      go_ret
      exact unhide HG
    · exact ⟨rfl, hg.from ((Kept.refl rb w).alloc _)⟩
  have h26 := hk
  clear hk
  by_cases hk : st.tk.kind = 2
  · have hne : st.tk.kind ≠ 0 := by rw [hk]; decide
    have e22 : (st.tk.kind == 22) = false := by rw [hk]; rfl
    have e23 : (st.tk.kind == 23) = false := by rw [hk]; rfl
    have e26 : (st.tk.kind == 26) = false := by rw [hk]; rfl
    have e2 : (st.tk.kind == 2) = true := by rw [hk]; rfl
    rw [signedRes, if_neg (show ¬ st.tk.kind = 22 by rw [hk]; decide), if_neg (show ¬ st.tk.kind = 23 by rw [hk]; decide), if_neg (show ¬ st.tk.kind = 26 by rw [hk]; decide), if_pos hk]
    have hlp := hle hne
    have HNE := hide hne
    clear hk hle hne
    go_enter Tryz.func301, Tryz.ntmps301
    go_wp2_with (go_at_call 54; refine (step_any rb s st _ (unhide H).size (unhide H).fine.after ((unhide H).at'.allocd _ hlt) (by simp; omega) ((unhide H).err.alloc _)).mono ?_; rintro e w1 ⟨rfl, hr1, hk1⟩; have hz1 : w.heap.size < w1.heap.size := (by have := hk1.size; simp at this; omega); have q1 : w1.cell? ⟨w.heap.size, 1, none⟩ = some (.int .i64 st.place) := ((kcell hk1).1 _ 1 (by simp) n0).trans (by simp); have q2 : w1.cell? ⟨w.heap.size, 2, none⟩ = some (.int .i64 st.tk.num) := ((kcell hk1).1 _ 2 (by simp) n0).trans (by simp); have q3 : w1.cell? ⟨w.heap.size, 3, none⟩ = some (.string (BS st.tk.str)) := ((kcell hk1).1 _ 3 (by simp) n0).trans (by simp); have hr1 := hide hr1; have hK1 := hide (((Kept.refl rb w).alloc _).trans hk1); clear hk1)
    go_ret
    refine ⟨(unhide hK1).alloc _, _, rfl, ?_, (unhide hr1).allocd _ (by omega), unhide HFN, ho, hlp⟩
    exact IsNode.leafed (by omega) 0 st.place (0) (st.tk.str)
  have h2 := hk
  clear hk
  by_cases hk : st.tk.kind = 3
  · have hne : st.tk.kind ≠ 0 := by rw [hk]; decide
    have e22 : (st.tk.kind == 22) = false := by rw [hk]; rfl
    have e23 : (st.tk.kind == 23) = false := by rw [hk]; rfl
    have e26 : (st.tk.kind == 26) = false := by rw [hk]; rfl
    have e2 : (st.tk.kind == 2) = false := by rw [hk]; rfl
    have e3 : (st.tk.kind == 3) = true := by rw [hk]; rfl
    rw [signedRes, if_neg (show ¬ st.tk.kind = 22 by rw [hk]; decide), if_neg (show ¬ st.tk.kind = 23 by rw [hk]; decide), if_neg (show ¬ st.tk.kind = 26 by rw [hk]; decide), if_neg (show ¬ st.tk.kind = 2 by rw [hk]; decide), if_pos hk]
    have hlp := hle hne
    have HNE := hide hne
    clear hk hle hne
    go_enter Tryz.func301, Tryz.ntmps301
    go_wp2_with (go_at_call 54; refine (step_any rb s st _ (unhide H).size (unhide H).fine.after ((unhide H).at'.allocd _ hlt) (by simp; omega) ((unhide H).err.alloc _)).mono ?_; rintro e w1 ⟨rfl, hr1, hk1⟩; have hz1 : w.heap.size < w1.heap.size := (by have := hk1.size; simp at this; omega); have q1 : w1.cell? ⟨w.heap.size, 1, none⟩ = some (.int .i64 st.place) := ((kcell hk1).1 _ 1 (by simp) n0).trans (by simp); have q2 : w1.cell? ⟨w.heap.size, 2, none⟩ = some (.int .i64 st.tk.num) := ((kcell hk1).1 _ 2 (by simp) n0).trans (by simp); have q3 : w1.cell? ⟨w.heap.size, 3, none⟩ = some (.string (BS st.tk.str)) := ((kcell hk1).1 _ 3 (by simp) n0).trans (by simp); have hr1 := hide hr1; have hK1 := hide (((Kept.refl rb w).alloc _).trans hk1); clear hk1)
    go_ret
    refine ⟨(unhide hK1).alloc _, _, rfl, ?_, (unhide hr1).allocd _ (by omega), unhide HFN, ho, hlp⟩
    exact IsNode.leafed (by omega) 1 st.place (st.tk.num) ([])
  have h3 := hk
  clear hk
  by_cases hk : st.tk.kind = 4
  · have hne : st.tk.kind ≠ 0 := by rw [hk]; decide
    have e22 : (st.tk.kind == 22) = false := by rw [hk]; rfl
    have e23 : (st.tk.kind == 23) = false := by rw [hk]; rfl
    have e26 : (st.tk.kind == 26) = false := by rw [hk]; rfl
    have e2 : (st.tk.kind == 2) = false := by rw [hk]; rfl
    have e3 : (st.tk.kind == 3) = false := by rw [hk]; rfl
    have e4 : (st.tk.kind == 4) = true := by rw [hk]; rfl
    rw [signedRes, if_neg (show ¬ st.tk.kind = 22 by rw [hk]; decide), if_neg (show ¬ st.tk.kind = 23 by rw [hk]; decide), if_neg (show ¬ st.tk.kind = 26 by rw [hk]; decide), if_neg (show ¬ st.tk.kind = 2 by rw [hk]; decide), if_neg (show ¬ st.tk.kind = 3 by rw [hk]; decide), if_pos hk]
    have hlp := hle hne
    have HNE := hide hne
    clear hk hle hne
    go_enter Tryz.func301, Tryz.ntmps301
    go_wp2_with (go_at_call 54; refine (step_any rb s st _ (unhide H).size (unhide H).fine.after ((unhide H).at'.allocd _ hlt) (by simp; omega) ((unhide H).err.alloc _)).mono ?_; rintro e w1 ⟨rfl, hr1, hk1⟩; have hz1 : w.heap.size < w1.heap.size := (by have := hk1.size; simp at this; omega); have q1 : w1.cell? ⟨w.heap.size, 1, none⟩ = some (.int .i64 st.place) := ((kcell hk1).1 _ 1 (by simp) n0).trans (by simp); have q2 : w1.cell? ⟨w.heap.size, 2, none⟩ = some (.int .i64 st.tk.num) := ((kcell hk1).1 _ 2 (by simp) n0).trans (by simp); have q3 : w1.cell? ⟨w.heap.size, 3, none⟩ = some (.string (BS st.tk.str)) := ((kcell hk1).1 _ 3 (by simp) n0).trans (by simp); have hr1 := hide hr1; have hK1 := hide (((Kept.refl rb w).alloc _).trans hk1); clear hk1)
    go_ret
    refine ⟨(unhide hK1).alloc _, _, rfl, ?_, (unhide hr1).allocd _ (by omega), unhide HFN, ho, hlp⟩
    exact IsNode.leafed (by omega) 2 st.place (0) (st.tk.str)
  have h4 := hk
  clear hk
  by_cases hk : st.tk.kind = 8
  · have hne : st.tk.kind ≠ 0 := by rw [hk]; decide
    have e22 : (st.tk.kind == 22) = false := by rw [hk]; rfl
    have e23 : (st.tk.kind == 23) = false := by rw [hk]; rfl
    have e26 : (st.tk.kind == 26) = false := by rw [hk]; rfl
    have e2 : (st.tk.kind == 2) = false := by rw [hk]; rfl
    have e3 : (st.tk.kind == 3) = false := by rw [hk]; rfl
    have e4 : (st.tk.kind == 4) = false := by rw [hk]; rfl
    have e8 : (st.tk.kind == 8) = true := by rw [hk]; rfl
    rw [signedRes, if_neg (show ¬ st.tk.kind = 22 by rw [hk]; decide), if_neg (show ¬ st.tk.kind = 23 by rw [hk]; decide), if_neg (show ¬ st.tk.kind = 26 by rw [hk]; decide), if_neg (show ¬ st.tk.kind = 2 by rw [hk]; decide), if_neg (show ¬ st.tk.kind = 3 by rw [hk]; decide), if_neg (show ¬ st.tk.kind = 4 by rw [hk]; decide), if_pos hk]
    have hlp := hle hne
    have HNE := hide hne
    clear hk hle hne
    go_enter Tryz.func301, Tryz.ntmps301
    go_wp2_with (go_at_call 54; refine (step_any rb s st _ (unhide H).size (unhide H).fine.after ((unhide H).at'.allocd _ hlt) (by simp; omega) ((unhide H).err.alloc _)).mono ?_; rintro e w1 ⟨rfl, hr1, hk1⟩; have hz1 : w.heap.size < w1.heap.size := (by have := hk1.size; simp at this; omega); have q1 : w1.cell? ⟨w.heap.size, 1, none⟩ = some (.int .i64 st.place) := ((kcell hk1).1 _ 1 (by simp) n0).trans (by simp); have q2 : w1.cell? ⟨w.heap.size, 2, none⟩ = some (.int .i64 st.tk.num) := ((kcell hk1).1 _ 2 (by simp) n0).trans (by simp); have q3 : w1.cell? ⟨w.heap.size, 3, none⟩ = some (.string (BS st.tk.str)) := ((kcell hk1).1 _ 3 (by simp) n0).trans (by simp); have hr1 := hide hr1; have hK1 := hide (((Kept.refl rb w).alloc _).trans hk1); clear hk1)
    go_ret
    refine ⟨(unhide hK1).alloc _, _, rfl, ?_, (unhide hr1).allocd _ (by omega), unhide HFN, ho, hlp⟩
    exact IsNode.leafed (by omega) 3 st.place (0) ([])
  have h8 := hk
  clear hk
  have e22 : (st.tk.kind == 22) = false := beq_eq_false_iff_ne.2 h22
  have e23 : (st.tk.kind == 23) = false := beq_eq_false_iff_ne.2 h23
  have e26 : (st.tk.kind == 26) = false := beq_eq_false_iff_ne.2 h26
  have e2 : (st.tk.kind == 2) = false := beq_eq_false_iff_ne.2 h2
  have e3 : (st.tk.kind == 3) = false := beq_eq_false_iff_ne.2 h3
  have e4 : (st.tk.kind == 4) = false := beq_eq_false_iff_ne.2 h4
  have e8 : (st.tk.kind == 8) = false := beq_eq_false_iff_ne.2 h8
  rw [signedRes, if_neg h22, if_neg h23, if_neg h26, if_neg h2, if_neg h3, if_neg h4, if_neg h8]
  clear h22 h23 h26 h2 h3 h4 h8
  by_cases h9 : st.tk.kind = 9
  · rw [if_pos h9]
    have hlp := hle (by rw [h9]; decide)
    have H9 := hide h9
    clear h9 hle
    have hfd := field_place
    go_enter Tryz.func301, Tryz.ntmps301
    go_wp2_with (go_at_call 56; refine (take_ok rb s st 9 _ (unhide H).size (unhide H).fine.after ((unhide H).at'.allocd _ hlt) (by simp; omega) ((unhide H).err.alloc _) (unhide H9)).mono ?_; rintro e w1 ⟨rfl, hr1, hk1⟩; have hz1 : w.heap.size < w1.heap.size := (by have := hk1.size; simp at this; omega); have hr1 := hide hr1; have hK1 := hide (((Kept.refl rb w).alloc _).trans hk1); clear hk1; simp only [tkV])
    go_ret
    refine ⟨(unhide hK1).alloc _, _, rfl, ?_, (unhide hr1).allocd _ (by omega), unhide HFN, ho, hlp⟩
    exact IsNode.leafed (by omega) 4 st.place 0 []
  · rw [if_neg h9]
    have H9 := hide h9
    clear h9 hle
    go_enter Tryz.func301, Tryz.ntmps301
    go_wp2_with (go_at_call 56; refine (take_no rb s st 9 _ ((unhide H).at'.allocd _ hlt) (by simp; omega) (unhide H9)).mono ?_; rintro e w1 ⟨rfl, hk1⟩; simp only [gaveUp])
    exact ⟨rfl, ((Kept.refl rb w).alloc _).trans hk1, rfl⟩
end

section
def deniedRes (s : ByteArray) (fD fT : St → Res) (st : St) : Res := if st.tk.kind = 7 then signRes s fD 5 st else fT st

set_option maxHeartbeats 1000000 in
theorem denied_not (rb : Nat) (s : ByteArray) (op : Nat) (hop : op ≤ 12) (f : St → Res) (hf : op < 12 → Reads 147 rb s (op + 1) f) (w : World) (st : St) (h : Ready rb s w st) (ho : st.op = op) (hk7 : st.tk.kind = 7) :
    Calls Tryz.prog 147 #[.pointer (some ⟨rb, 0, none⟩)] w (Gives rb s w op st.place (signRes s f 5 st)) := by
  have H := hide h
  have hlt := h.lt
  have hk0 : st.tk.kind ≠ 0 := by rw [hk7]; decide
  have e7 : (st.tk.kind != 7) = false := by rw [hk7]; rfl
  obtain ⟨c0, c1, c2, c3, c4, c5, c6, fz⟩ := h.at'
  clear hk7
  by_cases h12 : st.op = 12
  · rw [signRes, if_pos h12]
    have H12 := hide h12
    clear h hf h12
    go_enter Tryz.func147, Tryz.ntmps147
    go_wp2_with (go_at_call 199; refine (enter_no rb s st _ (unhide H).at' hlt (unhide H12)).mono ?_; rintro e w1 ⟨rfl, hk1⟩; simp only [gaveUp])
    exact ⟨rfl, hk1, rfl⟩
  · have hlt12 : op < 12 := by omega
    have HF := hide (hf hlt12)
    have hle := h.fine.le hk0
    rw [signRes, if_neg h12]
    have HS : Hid (st.op < 12) := hide (by omega)
    have READY : ∀ w1, Kept rb w w1 → RdAt w1 rb s (inSt s st) → Ready rb s w1 (inSt s st) := fun w1 hk hr => h.kept hk hr (h.fine.next.op _)
    have HREADY := hide READY
    have hin : (inSt s st).op = op + 1 := by show st.op + 1 = op + 1; omega
    have HIN := hide hin
    clear h hf h12 READY hin
    cases hres : f (inSt s st) with
    | err en pl =>
      have HRES := hide hres
      clear hres
      go_enter Tryz.func147, Tryz.ntmps147
      go_wp2_with (first | (go_at_call 199; refine (enter_ok rb s st _ (unhide H).size (unhide H).fine.after (unhide H).at' hlt (unhide H).err (unhide H).glob (unhide HS)).mono ?_; rintro e w1 ⟨rfl, hr1, hk1⟩; have hr1 := hide hr1; have hk1 := hide hk1; simp only [tkV]) | (go_at_call 147; refine (unhide HF _ (inSt s st) ((unhide HREADY _ (unhide hk1) (unhide hr1)).allocd _) (unhide HIN)).mono ?_; rintro e w2 ⟨hk2, h2⟩; rw [unhide HRES] at h2; subst h2; simp only [gaveUp]))
      exact ⟨rfl, ((unhide hk1).alloc _).trans hk2, rfl⟩
    | ok x st2 =>
      have HRES := hide hres
      clear hres
      go_enter Tryz.func147, Tryz.ntmps147
      go_wp2_with (first | (go_at_call 199; refine (enter_ok rb s st _ (unhide H).size (unhide H).fine.after (unhide H).at' hlt (unhide H).err (unhide H).glob (unhide HS)).mono ?_; rintro e w1 ⟨rfl, hr1, hk1⟩; have hz1 := hk1.size; have hr1 := hide hr1; have hk1 := hide hk1; have n1 : ¬ w1.heap.size = rb := (by omega); have n2 : ¬ rb = w1.heap.size := (by omega); simp only [tkV]) | (go_at_call 147; refine (unhide HF _ (inSt s st) ((unhide HREADY _ (unhide hk1) (unhide hr1)).allocd _) (unhide HIN)).mono ?_; rintro e w2 ⟨hk2, h2⟩; rw [unhide HRES] at h2; obtain ⟨v2, rfl, hn2, hr2, hf2, ho2, hp2⟩ := h2; obtain ⟨vb, rfl⟩ := hn2.ptr; have hz2 : w1.heap.size < w2.heap.size := (by have := hk2.size; simp at this; omega); have q1 : w2.cell? ⟨w1.heap.size, 1, none⟩ = some (.int .i64 st.place) := ((kcell hk2).1 _ 1 (by simp) n1).trans (by simp); have d6 : w2.cell? ⟨rb, 6, none⟩ = some (.int .i64 ((op : Int) + 1)) := (by rw [hr2.c6, ho2]; simp); have dz := hr2.fz; have hlt2 : rb < w2.heap.size := (by omega); have hr2 := hide hr2; have hn2 := hide hn2; have hk2 := hide hk2; have hf2 := hide hf2; have ho2 := hide ho2) | (go_at_call 200; refine (denial_any rb x _ _ _ ((unhide hn2).kept ((Kept.refl rb w2).setCell 6 _)) (by rw [size_setCell]; exact hlt2)).mono ?_; rintro e w3 ⟨⟨v3, rfl, hn3⟩, hb3⟩; have hn3 := hide hn3; have hb3 := hide hb3))
      go_ret
      refine ⟨((((unhide hk1).alloc _).trans (unhide hk2)).setCell 6 _).trans (Kept.of_below (unhide hb3)), _, rfl, unhide hn3, ?_, (unhide hf2).op _, ho, ?_⟩
      · exact ((unhide hr2).setOp st.op _ (by omega)).below (unhide hb3) (by simpa using hlt2)
      · have h2 : (inSt s st).place = (stepSt s st).place := rfl
        show st.place ≤ st2.place
        omega

set_option maxHeartbeats 1000000 in
theorem denied_reads (rb : Nat) (s : ByteArray) (op : Nat) (hop : op ≤ 12) (fD fT : St → Res) (hD : op < 12 → Reads 147 rb s (op + 1) fD) (hT : Reads 198 rb s op fT) : Reads 147 rb s op (deniedRes s fD fT) := by
  intro w st h ho
  by_cases h7 : st.tk.kind = 7
  · rw [deniedRes, if_pos h7]
    exact denied_not rb s op hop fD hD w st h ho h7
  · rw [deniedRes, if_neg h7]
    have e7 : (st.tk.kind != 7) = true := by simpa using h7
    obtain ⟨c0, c1, c2, c3, c4, c5, c6, fz⟩ := h.at'
    have H := hide h
    have HT := hide hT
    clear h hT h7
    go_enter Tryz.func147, Tryz.ntmps147
    go_wp2_with fail
    refine (unhide HT _ st (unhide H) ho).mono ?_
    rintro e w' hg
    rcases hg.cases with ⟨v, rfl, hg⟩ | ⟨en, pl, rfl, hg⟩
    · have HG := hide hg
      clear hg
      go_wp2_with fail
      go_ret
      exact unhide HG
    · exact ⟨rfl, hg⟩
end

end Go.Proofs.YtfkcaldjphakpaaGreatDoor
