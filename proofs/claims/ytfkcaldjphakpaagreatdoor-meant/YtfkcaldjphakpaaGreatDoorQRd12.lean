/- isNull. -/
import Derived.Test.YtfkcaldjphakpaaGreatDoorA05
namespace Go.Proofs.YtfkcaldjphakpaaGreatDoor
open Go.RowKit

def nullOf (st : St) (l : Ast) : Ast := .un ⟨23, st.place, 0, [], [], []⟩ l
def isNullRes (s : ByteArray) (l : Ast) (st : St) : Res :=
  if (stepSt s st).tk.kind = 7 then (if (stepSt s (stepSt s st)).tk.kind = 15 then .ok (.un ⟨5, st.place, 0, [], [], []⟩ (nullOf st l)) (stepSt s (stepSt s (stepSt s st))) else .err 2 (stepSt s (stepSt s st)).place)
  else if (stepSt s st).tk.kind = 15 then .ok (nullOf st l) (stepSt s (stepSt s st)) else .err 2 (stepSt s st).place

set_option maxHeartbeats 1000000 in
theorem isNull_any (rb : Nat) (s : ByteArray) (op : Nat) (l : Ast) (lv : Value) (w : World) (st : St) (h : Ready rb s w st) (ho : st.op = op) (hl : IsNode rb w lv l) (h14 : st.tk.kind = 14) :
    Calls Tryz.prog 242 #[.pointer (some ⟨rb, 0, none⟩), lv] w (Gives rb s w op st.place (isNullRes s l st)) := by
  have H := hide h
  have hlt := h.lt
  have hle1 := h.fine.le (by rw [h14]; decide)
  have hf1 := h.fine.next
  have H14 := hide h14
  obtain ⟨lb, rfl⟩ := hl.ptr
  have HL := hide hl
  have R1 : Hid (∀ w1, Kept rb w w1 → RdAt w1 rb s (stepSt s st) → Ready rb s w1 (stepSt s st)) := hide fun w1 hk hr => h.kept hk hr hf1
  have R2 : Hid (∀ w1, Kept rb w w1 → RdAt w1 rb s (stepSt s (stepSt s st)) → Ready rb s w1 (stepSt s (stepSt s st))) := hide fun w1 hk hr => h.kept hk hr hf1.next
  clear h hl h14
  by_cases h7 : (stepSt s st).tk.kind = 7
  · have hle2 := hf1.le (by rw [h7]; decide)
    by_cases h15 : (stepSt s (stepSt s st)).tk.kind = 15
    · have hle3 := hf1.next.le (by rw [h15]; decide)
      rw [isNullRes, if_pos h7, if_pos h15]
      have H7 := hide h7
      have H15 := hide h15
      have HFN := hide hf1.next.next
      clear h7 h15 hf1
      go_enter Tryz.func242, Tryz.ntmps242
      go_wp2_with (first | (go_at_call_of 56 (Value.int IntKind.i64 14); refine (take_ok rb s st 14 _ (unhide H).size (unhide H).fine.after (unhide H).at' hlt (unhide H).err (unhide H14)).mono ?_; rintro e w1 ⟨rfl, hr1, hk1⟩; have hz1 := hk1.size; have n1 : ¬ w1.heap.size = rb := (by omega); have hR1 := hide ((unhide R1 _ hk1 hr1).allocd (.cells #[.int .i64 st.tk.kind, .int .i64 st.place, .int .i64 st.tk.num, .string (BS st.tk.str)] 91)); have hK1 := hide hk1; clear hr1 hk1; simp only [tkV]) | (go_at_call 267; refine (skip_yes rb s (stepSt s st) 7 _ (unhide hR1).size (unhide hR1).fine.after (unhide hR1).at' (unhide hR1).lt (unhide hR1).err (unhide H7)).mono ?_; rintro e w2 ⟨rfl, hr2, hk2⟩; have hz2 : w1.heap.size < w2.heap.size := (by have := hk2.size; simp at this; omega); have q1 : w2.cell? ⟨w1.heap.size, 1, none⟩ = some (.int .i64 st.place) := ((kcell hk2).1 _ 1 (by simp) n1).trans (by simp); have hK2 := hide (((unhide hK1).alloc _).trans hk2); have hR2 := hide (unhide R2 _ (((unhide hK1).alloc _).trans hk2) hr2); clear hr2 hk2) | (go_at_call_of 56 (Value.int IntKind.i64 15); refine (take_ok rb s (stepSt s (stepSt s st)) 15 _ (unhide hR2).size (unhide hR2).fine.after (unhide hR2).at' (unhide hR2).lt (unhide hR2).err (unhide H15)).mono ?_; rintro e w3 ⟨rfl, hr3, hk3⟩; have hz3 : w1.heap.size < w3.heap.size := (by have := hk3.size; omega); have q3 : w3.cell? ⟨w1.heap.size, 1, none⟩ = some (.int .i64 st.place) := ((kcell hk3).1 _ 1 hz2 n1).trans q1; have hr3 := hide hr3; have hK3 := hide ((unhide hK2).trans hk3); clear hk3; simp only [tkV]) | (go_at_call 200; refine (denial_any rb (nullOf st l) _ _ _ (IsNode.one ((unhide HL).kept (unhide hK3)) (by omega) 23 st.place) (by simp; omega)).mono ?_; rintro e w4 ⟨⟨v4, rfl, hn4⟩, hb4⟩; have hn4 := hide hn4; have hb4 := hide hb4))
      go_ret
      refine ⟨(((unhide hK3).alloc _).alloc _).trans (Kept.of_below (unhide hb4)), _, rfl, unhide hn4, ?_, unhide HFN, ho, by omega⟩
      exact (((unhide hr3).allocd _ (by omega)).allocd _ (by simp; omega)).below (unhide hb4) (by simp; omega)
    · rw [isNullRes, if_pos h7, if_neg h15]
      have H7 := hide h7
      have H15 := hide h15
      clear h7 h15 hf1
      go_enter Tryz.func242, Tryz.ntmps242
      go_wp2_with (first | (go_at_call_of 56 (Value.int IntKind.i64 14); refine (take_ok rb s st 14 _ (unhide H).size (unhide H).fine.after (unhide H).at' hlt (unhide H).err (unhide H14)).mono ?_; rintro e w1 ⟨rfl, hr1, hk1⟩; have hz1 := hk1.size; have n1 : ¬ w1.heap.size = rb := (by omega); have hR1 := hide ((unhide R1 _ hk1 hr1).allocd (.cells #[.int .i64 st.tk.kind, .int .i64 st.place, .int .i64 st.tk.num, .string (BS st.tk.str)] 91)); have hK1 := hide hk1; clear hr1 hk1; simp only [tkV]) | (go_at_call 267; refine (skip_yes rb s (stepSt s st) 7 _ (unhide hR1).size (unhide hR1).fine.after (unhide hR1).at' (unhide hR1).lt (unhide hR1).err (unhide H7)).mono ?_; rintro e w2 ⟨rfl, hr2, hk2⟩; have hz2 : w1.heap.size < w2.heap.size := (by have := hk2.size; simp at this; omega); have q1 : w2.cell? ⟨w1.heap.size, 1, none⟩ = some (.int .i64 st.place) := ((kcell hk2).1 _ 1 (by simp) n1).trans (by simp); have hK2 := hide (((unhide hK1).alloc _).trans hk2); have hR2 := hide (unhide R2 _ (((unhide hK1).alloc _).trans hk2) hr2); clear hr2 hk2) | (go_at_call_of 56 (Value.int IntKind.i64 15); refine (take_no rb s (stepSt s (stepSt s st)) 15 _ (unhide hR2).at' (unhide hR2).lt (unhide H15)).mono ?_; rintro e w3 ⟨rfl, hk3⟩; simp only [gaveUp]))
      exact ⟨rfl, (unhide hK2).trans hk3, rfl⟩
  · by_cases h15 : (stepSt s st).tk.kind = 15
    · have hle3 := hf1.le (by rw [h15]; decide)
      rw [isNullRes, if_neg h7, if_pos h15]
      have H7 := hide h7
      have H15 := hide h15
      have HFN := hide hf1.next
      clear h7 h15 hf1
      go_enter Tryz.func242, Tryz.ntmps242
      go_wp2_with (first | (go_at_call_of 56 (Value.int IntKind.i64 14); refine (take_ok rb s st 14 _ (unhide H).size (unhide H).fine.after (unhide H).at' hlt (unhide H).err (unhide H14)).mono ?_; rintro e w1 ⟨rfl, hr1, hk1⟩; have hz1 := hk1.size; have n1 : ¬ w1.heap.size = rb := (by omega); have hR1 := hide ((unhide R1 _ hk1 hr1).allocd (.cells #[.int .i64 st.tk.kind, .int .i64 st.place, .int .i64 st.tk.num, .string (BS st.tk.str)] 91)); have hK1 := hide hk1; clear hr1 hk1; simp only [tkV]) | (go_at_call 267; refine (skip_no rb s (stepSt s st) 7 _ (unhide hR1).at' (unhide H7)).mono ?_; rintro e w2 ⟨rfl, rfl⟩) | (go_at_call_of 56 (Value.int IntKind.i64 15); refine (take_ok rb s (stepSt s st) 15 _ (unhide hR1).size (unhide hR1).fine.after (unhide hR1).at' (unhide hR1).lt (unhide hR1).err (unhide H15)).mono ?_; rintro e w3 ⟨rfl, hr3, hk3⟩; have hz3 : w1.heap.size < w3.heap.size := (by have := hk3.size; simp at this; omega); have q3 : w3.cell? ⟨w1.heap.size, 1, none⟩ = some (.int .i64 st.place) := ((kcell hk3).1 _ 1 (by simp) n1).trans (by simp); have hr3 := hide hr3; have hK3 := hide (((unhide hK1).alloc _).trans hk3); clear hk3; simp only [tkV]))
      go_ret
      refine ⟨((unhide hK3).alloc _).alloc _, _, rfl, IsNode.one ((unhide HL).kept (unhide hK3)) (by omega) 23 st.place, ((unhide hr3).allocd _ (by omega)).allocd _ (by simp; omega), unhide HFN, ho, by omega⟩
    · rw [isNullRes, if_neg h7, if_neg h15]
      have H7 := hide h7
      have H15 := hide h15
      clear h7 h15 hf1
      go_enter Tryz.func242, Tryz.ntmps242
      go_wp2_with (first | (go_at_call_of 56 (Value.int IntKind.i64 14); refine (take_ok rb s st 14 _ (unhide H).size (unhide H).fine.after (unhide H).at' hlt (unhide H).err (unhide H14)).mono ?_; rintro e w1 ⟨rfl, hr1, hk1⟩; have hz1 := hk1.size; have n1 : ¬ w1.heap.size = rb := (by omega); have hR1 := hide ((unhide R1 _ hk1 hr1).allocd (.cells #[.int .i64 st.tk.kind, .int .i64 st.place, .int .i64 st.tk.num, .string (BS st.tk.str)] 91)); have hK1 := hide hk1; clear hr1 hk1; simp only [tkV]) | (go_at_call 267; refine (skip_no rb s (stepSt s st) 7 _ (unhide hR1).at' (unhide H7)).mono ?_; rintro e w2 ⟨rfl, rfl⟩) | (go_at_call_of 56 (Value.int IntKind.i64 15); refine (take_no rb s (stepSt s st) 15 _ (unhide hR1).at' (unhide hR1).lt (unhide H15)).mono ?_; rintro e w3 ⟨rfl, hk3⟩; simp only [gaveUp]))
      exact ⟨rfl, ((unhide hK1).alloc _).trans hk3, rfl⟩

end Go.Proofs.YtfkcaldjphakpaaGreatDoor
