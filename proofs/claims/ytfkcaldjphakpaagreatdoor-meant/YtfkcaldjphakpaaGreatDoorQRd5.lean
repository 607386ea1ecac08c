/- joined: a term of two sides, whatever reads the second one. -/
import Derived.Test.YtfkcaldjphakpaaGreatDoorA03
import Derived.Deep.RegionHeld3
namespace Go.Proofs.YtfkcaldjphakpaaGreatDoor
open Go.RowKit

/-- Two sides with an operator's token between them. -/
def binOf (st : St) (l r : Ast) : Ast := .bin ⟨opOf st.tk.kind, st.place, 0, [], [], []⟩ l r
def joinRes (s : ByteArray) (f : St → Res) (st : St) (l : Ast) : Res := match f (stepSt s st) with
  | .ok r st' => .ok (binOf st l r) st'
  | .err en pl => .err en pl

theorem joinRes_ok {s : ByteArray} {f : St → Res} {st : St} {l r : Ast} {st' : St} (h : f (stepSt s st) = .ok r st') : joinRes s f st l = .ok (binOf st l r) st' := by unfold joinRes; rw [h]
theorem joinRes_err {s : ByteArray} {f : St → Res} {st : St} {l : Ast} {en pl : Int} (h : f (stepSt s st) = .err en pl) : joinRes s f st l = .err en pl := by unfold joinRes; rw [h]

/-- A callee that gave up ends the region: what is left to walk is nothing. -/
theorem gone {Q : Prop} {w : World} (h : Q) (_ : wpAny Tryz.prog .any #[] (fun _ _ _ => True) 0 #[] ⟨#[], []⟩ w) : Q := h

theorem stepSt_op (s : ByteArray) (st : St) : (stepSt s st).op = st.op := rfl

theorem Ready.stepped {rb : Nat} {s : ByteArray} {w w1 : World} {st : St} (h : Ready rb s w st) (hk : Kept rb w w1) (hr : RdAt w1 rb s (stepSt s st)) : Ready rb s w1.drew (stepSt s st) :=
  h.kept hk.drew (hr.below ((Below.refl w1.heap.size w1).drew) (Nat.lt_of_lt_of_le h.lt hk.size)) (stepSt_fine s st h.fine.after)

theorem IsNode.ptr {rb : Nat} {w : World} {v : Value} {t : Ast} (h : IsNode rb w v t) : ∃ b, v = .pointer (some ⟨b, 0, none⟩) := by
  cases t with
  | leaf p => obtain ⟨b, hv, _⟩ := h; exact ⟨b, hv⟩
  | un p x => obtain ⟨b, g, v1, hv, _⟩ := h; exact ⟨b, hv⟩
  | bin p x y => obtain ⟨b, g, v1, v2, hv, _⟩ := h; exact ⟨b, hv⟩
  | tri p x y z => obtain ⟨b, g, v1, v2, v3, hv, _⟩ := h; exact ⟨b, hv⟩

/-- A new term of two sides. -/
theorem IsNode.two {rb : Nat} {w : World} {l r : Ast} {lv rv : Value} (hl : IsNode rb w lv l) (hr : IsNode rb w rv r) (hlt : rb < w.heap.size) (op place : Int) :
    IsNode rb ((w.alloc (.cells #[lv, rv] 67)).alloc (.cells #[.int .i64 op, .int .i64 place, .slice (some ⟨w.heap.size, 0, none⟩) 2 2, .int .i64 0, .string ⟨#[]⟩, .string ⟨#[]⟩, .slice none 0 0] 102))
      (.pointer (some ⟨w.heap.size + 1, 0, none⟩)) (.bin ⟨op, place, 0, [], [], []⟩ l r) := by
  have hk : Kept rb w ((w.alloc (.cells #[lv, rv] 67)).alloc (.cells #[.int .i64 op, .int .i64 place, .slice (some ⟨w.heap.size, 0, none⟩) 2 2, .int .i64 0, .string ⟨#[]⟩, .string ⟨#[]⟩, .slice none 0 0] 102)) := ((Kept.refl rb w).alloc _).alloc _
  refine ⟨w.heap.size + 1, w.heap.size, lv, rv, rfl, ⟨by omega, by simp, by simp, by simp, by simp, by simp, by simp [BS], by simp [BS], .slice none 0 0, by simp, .inl ⟨rfl, rfl⟩⟩, hlt, by simp; omega, ?_, ?_, hl.kept hk, hr.kept hk⟩
  · rw [World.cell?_alloc_past _ _ _ (by simp), World.cell?_alloc_at _ _ _ _ rfl]; rfl
  · rw [World.cell?_alloc_past _ _ _ (by simp), World.cell?_alloc_at _ _ _ _ rfl]; rfl

set_option maxHeartbeats 1000000 in
theorem joined_both (rb : Nat) (s : ByteArray) (op : Nat) (f : St → Res) (hf : Reads 102 rb s op f) (st : St) (l : Ast) (lv : Value) (w : World) (h : Ready rb s w st) (hop : st.op = op) (hl : IsNode rb w lv l) :
    Calls Tryz.prog 146 #[.pointer (some ⟨rb, 0, none⟩), lv, .func (.func 102) #[.pointer (some ⟨rb, 0, none⟩)] #[]] w (Gives rb s w op st.after (joinRes s f st l)) := by
  have hr := h.at'
  have hlt := h.lt
  have H := hide h
  obtain ⟨c0, c1, c2, c3, c4, c5, c6, fz⟩ := hr
  have HF := hide hf
  obtain ⟨lb, rfl⟩ := hl.ptr
  have HL := hide hl
  have n0 : ¬ w.heap.size = rb := by omega
  clear hf h hl
  cases hres : f (stepSt s st) with
  | ok r st' =>
    rw [joinRes_ok hres]
    have HRES := hide hres
    clear hres
    go_enter Tryz.func146, Tryz.ntmps146
    go_wp2_with (go_at_call 54; refine (step_any rb s st _ (unhide H).size (unhide H).fine.after ((unhide H).at'.allocd _ hlt) (by simp; omega) ((unhide H).err.alloc _)).mono ?_; rintro e w1 ⟨rfl, hr1, hk1⟩; have hr1 := hide hr1; have hz1 : w.heap.size < w1.heap.size := (by have := hk1.size; simp at this; omega); have p0 : w1.cell? ⟨w.heap.size, 0, none⟩ = some (.int .i64 st.tk.kind) := ((kcell hk1).1 _ 0 (by simp) n0).trans (by simp); have p1 : w1.cell? ⟨w.heap.size, 1, none⟩ = some (.int .i64 st.place) := ((kcell hk1).1 _ 1 (by simp) n0).trans (by simp); have hK1 := hide (((Kept.refl rb w).alloc _).trans hk1); clear hk1)
    go_region_held3 (fun w' => w'.cell? ⟨w.heap.size, 0, none⟩ = some (.int .i64 st.tk.kind) ∧ w'.cell? ⟨w.heap.size, 1, none⟩ = some (.int .i64 st.place)) (go_keep) (first | (go_at_call 197; refine (twoSided_any _ _).mono ?_; rintro e w' ⟨rfl, rfl⟩) | (go_at_call 102; refine (unhide HF _ (stepSt s st) ((unhide H).stepped (unhide hK1) (unhide hr1)) hop).mono ?_; rintro e w2 ⟨hk2, h2⟩; rw [unhide HRES] at h2; obtain ⟨v2, rfl, hn2, hr2, ha2, ho2, hp2⟩ := h2; obtain ⟨vb, rfl⟩ := hn2.ptr; have p0' : w2.cell? ⟨w.heap.size, 0, none⟩ = some (.int .i64 st.tk.kind) := ((kcell hk2).1 _ 0 hz1 n0).trans p0; have p1' : w2.cell? ⟨w.heap.size, 1, none⟩ = some (.int .i64 st.place) := ((kcell hk2).1 _ 1 hz1 n0).trans p1; have hz2 : w.heap.size < w2.heap.size := Nat.lt_of_lt_of_le hz1 hk2.size; have hk2 := hide hk2; have hn2 := hide hn2; have hr2 := hide hr2))
    all_goals (go_wp2_with fail)
    all_goals go_ret
    refine ⟨?_, _, rfl, ?_, ?_, ha2, ho2, Nat.le_trans (stepSt_place s st) hp2⟩
    · exact ((((unhide hK1).trans ((Kept.refl rb w1).drew.trans (unhide hk2))).alloc _).alloc _)
    · have := IsNode.two (op := opOf st.tk.kind) (place := st.place) ((unhide HL).kept ((unhide hK1).trans ((Kept.refl rb w1).drew.trans (unhide hk2)))) (unhide hn2) (by omega)
      exact this
    · exact (((unhide hr2).allocd _ (by omega)).allocd _ (by simp; omega))
  | err en pl =>
    rw [joinRes_err hres]
    have HRES := hide hres
    clear hres
    go_enter Tryz.func146, Tryz.ntmps146
    go_wp2_with (go_at_call 54; refine (step_any rb s st _ (unhide H).size (unhide H).fine.after ((unhide H).at'.allocd _ hlt) (by simp; omega) ((unhide H).err.alloc _)).mono ?_; rintro e w1 ⟨rfl, hr1, hk1⟩; have hr1 := hide hr1; have hz1 : w.heap.size < w1.heap.size := (by have := hk1.size; simp at this; omega); have p0 : w1.cell? ⟨w.heap.size, 0, none⟩ = some (.int .i64 st.tk.kind) := ((kcell hk1).1 _ 0 (by simp) n0).trans (by simp); have p1 : w1.cell? ⟨w.heap.size, 1, none⟩ = some (.int .i64 st.place) := ((kcell hk1).1 _ 1 (by simp) n0).trans (by simp); have hK1 := hide (((Kept.refl rb w).alloc _).trans hk1); clear hk1)
    go_region_with (first | (go_at_call 197; refine (twoSided_any _ _).mono ?_; rintro e w' ⟨rfl, rfl⟩) | (go_at_call 102; refine (unhide HF _ (stepSt s st) ((unhide H).stepped (unhide hK1) (unhide hr1)) hop).mono ?_; rintro e w2 ⟨hk2, h2⟩; rw [unhide HRES] at h2; subst h2; refine gone (w := w2) ⟨rfl, (unhide hK1).trans ((Kept.refl rb w1).drew.trans hk2), rfl⟩ ?_))
    all_goals trivial

set_option maxHeartbeats 1000000 in
theorem joined_denied (rb : Nat) (s : ByteArray) (op : Nat) (f : St → Res) (hf : Reads 147 rb s op f) (st : St) (l : Ast) (lv : Value) (w : World) (h : Ready rb s w st) (hop : st.op = op) (hl : IsNode rb w lv l) :
    Calls Tryz.prog 146 #[.pointer (some ⟨rb, 0, none⟩), lv, .func (.func 147) #[.pointer (some ⟨rb, 0, none⟩)] #[]] w (Gives rb s w op st.after (joinRes s f st l)) := by
  have hr := h.at'
  have hlt := h.lt
  have H := hide h
  obtain ⟨c0, c1, c2, c3, c4, c5, c6, fz⟩ := hr
  have HF := hide hf
  obtain ⟨lb, rfl⟩ := hl.ptr
  have HL := hide hl
  have n0 : ¬ w.heap.size = rb := by omega
  clear hf h hl
  cases hres : f (stepSt s st) with
  | ok r st' =>
    rw [joinRes_ok hres]
    have HRES := hide hres
    clear hres
    go_enter Tryz.func146, Tryz.ntmps146
    go_wp2_with (go_at_call 54; refine (step_any rb s st _ (unhide H).size (unhide H).fine.after ((unhide H).at'.allocd _ hlt) (by simp; omega) ((unhide H).err.alloc _)).mono ?_; rintro e w1 ⟨rfl, hr1, hk1⟩; have hr1 := hide hr1; have hz1 : w.heap.size < w1.heap.size := (by have := hk1.size; simp at this; omega); have p0 : w1.cell? ⟨w.heap.size, 0, none⟩ = some (.int .i64 st.tk.kind) := ((kcell hk1).1 _ 0 (by simp) n0).trans (by simp); have p1 : w1.cell? ⟨w.heap.size, 1, none⟩ = some (.int .i64 st.place) := ((kcell hk1).1 _ 1 (by simp) n0).trans (by simp); have hK1 := hide (((Kept.refl rb w).alloc _).trans hk1); clear hk1)
    go_region_held3 (fun w' => w'.cell? ⟨w.heap.size, 0, none⟩ = some (.int .i64 st.tk.kind) ∧ w'.cell? ⟨w.heap.size, 1, none⟩ = some (.int .i64 st.place)) (go_keep) (first | (go_at_call 197; refine (twoSided_any _ _).mono ?_; rintro e w' ⟨rfl, rfl⟩) | (go_at_call 147; refine (unhide HF _ (stepSt s st) ((unhide H).stepped (unhide hK1) (unhide hr1)) hop).mono ?_; rintro e w2 ⟨hk2, h2⟩; rw [unhide HRES] at h2; obtain ⟨v2, rfl, hn2, hr2, ha2, ho2, hp2⟩ := h2; obtain ⟨vb, rfl⟩ := hn2.ptr; have p0' : w2.cell? ⟨w.heap.size, 0, none⟩ = some (.int .i64 st.tk.kind) := ((kcell hk2).1 _ 0 hz1 n0).trans p0; have p1' : w2.cell? ⟨w.heap.size, 1, none⟩ = some (.int .i64 st.place) := ((kcell hk2).1 _ 1 hz1 n0).trans p1; have hz2 : w.heap.size < w2.heap.size := Nat.lt_of_lt_of_le hz1 hk2.size; have hk2 := hide hk2; have hn2 := hide hn2; have hr2 := hide hr2))
    all_goals (go_wp2_with fail)
    all_goals go_ret
    refine ⟨?_, _, rfl, ?_, ?_, ha2, ho2, Nat.le_trans (stepSt_place s st) hp2⟩
    · exact ((((unhide hK1).trans ((Kept.refl rb w1).drew.trans (unhide hk2))).alloc _).alloc _)
    · have := IsNode.two (op := opOf st.tk.kind) (place := st.place) ((unhide HL).kept ((unhide hK1).trans ((Kept.refl rb w1).drew.trans (unhide hk2)))) (unhide hn2) (by omega)
      exact this
    · exact (((unhide hr2).allocd _ (by omega)).allocd _ (by simp; omega))
  | err en pl =>
    rw [joinRes_err hres]
    have HRES := hide hres
    clear hres
    go_enter Tryz.func146, Tryz.ntmps146
    go_wp2_with (go_at_call 54; refine (step_any rb s st _ (unhide H).size (unhide H).fine.after ((unhide H).at'.allocd _ hlt) (by simp; omega) ((unhide H).err.alloc _)).mono ?_; rintro e w1 ⟨rfl, hr1, hk1⟩; have hr1 := hide hr1; have hz1 : w.heap.size < w1.heap.size := (by have := hk1.size; simp at this; omega); have p0 : w1.cell? ⟨w.heap.size, 0, none⟩ = some (.int .i64 st.tk.kind) := ((kcell hk1).1 _ 0 (by simp) n0).trans (by simp); have p1 : w1.cell? ⟨w.heap.size, 1, none⟩ = some (.int .i64 st.place) := ((kcell hk1).1 _ 1 (by simp) n0).trans (by simp); have hK1 := hide (((Kept.refl rb w).alloc _).trans hk1); clear hk1)
    go_region_with (first | (go_at_call 197; refine (twoSided_any _ _).mono ?_; rintro e w' ⟨rfl, rfl⟩) | (go_at_call 147; refine (unhide HF _ (stepSt s st) ((unhide H).stepped (unhide hK1) (unhide hr1)) hop).mono ?_; rintro e w2 ⟨hk2, h2⟩; rw [unhide HRES] at h2; subst h2; refine gone (w := w2) ⟨rfl, (unhide hK1).trans ((Kept.refl rb w1).drew.trans hk2), rfl⟩ ?_))
    all_goals trivial

set_option maxHeartbeats 1000000 in
theorem joined_product (rb : Nat) (s : ByteArray) (op : Nat) (f : St → Res) (hf : Reads 266 rb s op f) (st : St) (l : Ast) (lv : Value) (w : World) (h : Ready rb s w st) (hop : st.op = op) (hl : IsNode rb w lv l) :
    Calls Tryz.prog 146 #[.pointer (some ⟨rb, 0, none⟩), lv, .func (.func 266) #[.pointer (some ⟨rb, 0, none⟩)] #[]] w (Gives rb s w op st.after (joinRes s f st l)) := by
  have hr := h.at'
  have hlt := h.lt
  have H := hide h
  obtain ⟨c0, c1, c2, c3, c4, c5, c6, fz⟩ := hr
  have HF := hide hf
  obtain ⟨lb, rfl⟩ := hl.ptr
  have HL := hide hl
  have n0 : ¬ w.heap.size = rb := by omega
  clear hf h hl
  cases hres : f (stepSt s st) with
  | ok r st' =>
    rw [joinRes_ok hres]
    have HRES := hide hres
    clear hres
    go_enter Tryz.func146, Tryz.ntmps146
    go_wp2_with (go_at_call 54; refine (step_any rb s st _ (unhide H).size (unhide H).fine.after ((unhide H).at'.allocd _ hlt) (by simp; omega) ((unhide H).err.alloc _)).mono ?_; rintro e w1 ⟨rfl, hr1, hk1⟩; have hr1 := hide hr1; have hz1 : w.heap.size < w1.heap.size := (by have := hk1.size; simp at this; omega); have p0 : w1.cell? ⟨w.heap.size, 0, none⟩ = some (.int .i64 st.tk.kind) := ((kcell hk1).1 _ 0 (by simp) n0).trans (by simp); have p1 : w1.cell? ⟨w.heap.size, 1, none⟩ = some (.int .i64 st.place) := ((kcell hk1).1 _ 1 (by simp) n0).trans (by simp); have hK1 := hide (((Kept.refl rb w).alloc _).trans hk1); clear hk1)
    go_region_held3 (fun w' => w'.cell? ⟨w.heap.size, 0, none⟩ = some (.int .i64 st.tk.kind) ∧ w'.cell? ⟨w.heap.size, 1, none⟩ = some (.int .i64 st.place)) (go_keep) (first | (go_at_call 197; refine (twoSided_any _ _).mono ?_; rintro e w' ⟨rfl, rfl⟩) | (go_at_call 266; refine (unhide HF _ (stepSt s st) ((unhide H).stepped (unhide hK1) (unhide hr1)) hop).mono ?_; rintro e w2 ⟨hk2, h2⟩; rw [unhide HRES] at h2; obtain ⟨v2, rfl, hn2, hr2, ha2, ho2, hp2⟩ := h2; obtain ⟨vb, rfl⟩ := hn2.ptr; have p0' : w2.cell? ⟨w.heap.size, 0, none⟩ = some (.int .i64 st.tk.kind) := ((kcell hk2).1 _ 0 hz1 n0).trans p0; have p1' : w2.cell? ⟨w.heap.size, 1, none⟩ = some (.int .i64 st.place) := ((kcell hk2).1 _ 1 hz1 n0).trans p1; have hz2 : w.heap.size < w2.heap.size := Nat.lt_of_lt_of_le hz1 hk2.size; have hk2 := hide hk2; have hn2 := hide hn2; have hr2 := hide hr2))
    all_goals (go_wp2_with fail)
    all_goals go_ret
    refine ⟨?_, _, rfl, ?_, ?_, ha2, ho2, Nat.le_trans (stepSt_place s st) hp2⟩
    · exact ((((unhide hK1).trans ((Kept.refl rb w1).drew.trans (unhide hk2))).alloc _).alloc _)
    · have := IsNode.two (op := opOf st.tk.kind) (place := st.place) ((unhide HL).kept ((unhide hK1).trans ((Kept.refl rb w1).drew.trans (unhide hk2)))) (unhide hn2) (by omega)
      exact this
    · exact (((unhide hr2).allocd _ (by omega)).allocd _ (by simp; omega))
  | err en pl =>
    rw [joinRes_err hres]
    have HRES := hide hres
    clear hres
    go_enter Tryz.func146, Tryz.ntmps146
    go_wp2_with (go_at_call 54; refine (step_any rb s st _ (unhide H).size (unhide H).fine.after ((unhide H).at'.allocd _ hlt) (by simp; omega) ((unhide H).err.alloc _)).mono ?_; rintro e w1 ⟨rfl, hr1, hk1⟩; have hr1 := hide hr1; have hz1 : w.heap.size < w1.heap.size := (by have := hk1.size; simp at this; omega); have p0 : w1.cell? ⟨w.heap.size, 0, none⟩ = some (.int .i64 st.tk.kind) := ((kcell hk1).1 _ 0 (by simp) n0).trans (by simp); have p1 : w1.cell? ⟨w.heap.size, 1, none⟩ = some (.int .i64 st.place) := ((kcell hk1).1 _ 1 (by simp) n0).trans (by simp); have hK1 := hide (((Kept.refl rb w).alloc _).trans hk1); clear hk1)
    go_region_with (first | (go_at_call 197; refine (twoSided_any _ _).mono ?_; rintro e w' ⟨rfl, rfl⟩) | (go_at_call 266; refine (unhide HF _ (stepSt s st) ((unhide H).stepped (unhide hK1) (unhide hr1)) hop).mono ?_; rintro e w2 ⟨hk2, h2⟩; rw [unhide HRES] at h2; subst h2; refine gone (w := w2) ⟨rfl, (unhide hK1).trans ((Kept.refl rb w1).drew.trans hk2), rfl⟩ ?_))
    all_goals trivial

set_option maxHeartbeats 1000000 in
theorem joined_signed (rb : Nat) (s : ByteArray) (op : Nat) (f : St → Res) (hf : Reads 301 rb s op f) (st : St) (l : Ast) (lv : Value) (w : World) (h : Ready rb s w st) (hop : st.op = op) (hl : IsNode rb w lv l) :
    Calls Tryz.prog 146 #[.pointer (some ⟨rb, 0, none⟩), lv, .func (.func 301) #[.pointer (some ⟨rb, 0, none⟩)] #[]] w (Gives rb s w op st.after (joinRes s f st l)) := by
  have hr := h.at'
  have hlt := h.lt
  have H := hide h
  obtain ⟨c0, c1, c2, c3, c4, c5, c6, fz⟩ := hr
  have HF := hide hf
  obtain ⟨lb, rfl⟩ := hl.ptr
  have HL := hide hl
  have n0 : ¬ w.heap.size = rb := by omega
  clear hf h hl
  cases hres : f (stepSt s st) with
  | ok r st' =>
    rw [joinRes_ok hres]
    have HRES := hide hres
    clear hres
    go_enter Tryz.func146, Tryz.ntmps146
    go_wp2_with (go_at_call 54; refine (step_any rb s st _ (unhide H).size (unhide H).fine.after ((unhide H).at'.allocd _ hlt) (by simp; omega) ((unhide H).err.alloc _)).mono ?_; rintro e w1 ⟨rfl, hr1, hk1⟩; have hr1 := hide hr1; have hz1 : w.heap.size < w1.heap.size := (by have := hk1.size; simp at this; omega); have p0 : w1.cell? ⟨w.heap.size, 0, none⟩ = some (.int .i64 st.tk.kind) := ((kcell hk1).1 _ 0 (by simp) n0).trans (by simp); have p1 : w1.cell? ⟨w.heap.size, 1, none⟩ = some (.int .i64 st.place) := ((kcell hk1).1 _ 1 (by simp) n0).trans (by simp); have hK1 := hide (((Kept.refl rb w).alloc _).trans hk1); clear hk1)
    go_region_held3 (fun w' => w'.cell? ⟨w.heap.size, 0, none⟩ = some (.int .i64 st.tk.kind) ∧ w'.cell? ⟨w.heap.size, 1, none⟩ = some (.int .i64 st.place)) (go_keep) (first | (go_at_call 197; refine (twoSided_any _ _).mono ?_; rintro e w' ⟨rfl, rfl⟩) | (go_at_call 301; refine (unhide HF _ (stepSt s st) ((unhide H).stepped (unhide hK1) (unhide hr1)) hop).mono ?_; rintro e w2 ⟨hk2, h2⟩; rw [unhide HRES] at h2; obtain ⟨v2, rfl, hn2, hr2, ha2, ho2, hp2⟩ := h2; obtain ⟨vb, rfl⟩ := hn2.ptr; have p0' : w2.cell? ⟨w.heap.size, 0, none⟩ = some (.int .i64 st.tk.kind) := ((kcell hk2).1 _ 0 hz1 n0).trans p0; have p1' : w2.cell? ⟨w.heap.size, 1, none⟩ = some (.int .i64 st.place) := ((kcell hk2).1 _ 1 hz1 n0).trans p1; have hz2 : w.heap.size < w2.heap.size := Nat.lt_of_lt_of_le hz1 hk2.size; have hk2 := hide hk2; have hn2 := hide hn2; have hr2 := hide hr2))
    all_goals (go_wp2_with fail)
    all_goals go_ret
    refine ⟨?_, _, rfl, ?_, ?_, ha2, ho2, Nat.le_trans (stepSt_place s st) hp2⟩
    · exact ((((unhide hK1).trans ((Kept.refl rb w1).drew.trans (unhide hk2))).alloc _).alloc _)
    · have := IsNode.two (op := opOf st.tk.kind) (place := st.place) ((unhide HL).kept ((unhide hK1).trans ((Kept.refl rb w1).drew.trans (unhide hk2)))) (unhide hn2) (by omega)
      exact this
    · exact (((unhide hr2).allocd _ (by omega)).allocd _ (by simp; omega))
  | err en pl =>
    rw [joinRes_err hres]
    have HRES := hide hres
    clear hres
    go_enter Tryz.func146, Tryz.ntmps146
    go_wp2_with (go_at_call 54; refine (step_any rb s st _ (unhide H).size (unhide H).fine.after ((unhide H).at'.allocd _ hlt) (by simp; omega) ((unhide H).err.alloc _)).mono ?_; rintro e w1 ⟨rfl, hr1, hk1⟩; have hr1 := hide hr1; have hz1 : w.heap.size < w1.heap.size := (by have := hk1.size; simp at this; omega); have p0 : w1.cell? ⟨w.heap.size, 0, none⟩ = some (.int .i64 st.tk.kind) := ((kcell hk1).1 _ 0 (by simp) n0).trans (by simp); have p1 : w1.cell? ⟨w.heap.size, 1, none⟩ = some (.int .i64 st.place) := ((kcell hk1).1 _ 1 (by simp) n0).trans (by simp); have hK1 := hide (((Kept.refl rb w).alloc _).trans hk1); clear hk1)
    go_region_with (first | (go_at_call 197; refine (twoSided_any _ _).mono ?_; rintro e w' ⟨rfl, rfl⟩) | (go_at_call 301; refine (unhide HF _ (stepSt s st) ((unhide H).stepped (unhide hK1) (unhide hr1)) hop).mono ?_; rintro e w2 ⟨hk2, h2⟩; rw [unhide HRES] at h2; subst h2; refine gone (w := w2) ⟨rfl, (unhide hK1).trans ((Kept.refl rb w1).drew.trans hk2), rfl⟩ ?_))
    all_goals trivial

set_option maxHeartbeats 1000000 in
theorem joined_sum (rb : Nat) (s : ByteArray) (op : Nat) (f : St → Res) (hf : Reads 241 rb s op f) (st : St) (l : Ast) (lv : Value) (w : World) (h : Ready rb s w st) (hop : st.op = op) (hl : IsNode rb w lv l) :
    Calls Tryz.prog 146 #[.pointer (some ⟨rb, 0, none⟩), lv, .func (.func 241) #[.pointer (some ⟨rb, 0, none⟩)] #[]] w (Gives rb s w op st.after (joinRes s f st l)) := by
  have hr := h.at'
  have hlt := h.lt
  have H := hide h
  obtain ⟨c0, c1, c2, c3, c4, c5, c6, fz⟩ := hr
  have HF := hide hf
  obtain ⟨lb, rfl⟩ := hl.ptr
  have HL := hide hl
  have n0 : ¬ w.heap.size = rb := by omega
  clear hf h hl
  cases hres : f (stepSt s st) with
  | ok r st' =>
    rw [joinRes_ok hres]
    have HRES := hide hres
    clear hres
    go_enter Tryz.func146, Tryz.ntmps146
    go_wp2_with (go_at_call 54; refine (step_any rb s st _ (unhide H).size (unhide H).fine.after ((unhide H).at'.allocd _ hlt) (by simp; omega) ((unhide H).err.alloc _)).mono ?_; rintro e w1 ⟨rfl, hr1, hk1⟩; have hr1 := hide hr1; have hz1 : w.heap.size < w1.heap.size := (by have := hk1.size; simp at this; omega); have p0 : w1.cell? ⟨w.heap.size, 0, none⟩ = some (.int .i64 st.tk.kind) := ((kcell hk1).1 _ 0 (by simp) n0).trans (by simp); have p1 : w1.cell? ⟨w.heap.size, 1, none⟩ = some (.int .i64 st.place) := ((kcell hk1).1 _ 1 (by simp) n0).trans (by simp); have hK1 := hide (((Kept.refl rb w).alloc _).trans hk1); clear hk1)
    go_region_held3 (fun w' => w'.cell? ⟨w.heap.size, 0, none⟩ = some (.int .i64 st.tk.kind) ∧ w'.cell? ⟨w.heap.size, 1, none⟩ = some (.int .i64 st.place)) (go_keep) (first | (go_at_call 197; refine (twoSided_any _ _).mono ?_; rintro e w' ⟨rfl, rfl⟩) | (go_at_call 241; refine (unhide HF _ (stepSt s st) ((unhide H).stepped (unhide hK1) (unhide hr1)) hop).mono ?_; rintro e w2 ⟨hk2, h2⟩; rw [unhide HRES] at h2; obtain ⟨v2, rfl, hn2, hr2, ha2, ho2, hp2⟩ := h2; obtain ⟨vb, rfl⟩ := hn2.ptr; have p0' : w2.cell? ⟨w.heap.size, 0, none⟩ = some (.int .i64 st.tk.kind) := ((kcell hk2).1 _ 0 hz1 n0).trans p0; have p1' : w2.cell? ⟨w.heap.size, 1, none⟩ = some (.int .i64 st.place) := ((kcell hk2).1 _ 1 hz1 n0).trans p1; have hz2 : w.heap.size < w2.heap.size := Nat.lt_of_lt_of_le hz1 hk2.size; have hk2 := hide hk2; have hn2 := hide hn2; have hr2 := hide hr2))
    all_goals (go_wp2_with fail)
    all_goals go_ret
    refine ⟨?_, _, rfl, ?_, ?_, ha2, ho2, Nat.le_trans (stepSt_place s st) hp2⟩
    · exact ((((unhide hK1).trans ((Kept.refl rb w1).drew.trans (unhide hk2))).alloc _).alloc _)
    · have := IsNode.two (op := opOf st.tk.kind) (place := st.place) ((unhide HL).kept ((unhide hK1).trans ((Kept.refl rb w1).drew.trans (unhide hk2)))) (unhide hn2) (by omega)
      exact this
    · exact (((unhide hr2).allocd _ (by omega)).allocd _ (by simp; omega))
  | err en pl =>
    rw [joinRes_err hres]
    have HRES := hide hres
    clear hres
    go_enter Tryz.func146, Tryz.ntmps146
    go_wp2_with (go_at_call 54; refine (step_any rb s st _ (unhide H).size (unhide H).fine.after ((unhide H).at'.allocd _ hlt) (by simp; omega) ((unhide H).err.alloc _)).mono ?_; rintro e w1 ⟨rfl, hr1, hk1⟩; have hr1 := hide hr1; have hz1 : w.heap.size < w1.heap.size := (by have := hk1.size; simp at this; omega); have p0 : w1.cell? ⟨w.heap.size, 0, none⟩ = some (.int .i64 st.tk.kind) := ((kcell hk1).1 _ 0 (by simp) n0).trans (by simp); have p1 : w1.cell? ⟨w.heap.size, 1, none⟩ = some (.int .i64 st.place) := ((kcell hk1).1 _ 1 (by simp) n0).trans (by simp); have hK1 := hide (((Kept.refl rb w).alloc _).trans hk1); clear hk1)
    go_region_with (first | (go_at_call 197; refine (twoSided_any _ _).mono ?_; rintro e w' ⟨rfl, rfl⟩) | (go_at_call 241; refine (unhide HF _ (stepSt s st) ((unhide H).stepped (unhide hK1) (unhide hr1)) hop).mono ?_; rintro e w2 ⟨hk2, h2⟩; rw [unhide HRES] at h2; subst h2; refine gone (w := w2) ⟨rfl, (unhide hK1).trans ((Kept.refl rb w1).drew.trans hk2), rfl⟩ ?_))
    all_goals trivial

end Go.Proofs.YtfkcaldjphakpaaGreatDoor
