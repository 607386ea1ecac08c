/- What append leaves of the reader's things; terms with texts. isNull. escape. -/
import Derived.Test.YtfkcaldjphakpabGreatDoorN05
import Derived.Test.YtfkcaldjphakpabGreatDoorN06
import Derived.Test.YtfkcaldjphakpabGreatDoorN11
namespace Go.Proofs.YtfkcaldjphakpabGreatDoor
open Go.RowKit

section
theorem Kept.grown {rb : Nat} {a w w' : World} {row : Option Nat} (h : Kept rb a w) (hg : w.grownBy w' row) (hrow : ∀ k, row = some k → a.heap.size ≤ k) : Kept rb a w' :=
  ⟨hg.os.trans h.os, hg.tape.trans h.tape, hg.output.trans h.output, Nat.le_trans h.size hg.size, fun k hk hn => (hg.block k (Nat.lt_of_lt_of_le hk h.size) (fun e => by have := hrow k e.symm; omega)).trans (h.block k hk hn)⟩

theorem RdAt.same {w w' : World} {rb : Nat} {s : ByteArray} {st : St} (h : RdAt w rb s st) (hb : w'.heap[rb]? = w.heap[rb]?) : RdAt w' rb s st := by
  have hc : ∀ j, w'.cell? ⟨rb, j, none⟩ = w.cell? ⟨rb, j, none⟩ := fun j => World.cell?_of_block (w := w) (w' := w') (a := ⟨rb, j, none⟩) hb
  have hf : ∀ j, w'.frozen? ⟨rb, j, none⟩ = w.frozen? ⟨rb, j, none⟩ := fun j => World.frozen?_of_block (w := w) (w' := w') (a := ⟨rb, j, none⟩) hb
  exact ⟨(hc 0).trans h.c0, (hc 1).trans h.c1, (hc 2).trans h.c2, (hc 3).trans h.c3, (hc 4).trans h.c4, (hc 5).trans h.c5, (hc 6).trans h.c6, fun j => (hf j).trans (h.fz j)⟩

theorem RdAt.grown {w w' : World} {rb : Nat} {s : ByteArray} {st : St} {row : Option Nat} (h : RdAt w rb s st) (hg : w.grownBy w' row) (hlt : rb < w.heap.size) (hrow : ∀ k, row = some k → rb < k) : RdAt w' rb s st :=
  h.same (hg.block rb hlt (fun e => by have := hrow rb e.symm; omega))

theorem ownsRow_keptR {rb base e size n : Nat} {w w' : World} {v : Value} {xs : List Value} (h : w.ownsRow base e size v n xs) (hk : Kept rb w w') (hb : rb < base) : w'.ownsRow base e size v n xs := by
  refine ⟨h.1, ?_⟩
  rcases h.2 with hn | ⟨g, cap, cur, rfl, hbg, hgg, rest⟩
  · exact .inl hn
  · refine .inr ⟨g, cap, cur, rfl, hbg, ?_, rest⟩
    rw [hk.block g (Array.getElem?_eq_some_iff.1 hgg).1 (by omega)]
    exact hgg

def textCells (ts : List (List UInt8)) : List Value := ts.map fun t => .string (BS t)

theorem TextsAt.of_row {rb base e : Nat} {w : World} {v : Value} {ts : List (List UInt8)} (h : w.ownsRow base e 1 v ts.length (textCells ts)) (hb : rb < base) : TextsAt rb w v ts := by
  have h0 := h
  rcases h.2 with ⟨hv, hn⟩ | ⟨g, cap, cur, rfl, hbg, hgg, _⟩
  · exact .inl ⟨List.eq_nil_of_length_eq_zero hn, hv⟩
  · refine .inr ⟨g, cap, rfl, by omega, (Array.getElem?_eq_some_iff.1 hgg).1, fun j t ht => ?_⟩
    have := h0.cells (g := g) rfl j (.string (BS t)) (by simp [textCells, ht])
    have hadd : (⟨g, 0, none⟩ : Addr).add j = ⟨g, j, none⟩ := by unfold Addr.add; split <;> simp_all
    rwa [hadd] at this

/-- A new term of one side, with texts. -/
theorem IsNode.texted {rb : Nat} {w : World} {l : Ast} {lv tv : Value} {ts : List (List UInt8)} (hl : IsNode rb w lv l) (hlt : rb < w.heap.size) (ht : TextsAt rb w tv ts) (op place : Int) (str esc : List UInt8) :
    IsNode rb ((w.alloc (.cells #[lv] 74)).alloc (.cells #[.int .i64 op, .int .i64 place, .slice (some ⟨w.heap.size, 0, none⟩) 1 1, .int .i64 0, .string (BS str), .string (BS esc), tv] 138))
      (.pointer (some ⟨w.heap.size + 1, 0, none⟩)) (.un ⟨op, place, 0, str, esc, ts⟩ l) := by
  have hk : Kept rb w ((w.alloc (.cells #[lv] 74)).alloc (.cells #[.int .i64 op, .int .i64 place, .slice (some ⟨w.heap.size, 0, none⟩) 1 1, .int .i64 0, .string (BS str), .string (BS esc), tv] 138)) := ((Kept.refl rb w).alloc _).alloc _
  refine ⟨w.heap.size + 1, w.heap.size, lv, rfl, ⟨by omega, by simp, by simp, by simp, by simp, by simp, by simp, by simp, tv, by simp, ht.kept hk⟩, hlt, by simp; omega, ?_, hl.kept hk⟩
  rw [World.cell?_alloc_past _ _ _ (by simp), World.cell?_alloc_at _ _ _ _ rfl]; rfl

theorem Fine.lt {s : ByteArray} {st : St} (h : Fine s st) (hk : st.tk.kind ≠ 0) : st.place < (stepSt s st).place := Nat.lt_of_lt_of_le (h.long hk) (stepSt_place s st)

theorem field_str (k p n : Int) (b : ByteArray) (w : World) : (Instr.field 127 (.agg #[.int .i64 k, .int .i64 p, .int .i64 n, .string b]) 3).run Tryz.prog w = .ok (.string b) w := by kernel_rfl

/-- What IN reads on behind its first text. -/
def inLoop (s : ByteArray) (l : Ast) (pl : Nat) : Nat → List (List UInt8) → St → Res
  | 0, _, _ => .err 0 0
  | n + 1, ts, st => if st.tk.kind = 28 then (if (stepSt s st).tk.kind = 4 then inLoop s l pl n (ts ++ [(stepSt s st).tk.str]) (stepSt s (stepSt s st)) else .err 2 (stepSt s st).place)
      else if st.tk.kind = 27 then .ok (.un ⟨21, pl, 0, [], [], ts⟩ l) (stepSt s st) else .err 2 st.place

def inRes (s : ByteArray) (l : Ast) (st : St) : Res :=
  if (stepSt s st).tk.kind = 26 then (if (stepSt s (stepSt s st)).tk.kind = 4 then inLoop s l st.place (s.size + 1) [(stepSt s (stepSt s st)).tk.str] (stepSt s (stepSt s (stepSt s st))) else .err 2 (stepSt s (stepSt s st)).place)
  else .err 2 (stepSt s st).place

theorem inLoop_more {s : ByteArray} {l : Ast} {pl n : Nat} {ts : List (List UInt8)} {st : St} (h : st.tk.kind = 28) (h4 : (stepSt s st).tk.kind = 4) : inLoop s l pl (n + 1) ts st = inLoop s l pl n (ts ++ [(stepSt s st).tk.str]) (stepSt s (stepSt s st)) := by rw [inLoop, if_pos h, if_pos h4]
theorem inLoop_bad {s : ByteArray} {l : Ast} {pl n : Nat} {ts : List (List UInt8)} {st : St} (h : st.tk.kind = 28) (h4 : ¬ (stepSt s st).tk.kind = 4) : inLoop s l pl (n + 1) ts st = .err 2 (stepSt s st).place := by rw [inLoop, if_pos h, if_neg h4]
theorem inLoop_end {s : ByteArray} {l : Ast} {pl n : Nat} {ts : List (List UInt8)} {st : St} (h : ¬ st.tk.kind = 28) (h4 : st.tk.kind = 27) : inLoop s l pl (n + 1) ts st = .ok (.un ⟨21, pl, 0, [], [], ts⟩ l) (stepSt s st) := by rw [inLoop, if_neg h, if_pos h4]
theorem inLoop_open {s : ByteArray} {l : Ast} {pl n : Nat} {ts : List (List UInt8)} {st : St} (h : ¬ st.tk.kind = 28) (h4 : ¬ st.tk.kind = 27) : inLoop s l pl (n + 1) ts st = .err 2 st.place := by rw [inLoop, if_neg h, if_neg h4]

theorem textRow (w : World) (base : Nat) (hb : base ≤ w.heap.size) (t : List UInt8) : (w.alloc (.cells #[.string (BS t)] 9)).ownsRow base 9 1 (.slice (some ⟨w.heap.size, 0, none⟩) 1 1) [t].length (textCells [t]) :=
  ⟨rfl, .inr ⟨w.heap.size, 1, #[.string (BS t)], rfl, hb, heap_alloc_new w _, Nat.le_refl _, by decide, rfl, rfl⟩⟩
end

section
def nullOf (st : St) (l : Ast) : Ast := .un ⟨23, st.place, 0, [], [], []⟩ l
def isNullRes (s : ByteArray) (l : Ast) (st : St) : Res :=
  if (stepSt s st).tk.kind = 7 then (if (stepSt s (stepSt s st)).tk.kind = 15 then .ok (.un ⟨5, st.place, 0, [], [], []⟩ (nullOf st l)) (stepSt s (stepSt s (stepSt s st))) else .err 2 (stepSt s (stepSt s st)).place)
  else if (stepSt s st).tk.kind = 15 then .ok (nullOf st l) (stepSt s (stepSt s st)) else .err 2 (stepSt s st).place

set_option maxHeartbeats 1000000 in
theorem isNull_any (rb : Nat) (s : ByteArray) (op : Nat) (l : Ast) (lv : Value) (w : World) (st : St) (h : Ready rb s w st) (ho : st.op = op) (hl : IsNode rb w lv l) (h14 : st.tk.kind = 14) :
    Calls Tryz.prog 215 #[.pointer (some ⟨rb, 0, none⟩), lv] w (Gives rb s w op st.place (isNullRes s l st)) := by
  have H := hide h
  have hlt := h.lt
  have hle1 := h.fine.le (by rw [h14]; decide)
  have hf1 := h.fine.next
  have H14 := hide h14
  obtain ⟨lb, rfl⟩ := hl.ptr
  have HL := hide hl
  have R1 : Hid (∀ w1, Kept rb w w1 → RdAt w1 rb s (stepSt s st) → Ready rb s w1 (stepSt s st)) := hide fun w1 hk hr => h.kept hk hr hf1
  have R2 : Hid (∀ w1, Kept rb w w1 → RdAt w1 rb s (stepSt s (stepSt s st)) → Ready rb s w1 (stepSt s (stepSt s st))) := hide fun w1 hk hr => h.kept hk hr hf1.next
  clear h hl h14
  by_cases h7 : (stepSt s st).tk.kind = 7
  · have hle2 := hf1.le (by rw [h7]; decide)
    by_cases h15 : (stepSt s (stepSt s st)).tk.kind = 15
    · have hle3 := hf1.next.le (by rw [h15]; decide)
      rw [isNullRes, if_pos h7, if_pos h15]
      have H7 := hide h7
      have H15 := hide h15
      have HFN := hide hf1.next.next
      clear h7 h15 hf1
      go_enter Tryz.func215, Tryz.ntmps215
      go_wp2_with (first | (go_at_call_of 57 (Value.int IntKind.i64 14); refine (take_ok rb s st 14 _ (unhide H).size (unhide H).fine.after (unhide H).at' hlt (unhide H).err (unhide H14)).mono ?_; rintro e w1 ⟨rfl, hr1, hk1⟩; have hz1 := hk1.size; have n1 : ¬ w1.heap.size = rb := (by omega); have hR1 := hide ((unhide R1 _ hk1 hr1).allocd (.cells #[.int .i64 st.tk.kind, .int .i64 st.place, .int .i64 st.tk.num, .string (BS st.tk.str)] 127)); have hK1 := hide hk1; clear hr1 hk1; simp only [tkV]) | (go_at_call 253; refine (skip_yes rb s (stepSt s st) 7 _ (unhide hR1).size (unhide hR1).fine.after (unhide hR1).at' (unhide hR1).lt (unhide hR1).err (unhide H7)).mono ?_; rintro e w2 ⟨rfl, hr2, hk2⟩; have hz2 : w1.heap.size < w2.heap.size := (by have := hk2.size; simp at this; omega); have q1 : w2.cell? ⟨w1.heap.size, 1, none⟩ = some (.int .i64 st.place) := ((kcell hk2).1 _ 1 (by simp) n1).trans (by simp); have hK2 := hide (((unhide hK1).alloc _).trans hk2); have hR2 := hide (unhide R2 _ (((unhide hK1).alloc _).trans hk2) hr2); clear hr2 hk2) | (go_at_call_of 57 (Value.int IntKind.i64 15); refine (take_ok rb s (stepSt s (stepSt s st)) 15 _ (unhide hR2).size (unhide hR2).fine.after (unhide hR2).at' (unhide hR2).lt (unhide hR2).err (unhide H15)).mono ?_; rintro e w3 ⟨rfl, hr3, hk3⟩; have hz3 : w1.heap.size < w3.heap.size := (by have := hk3.size; omega); have q3 : w3.cell? ⟨w1.heap.size, 1, none⟩ = some (.int .i64 st.place) := ((kcell hk3).1 _ 1 hz2 n1).trans q1; have hr3 := hide hr3; have hK3 := hide ((unhide hK2).trans hk3); clear hk3; simp only [tkV]) | (go_at_call 185; refine (denial_any rb (nullOf st l) _ _ _ (IsNode.one ((unhide HL).kept (unhide hK3)) (by omega) 23 st.place) (by simp; omega)).mono ?_; rintro e w4 ⟨⟨v4, rfl, hn4⟩, hb4⟩; have hn4 := hide hn4; have hb4 := hide hb4))
      go_ret
      refine ⟨(((unhide hK3).alloc _).alloc _).trans (Kept.of_below (unhide hb4)), _, rfl, unhide hn4, ?_, unhide HFN, ho, by omega⟩
      exact (((unhide hr3).allocd _ (by omega)).allocd _ (by simp; omega)).below (unhide hb4) (by simp; omega)
    · rw [isNullRes, if_pos h7, if_neg h15]
      have H7 := hide h7
      have H15 := hide h15
      clear h7 h15 hf1
      go_enter Tryz.func215, Tryz.ntmps215
      go_wp2_with (first | (go_at_call_of 57 (Value.int IntKind.i64 14); refine (take_ok rb s st 14 _ (unhide H).size (unhide H).fine.after (unhide H).at' hlt (unhide H).err (unhide H14)).mono ?_; rintro e w1 ⟨rfl, hr1, hk1⟩; have hz1 := hk1.size; have n1 : ¬ w1.heap.size = rb := (by omega); have hR1 := hide ((unhide R1 _ hk1 hr1).allocd (.cells #[.int .i64 st.tk.kind, .int .i64 st.place, .int .i64 st.tk.num, .string (BS st.tk.str)] 127)); have hK1 := hide hk1; clear hr1 hk1; simp only [tkV]) | (go_at_call 253; refine (skip_yes rb s (stepSt s st) 7 _ (unhide hR1).size (unhide hR1).fine.after (unhide hR1).at' (unhide hR1).lt (unhide hR1).err (unhide H7)).mono ?_; rintro e w2 ⟨rfl, hr2, hk2⟩; have hz2 : w1.heap.size < w2.heap.size := (by have := hk2.size; simp at this; omega); have q1 : w2.cell? ⟨w1.heap.size, 1, none⟩ = some (.int .i64 st.place) := ((kcell hk2).1 _ 1 (by simp) n1).trans (by simp); have hK2 := hide (((unhide hK1).alloc _).trans hk2); have hR2 := hide (unhide R2 _ (((unhide hK1).alloc _).trans hk2) hr2); clear hr2 hk2) | (go_at_call_of 57 (Value.int IntKind.i64 15); refine (take_no rb s (stepSt s (stepSt s st)) 15 _ (unhide hR2).at' (unhide hR2).lt (unhide H15)).mono ?_; rintro e w3 ⟨rfl, hk3⟩; simp only [gaveUp]))
      exact ⟨rfl, (unhide hK2).trans hk3, rfl⟩
  · by_cases h15 : (stepSt s st).tk.kind = 15
    · have hle3 := hf1.le (by rw [h15]; decide)
      rw [isNullRes, if_neg h7, if_pos h15]
      have H7 := hide h7
      have H15 := hide h15
      have HFN := hide hf1.next
      clear h7 h15 hf1
      go_enter Tryz.func215, Tryz.ntmps215
      go_wp2_with (first | (go_at_call_of 57 (Value.int IntKind.i64 14); refine (take_ok rb s st 14 _ (unhide H).size (unhide H).fine.after (unhide H).at' hlt (unhide H).err (unhide H14)).mono ?_; rintro e w1 ⟨rfl, hr1, hk1⟩; have hz1 := hk1.size; have n1 : ¬ w1.heap.size = rb := (by omega); have hR1 := hide ((unhide R1 _ hk1 hr1).allocd (.cells #[.int .i64 st.tk.kind, .int .i64 st.place, .int .i64 st.tk.num, .string (BS st.tk.str)] 127)); have hK1 := hide hk1; clear hr1 hk1; simp only [tkV]) | (go_at_call 253; refine (skip_no rb s (stepSt s st) 7 _ (unhide hR1).at' (unhide H7)).mono ?_; rintro e w2 ⟨rfl, rfl⟩) | (go_at_call_of 57 (Value.int IntKind.i64 15); refine (take_ok rb s (stepSt s st) 15 _ (unhide hR1).size (unhide hR1).fine.after (unhide hR1).at' (unhide hR1).lt (unhide hR1).err (unhide H15)).mono ?_; rintro e w3 ⟨rfl, hr3, hk3⟩; have hz3 : w1.heap.size < w3.heap.size := (by have := hk3.size; simp at this; omega); have q3 : w3.cell? ⟨w1.heap.size, 1, none⟩ = some (.int .i64 st.place) := ((kcell hk3).1 _ 1 (by simp) n1).trans (by simp); have hr3 := hide hr3; have hK3 := hide (((unhide hK1).alloc _).trans hk3); clear hk3; simp only [tkV]))
      go_ret
      refine ⟨((unhide hK3).alloc _).alloc _, _, rfl, IsNode.one ((unhide HL).kept (unhide hK3)) (by omega) 23 st.place, ((unhide hr3).allocd _ (by omega)).allocd _ (by simp; omega), unhide HFN, ho, by omega⟩
    · rw [isNullRes, if_neg h7, if_neg h15]
      have H7 := hide h7
      have H15 := hide h15
      clear h7 h15 hf1
      go_enter Tryz.func215, Tryz.ntmps215
      go_wp2_with (first | (go_at_call_of 57 (Value.int IntKind.i64 14); refine (take_ok rb s st 14 _ (unhide H).size (unhide H).fine.after (unhide H).at' hlt (unhide H).err (unhide H14)).mono ?_; rintro e w1 ⟨rfl, hr1, hk1⟩; have hz1 := hk1.size; have n1 : ¬ w1.heap.size = rb := (by omega); have hR1 := hide ((unhide R1 _ hk1 hr1).allocd (.cells #[.int .i64 st.tk.kind, .int .i64 st.place, .int .i64 st.tk.num, .string (BS st.tk.str)] 127)); have hK1 := hide hk1; clear hr1 hk1; simp only [tkV]) | (go_at_call 253; refine (skip_no rb s (stepSt s st) 7 _ (unhide hR1).at' (unhide H7)).mono ?_; rintro e w2 ⟨rfl, rfl⟩) | (go_at_call_of 57 (Value.int IntKind.i64 15); refine (take_no rb s (stepSt s st) 15 _ (unhide hR1).at' (unhide hR1).lt (unhide H15)).mono ?_; rintro e w3 ⟨rfl, hk3⟩; simp only [gaveUp]))
      exact ⟨rfl, ((unhide hK1).alloc _).trans hk3, rfl⟩
end

section
theorem quotF_len : (l : List UInt8) → ∀ r, quotF l = some r → r.1.length ≤ l.length
  | [], r, h => by simp [quotF] at h
  | [c], r, h => by
    simp only [quotF] at h; split at h
    · injection h with h; subst h; simp
    · cases h
  | c :: d :: t, r, h => by
    simp only [quotF] at h
    split at h
    · split at h
      · cases hq : quotF t with
        | none => rw [hq] at h; cases h
        | some q => rw [hq] at h; injection h with h; subst h; have := quotF_len t q hq; simp; omega
      · injection h with h; subst h; simp
    · cases hq : quotF (d :: t) with
      | none => rw [hq] at h; cases h
      | some q => rw [hq] at h; injection h with h; subst h; have := quotF_len (d :: t) q hq; simp at *; omega

theorem firstTk_len (l : List UInt8) : (firstTk l).str.length ≤ l.length := by
  unfold firstTk
  split
  · simp [plainTk]
  · rename_i c t
    split
    · unfold wordTk; split
      · simp only [List.length_take]; omega
      · simp [plainTk]
    split
    · unfold numTk; split <;> simp [plainTk]
    split
    · unfold quotTk; split
      · rename_i r hr
        have := quotF_len _ _ hr
        rw [List.length_drop] at this
        show r.1.length ≤ _
        omega
      · simp [plainTk]
    · simp [plainTk]

theorem stepSt_len (s : ByteArray) (st : St) : (stepSt s st).tk.str.length ≤ s.size := by
  show (nextTk s.data.toList st.after).str.length ≤ s.size
  unfold nextTk
  split
  · have := firstTk_len (s.data.toList.drop (nextAt s.data.toList st.after))
    rw [List.length_drop, data_len] at this
    omega
  · simp [plainTk]

/-- What comes of reading what stands behind ESCAPE: ft is the pattern's token, fp its place. -/
inductive ERes where
  | ok (str : List UInt8) (st : St)
  | err (pl : Int)

def escRes (s : ByteArray) (ft : Tk) (fp : Nat) (st : St) : ERes :=
  if st.tk.kind = 4 then (if st.tk.str.length = 1 then (if (cutL st.tk.str ft.str).isSome = true then .ok st.tk.str (stepSt s st) else .err fp) else .err st.place) else .err st.place

def EscEnds (rb : Nat) (s : ByteArray) (w : World) (r : ERes) (e : Ending) (w' : World) : Prop :=
  Kept rb w w' ∧ match r with
  | .ok str st => e = .returned (.string (BS str)) ∧ RdAt w' rb s st
  | .err pl => e = gaveUp 2 pl

set_option maxHeartbeats 1000000 in
set_option maxRecDepth 100000 in
theorem escape_any (rb : Nat) (s : ByteArray) (ft : Tk) (fp : Nat) (hft : ft.str.length ≤ 200) (w : World) (st : St) (h : Ready rb s w st) :
    Calls Tryz.prog 292 #[.pointer (some ⟨rb, 0, none⟩), tkV ft fp] w (EscEnds rb s w (escRes s ft fp st)) := by
  have H := hide h
  have HA := hide (h.allocd (.cells #[.int .i64 ft.kind, .int .i64 fp, .int .i64 ft.num, .string (BS ft.str)] 127))
  have hlt := h.lt
  have n0 : ¬ w.heap.size = rb := by omega
  have hz := BS_size st.tk.str
  have hpz : (BS ft.str).size ≤ 200 := by rw [BS_size]; exact hft
  clear h
  simp only [tkV]
  by_cases h4 : st.tk.kind = 4
  · rw [escRes, if_pos h4]
    have H4 := hide h4
    clear h4
    by_cases h1 : st.tk.str.length = 1
    · rw [if_pos h1]
      have hz1 : (BS st.tk.str).size = 1 := by omega
      have hzb : (((BS st.tk.str).size : Int) != 1) = false := by rw [hz1]; rfl
      clear hz h1 hz1
      have VAL := hide (fun w => valid_any (BS ft.str) (BS st.tk.str) hpz w)
      cases hv : (cutL st.tk.str ft.str).isSome with
      | true =>
        have HV : Hid ((cutL (BS st.tk.str).data.toList (BS ft.str).data.toList).isSome = true) := hide (by rw [BS_data, BS_data]; exact hv)
        rw [if_pos rfl]
        clear hv
        go_enter Tryz.func292, Tryz.ntmps292
        go_wp2_with (first | (go_at_call 57; refine (take_ok rb s st 4 _ (unhide H).size (unhide H).fine.after (unhide HA).at' (unhide HA).lt (unhide HA).err (unhide H4)).mono ?_; rintro e w1 ⟨rfl, hr1, hk1⟩; have hz1 : w.heap.size < w1.heap.size := (by have := hk1.size; simp at this; omega); have n1 : ¬ w1.heap.size = rb := (by omega); have p1 : w1.cell? ⟨w.heap.size, 1, none⟩ = some (.int .i64 fp) := ((kcell hk1).1 _ 1 (by simp) n0).trans (by simp); have p3 : w1.cell? ⟨w.heap.size, 3, none⟩ = some (.string (BS ft.str)) := ((kcell hk1).1 _ 3 (by simp) n0).trans (by simp); have hK1 := hide ((((Kept.refl rb w).alloc (.cells #[.int .i64 ft.kind, .int .i64 fp, .int .i64 ft.num, .string (BS ft.str)] 127)).trans hk1).alloc (.cells #[.int .i64 st.tk.kind, .int .i64 st.place, .int .i64 st.tk.num, .string (BS st.tk.str)] 127)); have hR1 := hide (hr1.allocd (.cells #[.int .i64 st.tk.kind, .int .i64 st.place, .int .i64 st.tk.num, .string (BS st.tk.str)] 127) (by omega)); clear hr1 hk1; simp only [tkV]) | (go_at_call 318; go_loud (refine (unhide VAL _).mono ?_; rintro e w2 ⟨rfl, hb2⟩; rw [unhide HV]; obtain ⟨hc, hf⟩ := bcell hb2; have z2 := hb2.size; have q1 : w2.cell? ⟨w.heap.size, 1, none⟩ = some (.int .i64 fp) := (hc _ 1 (by simp; omega)).trans (by rw [World.cell?_alloc_past _ _ _ (by first | omega | (simp; omega))]; exact p1); have q3 : w2.cell? ⟨w1.heap.size, 3, none⟩ = some (.string (BS st.tk.str)) := (hc _ 3 (by simp)).trans (by simp); have hb2 := hide hb2; clear hc hf)))
        go_ret
        exact ⟨(unhide hK1).trans (Kept.of_below (unhide hb2)), rfl, (unhide hR1).below (unhide hb2) (by simp; omega)⟩
      | false =>
        have HV : Hid ((cutL (BS st.tk.str).data.toList (BS ft.str).data.toList).isSome = false) := hide (by rw [BS_data, BS_data]; exact hv)
        rw [if_neg (by simp)]
        clear hv
        go_enter Tryz.func292, Tryz.ntmps292
        go_wp2_with (first | (go_at_call 57; refine (take_ok rb s st 4 _ (unhide H).size (unhide H).fine.after (unhide HA).at' (unhide HA).lt (unhide HA).err (unhide H4)).mono ?_; rintro e w1 ⟨rfl, hr1, hk1⟩; have hz1 : w.heap.size < w1.heap.size := (by have := hk1.size; simp at this; omega); have n1 : ¬ w1.heap.size = rb := (by omega); have p1 : w1.cell? ⟨w.heap.size, 1, none⟩ = some (.int .i64 fp) := ((kcell hk1).1 _ 1 (by simp) n0).trans (by simp); have p3 : w1.cell? ⟨w.heap.size, 3, none⟩ = some (.string (BS ft.str)) := ((kcell hk1).1 _ 3 (by simp) n0).trans (by simp); have hK1 := hide ((((Kept.refl rb w).alloc (.cells #[.int .i64 ft.kind, .int .i64 fp, .int .i64 ft.num, .string (BS ft.str)] 127)).trans hk1).alloc (.cells #[.int .i64 st.tk.kind, .int .i64 st.place, .int .i64 st.tk.num, .string (BS st.tk.str)] 127)); have hR1 := hide (hr1.allocd (.cells #[.int .i64 st.tk.kind, .int .i64 st.place, .int .i64 st.tk.num, .string (BS st.tk.str)] 127) (by omega)); clear hr1 hk1; simp only [tkV]) | (go_at_call 318; go_loud (refine (unhide VAL _).mono ?_; rintro e w2 ⟨rfl, hb2⟩; rw [unhide HV]; obtain ⟨hc, hf⟩ := bcell hb2; have z2 := hb2.size; have q1 : w2.cell? ⟨w.heap.size, 1, none⟩ = some (.int .i64 fp) := (hc _ 1 (by simp; omega)).trans (by rw [World.cell?_alloc_past _ _ _ (by first | omega | (simp; omega))]; exact p1); have q3 : w2.cell? ⟨w1.heap.size, 3, none⟩ = some (.string (BS st.tk.str)) := (hc _ 3 (by simp)).trans (by simp); have hb2 := hide hb2; clear hc hf)) | (go_at_call 87; refine (refuse_any _ _ _).mono ?_; rintro e w2 ⟨rfl, rfl⟩; simp only [gaveUp]))
        exact ⟨rfl, (unhide hK1).trans (Kept.of_below (unhide hb2)), rfl⟩
    · rw [if_neg h1]
      have hzb : (((BS st.tk.str).size : Int) != 1) = true := bne_iff_ne.2 (by rw [hz]; omega)
      clear hz h1
      go_enter Tryz.func292, Tryz.ntmps292
      go_wp2_with (first | (go_at_call 57; refine (take_ok rb s st 4 _ (unhide H).size (unhide H).fine.after (unhide HA).at' (unhide HA).lt (unhide HA).err (unhide H4)).mono ?_; rintro e w1 ⟨rfl, hr1, hk1⟩; have hz1 : w.heap.size < w1.heap.size := (by have := hk1.size; simp at this; omega); have n1 : ¬ w1.heap.size = rb := (by omega); have p1 : w1.cell? ⟨w.heap.size, 1, none⟩ = some (.int .i64 fp) := ((kcell hk1).1 _ 1 (by simp) n0).trans (by simp); have p3 : w1.cell? ⟨w.heap.size, 3, none⟩ = some (.string (BS ft.str)) := ((kcell hk1).1 _ 3 (by simp) n0).trans (by simp); have hK1 := hide ((((Kept.refl rb w).alloc (.cells #[.int .i64 ft.kind, .int .i64 fp, .int .i64 ft.num, .string (BS ft.str)] 127)).trans hk1).alloc (.cells #[.int .i64 st.tk.kind, .int .i64 st.place, .int .i64 st.tk.num, .string (BS st.tk.str)] 127)); have hR1 := hide (hr1.allocd (.cells #[.int .i64 st.tk.kind, .int .i64 st.place, .int .i64 st.tk.num, .string (BS st.tk.str)] 127) (by omega)); clear hr1 hk1; simp only [tkV]) | (go_at_call 87; refine (refuse_any _ _ _).mono ?_; rintro e w2 ⟨rfl, rfl⟩; simp only [gaveUp]))
      exact ⟨rfl, unhide hK1, rfl⟩
  · rw [escRes, if_neg h4]
    have H4 := hide h4
    clear h4
    go_enter Tryz.func292, Tryz.ntmps292
    go_wp2_with (go_at_call 57; refine (take_no rb s st 4 _ (unhide HA).at' (unhide HA).lt (unhide H4)).mono ?_; rintro e w1 ⟨rfl, hk1⟩; simp only [gaveUp])
    exact ⟨rfl, ((Kept.refl rb w).alloc _).trans hk1, rfl⟩
end

end Go.Proofs.YtfkcaldjphakpabGreatDoor
