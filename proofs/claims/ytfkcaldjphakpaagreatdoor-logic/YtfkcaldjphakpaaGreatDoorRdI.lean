/- test: all kinds of what comes behind the first sum. What append leaves of the reader's things; terms with texts. -/
import Derived.Test.YtfkcaldjphakpaaGreatDoorRdH
import Derived.Test.YtfkcaldjphakpaaGreatDoorRdD
namespace Go.Proofs.YtfkcaldjphakpaaGreatDoor
open Go.RowKit

section
set_option maxHeartbeats 1000000 in
theorem test_reads (rb : Nat) (s : ByteArray) (op : Nat) (f : St → Res) (gI gL : Ast → St → Res) (hf : Reads 241 rb s op f) (hI : Tails 268 rb s op 11 gI) (hL : Tails 269 rb s op 12 gL) :
    Reads 198 rb s op (testRes s f gI gL) := by
  intro w st h ho
  cases hres : f st with
  | err en pl =>
    have hT : testRes s f gI gL st = .err en pl := by unfold testRes; rw [hres]
    rw [hT]
    obtain ⟨c0, c1, c2, c3, c4, c5, c6, fz⟩ := h.at'
    have H := hide h
    have HF := hide hf
    have HRES := hide hres
    clear h hf hI hL hres hT
    cases hb0 : (st.tk.kind == 2)
    all_goals
      go_enter Tryz.func198, Tryz.ntmps198
      go_wp2_with (go_at_call 241; refine (unhide HF _ st (unhide H) ho).mono ?_; rintro e w1 ⟨hk1, h1⟩; rw [unhide HRES] at h1; subst h1; simp only [gaveUp])
      exact ⟨rfl, hk1, rfl⟩
  | ok l st1 =>
    have hT : testRes s f gI gL st = tailRes s f gI gL (bareB st l) l st1 := by unfold testRes; rw [hres]
    rw [hT]
    by_cases h16 : st1.tk.kind = 16
    · exact test_16 rb s op f gI gL hf hI hL w st h ho l st1 hres h16
    by_cases h17 : st1.tk.kind = 17
    · exact test_17 rb s op f gI gL hf hI hL w st h ho l st1 hres h17
    by_cases h18 : st1.tk.kind = 18
    · exact test_18 rb s op f gI gL hf hI hL w st h ho l st1 hres h18
    by_cases h19 : st1.tk.kind = 19
    · exact test_19 rb s op f gI gL hf hI hL w st h ho l st1 hres h19
    by_cases h20 : st1.tk.kind = 20
    · exact test_20 rb s op f gI gL hf hI hL w st h ho l st1 hres h20
    by_cases h21 : st1.tk.kind = 21
    · exact test_21 rb s op f gI gL hf hI hL w st h ho l st1 hres h21
    by_cases h14 : st1.tk.kind = 14
    · exact test_14 rb s op f gI gL hf hI hL w st h ho l st1 hres h14
    by_cases h7 : st1.tk.kind = 7
    · exact test_7 rb s op f gI gL hf hI hL w st h ho l st1 hres h7
    by_cases h10 : st1.tk.kind = 10
    · exact test_10 rb s op f gI gL hf hI hL w st h ho l st1 hres h10
    by_cases h11 : st1.tk.kind = 11
    · exact test_11 rb s op f gI gL hf hI hL w st h ho l st1 hres h11
    by_cases h12 : st1.tk.kind = 12
    · exact test_12 rb s op f gI gL hf hI hL w st h ho l st1 hres h12
    exact test_none rb s op f gI gL hf hI hL w st h ho l st1 hres h16 h17 h18 h19 h20 h21 h14 h7 h10 h11 h12
end

section
theorem Kept.grown {rb : Nat} {a w w' : World} {row : Option Nat} (h : Kept rb a w) (hg : w.grownBy w' row) (hrow : ∀ k, row = some k → a.heap.size ≤ k) : Kept rb a w' :=
  ⟨hg.os.trans h.os, hg.tape.trans h.tape, hg.output.trans h.output, Nat.le_trans h.size hg.size, fun k hk hn => (hg.block k (Nat.lt_of_lt_of_le hk h.size) (fun e => by have := hrow k e.symm; omega)).trans (h.block k hk hn)⟩

theorem RdAt.same {w w' : World} {rb : Nat} {s : ByteArray} {st : St} (h : RdAt w rb s st) (hb : w'.heap[rb]? = w.heap[rb]?) : RdAt w' rb s st := by
  have hc : ∀ j, w'.cell? ⟨rb, j, none⟩ = w.cell? ⟨rb, j, none⟩ := fun j => World.cell?_of_block (w := w) (w' := w') (a := ⟨rb, j, none⟩) hb
  have hf : ∀ j, w'.frozen? ⟨rb, j, none⟩ = w.frozen? ⟨rb, j, none⟩ := fun j => World.frozen?_of_block (w := w) (w' := w') (a := ⟨rb, j, none⟩) hb
  exact ⟨(hc 0).trans h.c0, (hc 1).trans h.c1, (hc 2).trans h.c2, (hc 3).trans h.c3, (hc 4).trans h.c4, (hc 5).trans h.c5, (hc 6).trans h.c6, fun j => (hf j).trans (h.fz j)⟩

theorem RdAt.grown {w w' : World} {rb : Nat} {s : ByteArray} {st : St} {row : Option Nat} (h : RdAt w rb s st) (hg : w.grownBy w' row) (hlt : rb < w.heap.size) (hrow : ∀ k, row = some k → rb < k) : RdAt w' rb s st :=
  h.same (hg.block rb hlt (fun e => by have := hrow rb e.symm; omega))

theorem ownsRow_keptR {rb base e size n : Nat} {w w' : World} {v : Value} {xs : List Value} (h : w.ownsRow base e size v n xs) (hk : Kept rb w w') (hb : rb < base) : w'.ownsRow base e size v n xs := by
  refine ⟨h.1, ?_⟩
  rcases h.2 with hn | ⟨g, cap, cur, rfl, hbg, hgg, rest⟩
  · exact .inl hn
  · refine .inr ⟨g, cap, cur, rfl, hbg, ?_, rest⟩
    rw [hk.block g (Array.getElem?_eq_some_iff.1 hgg).1 (by omega)]
    exact hgg

def textCells (ts : List (List UInt8)) : List Value := ts.map fun t => .string (BS t)

theorem TextsAt.of_row {rb base e : Nat} {w : World} {v : Value} {ts : List (List UInt8)} (h : w.ownsRow base e 1 v ts.length (textCells ts)) (hb : rb < base) : TextsAt rb w v ts := by
  have h0 := h
  rcases h.2 with ⟨hv, hn⟩ | ⟨g, cap, cur, rfl, hbg, hgg, _⟩
  · exact .inl ⟨List.eq_nil_of_length_eq_zero hn, hv⟩
  · refine .inr ⟨g, cap, rfl, by omega, (Array.getElem?_eq_some_iff.1 hgg).1, fun j t ht => ?_⟩
    have := h0.cells (g := g) rfl j (.string (BS t)) (by simp [textCells, ht])
    have hadd : (⟨g, 0, none⟩ : Addr).add j = ⟨g, j, none⟩ := by unfold Addr.add; split <;> simp_all
    rwa [hadd] at this

/-- A new term of one side, with texts. -/
theorem IsNode.texted {rb : Nat} {w : World} {l : Ast} {lv tv : Value} {ts : List (List UInt8)} (hl : IsNode rb w lv l) (hlt : rb < w.heap.size) (ht : TextsAt rb w tv ts) (op place : Int) (str esc : List UInt8) :
    IsNode rb ((w.alloc (.cells #[lv] 67)).alloc (.cells #[.int .i64 op, .int .i64 place, .slice (some ⟨w.heap.size, 0, none⟩) 1 1, .int .i64 0, .string (BS str), .string (BS esc), tv] 102))
      (.pointer (some ⟨w.heap.size + 1, 0, none⟩)) (.un ⟨op, place, 0, str, esc, ts⟩ l) := by
  have hk : Kept rb w ((w.alloc (.cells #[lv] 67)).alloc (.cells #[.int .i64 op, .int .i64 place, .slice (some ⟨w.heap.size, 0, none⟩) 1 1, .int .i64 0, .string (BS str), .string (BS esc), tv] 102)) := ((Kept.refl rb w).alloc _).alloc _
  refine ⟨w.heap.size + 1, w.heap.size, lv, rfl, ⟨by omega, by simp, by simp, by simp, by simp, by simp, by simp, by simp, tv, by simp, ht.kept hk⟩, hlt, by simp; omega, ?_, hl.kept hk⟩
  rw [World.cell?_alloc_past _ _ _ (by simp), World.cell?_alloc_at _ _ _ _ rfl]; rfl

theorem Fine.lt {s : ByteArray} {st : St} (h : Fine s st) (hk : st.tk.kind ≠ 0) : st.place < (stepSt s st).place := Nat.lt_of_lt_of_le (h.long hk) (stepSt_place s st)

theorem field_str (k p n : Int) (b : ByteArray) (w : World) : (Instr.field 91 (.agg #[.int .i64 k, .int .i64 p, .int .i64 n, .string b]) 3).run Tryz.prog w = .ok (.string b) w := by kernel_rfl

/-- What IN reads on behind its first text. -/
def inLoop (s : ByteArray) (l : Ast) (pl : Nat) : Nat → List (List UInt8) → St → Res
  | 0, _, _ => .err 0 0
  | n + 1, ts, st => if st.tk.kind = 28 then (if (stepSt s st).tk.kind = 4 then inLoop s l pl n (ts ++ [(stepSt s st).tk.str]) (stepSt s (stepSt s st)) else .err 2 (stepSt s st).place)
      else if st.tk.kind = 27 then .ok (.un ⟨21, pl, 0, [], [], ts⟩ l) (stepSt s st) else .err 2 st.place

def inRes (s : ByteArray) (l : Ast) (st : St) : Res :=
  if (stepSt s st).tk.kind = 26 then (if (stepSt s (stepSt s st)).tk.kind = 4 then inLoop s l st.place (s.size + 1) [(stepSt s (stepSt s st)).tk.str] (stepSt s (stepSt s (stepSt s st))) else .err 2 (stepSt s (stepSt s st)).place)
  else .err 2 (stepSt s st).place

theorem inLoop_more {s : ByteArray} {l : Ast} {pl n : Nat} {ts : List (List UInt8)} {st : St} (h : st.tk.kind = 28) (h4 : (stepSt s st).tk.kind = 4) : inLoop s l pl (n + 1) ts st = inLoop s l pl n (ts ++ [(stepSt s st).tk.str]) (stepSt s (stepSt s st)) := by rw [inLoop, if_pos h, if_pos h4]
theorem inLoop_bad {s : ByteArray} {l : Ast} {pl n : Nat} {ts : List (List UInt8)} {st : St} (h : st.tk.kind = 28) (h4 : ¬ (stepSt s st).tk.kind = 4) : inLoop s l pl (n + 1) ts st = .err 2 (stepSt s st).place := by rw [inLoop, if_pos h, if_neg h4]
theorem inLoop_end {s : ByteArray} {l : Ast} {pl n : Nat} {ts : List (List UInt8)} {st : St} (h : ¬ st.tk.kind = 28) (h4 : st.tk.kind = 27) : inLoop s l pl (n + 1) ts st = .ok (.un ⟨21, pl, 0, [], [], ts⟩ l) (stepSt s st) := by rw [inLoop, if_neg h, if_pos h4]
theorem inLoop_open {s : ByteArray} {l : Ast} {pl n : Nat} {ts : List (List UInt8)} {st : St} (h : ¬ st.tk.kind = 28) (h4 : ¬ st.tk.kind = 27) : inLoop s l pl (n + 1) ts st = .err 2 st.place := by rw [inLoop, if_neg h, if_neg h4]

theorem textRow (w : World) (base : Nat) (hb : base ≤ w.heap.size) (t : List UInt8) : (w.alloc (.cells #[.string (BS t)] 9)).ownsRow base 9 1 (.slice (some ⟨w.heap.size, 0, none⟩) 1 1) [t].length (textCells [t]) :=
  ⟨rfl, .inr ⟨w.heap.size, 1, #[.string (BS t)], rfl, hb, heap_alloc_new w _, Nat.le_refl _, by decide, rfl, rfl⟩⟩
end

end Go.Proofs.YtfkcaldjphakpaaGreatDoor
