/- What append leaves of the reader's things; terms with texts. in. test: all kinds of what comes behind the first sum. -/
import Derived.Test.YtfkcaldjphakpaaGreatDoorRdD
import Derived.Test.YtfkcaldjphakpaaGreatDoorRdG
import Derived.Test.YtfkcaldjphakpaaGreatDoorRdH
namespace Go.Proofs.YtfkcaldjphakpaaGreatDoor
open Go.RowKit

section
theorem Kept.grown {rb : Nat} {a w w' : World} {row : Option Nat} (h : Kept rb a w) (hg : w.grownBy w' row) (hrow : ∀ k, row = some k → a.heap.size ≤ k) : Kept rb a w' :=
  ⟨hg.os.trans h.os, hg.tape.trans h.tape, hg.output.trans h.output, Nat.le_trans h.size hg.size, fun k hk hn => (hg.block k (Nat.lt_of_lt_of_le hk h.size) (fun e => by have := hrow k e.symm; omega)).trans (h.block k hk hn)⟩

theorem RdAt.same {w w' : World} {rb : Nat} {s : ByteArray} {st : St} (h : RdAt w rb s st) (hb : w'.heap[rb]? = w.heap[rb]?) : RdAt w' rb s st := by
  have hc : ∀ j, w'.cell? ⟨rb, j, none⟩ = w.cell? ⟨rb, j, none⟩ := fun j => World.cell?_of_block (w := w) (w' := w') (a := ⟨rb, j, none⟩) hb
  have hf : ∀ j, w'.frozen? ⟨rb, j, none⟩ = w.frozen? ⟨rb, j, none⟩ := fun j => World.frozen?_of_block (w := w) (w' := w') (a := ⟨rb, j, none⟩) hb
  exact ⟨(hc 0).trans h.c0, (hc 1).trans h.c1, (hc 2).trans h.c2, (hc 3).trans h.c3, (hc 4).trans h.c4, (hc 5).trans h.c5, (hc 6).trans h.c6, fun j => (hf j).trans (h.fz j)⟩

theorem RdAt.grown {w w' : World} {rb : Nat} {s : ByteArray} {st : St} {row : Option Nat} (h : RdAt w rb s st) (hg : w.grownBy w' row) (hlt : rb < w.heap.size) (hrow : ∀ k, row = some k → rb < k) : RdAt w' rb s st :=
  h.same (hg.block rb hlt (fun e => by have := hrow rb e.symm; omega))

theorem ownsRow_keptR {rb base e size n : Nat} {w w' : World} {v : Value} {xs : List Value} (h : w.ownsRow base e size v n xs) (hk : Kept rb w w') (hb : rb < base) : w'.ownsRow base e size v n xs := by
  refine ⟨h.1, ?_⟩
  rcases h.2 with hn | ⟨g, cap, cur, rfl, hbg, hgg, rest⟩
  · exact .inl hn
  · refine .inr ⟨g, cap, cur, rfl, hbg, ?_, rest⟩
    rw [hk.block g (Array.getElem?_eq_some_iff.1 hgg).1 (by omega)]
    exact hgg

def textCells (ts : List (List UInt8)) : List Value := ts.map fun t => .string (BS t)

theorem TextsAt.of_row {rb base e : Nat} {w : World} {v : Value} {ts : List (List UInt8)} (h : w.ownsRow base e 1 v ts.length (textCells ts)) (hb : rb < base) : TextsAt rb w v ts := by
  have h0 := h
  rcases h.2 with ⟨hv, hn⟩ | ⟨g, cap, cur, rfl, hbg, hgg, _⟩
  · exact .inl ⟨List.eq_nil_of_length_eq_zero hn, hv⟩
  · refine .inr ⟨g, cap, rfl, by omega, (Array.getElem?_eq_some_iff.1 hgg).1, fun j t ht => ?_⟩
    have := h0.cells (g := g) rfl j (.string (BS t)) (by simp [textCells, ht])
    have hadd : (⟨g, 0, none⟩ : Addr).add j = ⟨g, j, none⟩ := by unfold Addr.add; split <;> simp_all
    rwa [hadd] at this

/-- A new term of one side, with texts. -/
theorem IsNode.texted {rb : Nat} {w : World} {l : Ast} {lv tv : Value} {ts : List (List UInt8)} (hl : IsNode rb w lv l) (hlt : rb < w.heap.size) (ht : TextsAt rb w tv ts) (op place : Int) (str esc : List UInt8) :
    IsNode rb ((w.alloc (.cells #[lv] 67)).alloc (.cells #[.int .i64 op, .int .i64 place, .slice (some ⟨w.heap.size, 0, none⟩) 1 1, .int .i64 0, .string (BS str), .string (BS esc), tv] 102))
      (.pointer (some ⟨w.heap.size + 1, 0, none⟩)) (.un ⟨op, place, 0, str, esc, ts⟩ l) := by
  have hk : Kept rb w ((w.alloc (.cells #[lv] 67)).alloc (.cells #[.int .i64 op, .int .i64 place, .slice (some ⟨w.heap.size, 0, none⟩) 1 1, .int .i64 0, .string (BS str), .string (BS esc), tv] 102)) := ((Kept.refl rb w).alloc _).alloc _
  refine ⟨w.heap.size + 1, w.heap.size, lv, rfl, ⟨by omega, by simp, by simp, by simp, by simp, by simp, by simp, by simp, tv, by simp, ht.kept hk⟩, hlt, by simp; omega, ?_, hl.kept hk⟩
  rw [World.cell?_alloc_past _ _ _ (by simp), World.cell?_alloc_at _ _ _ _ rfl]; rfl

theorem Fine.lt {s : ByteArray} {st : St} (h : Fine s st) (hk : st.tk.kind ≠ 0) : st.place < (stepSt s st).place := Nat.lt_of_lt_of_le (h.long hk) (stepSt_place s st)

theorem field_str (k p n : Int) (b : ByteArray) (w : World) : (Instr.field 91 (.agg #[.int .i64 k, .int .i64 p, .int .i64 n, .string b]) 3).run Tryz.prog w = .ok (.string b) w := by kernel_rfl

/-- What IN reads on behind its first text. -/
def inLoop (s : ByteArray) (l : Ast) (pl : Nat) : Nat → List (List UInt8) → St → Res
  | 0, _, _ => .err 0 0
  | n + 1, ts, st => if st.tk.kind = 28 then (if (stepSt s st).tk.kind = 4 then inLoop s l pl n (ts ++ [(stepSt s st).tk.str]) (stepSt s (stepSt s st)) else .err 2 (stepSt s st).place)
      else if st.tk.kind = 27 then .ok (.un ⟨21, pl, 0, [], [], ts⟩ l) (stepSt s st) else .err 2 st.place

def inRes (s : ByteArray) (l : Ast) (st : St) : Res :=
  if (stepSt s st).tk.kind = 26 then (if (stepSt s (stepSt s st)).tk.kind = 4 then inLoop s l st.place (s.size + 1) [(stepSt s (stepSt s st)).tk.str] (stepSt s (stepSt s (stepSt s st))) else .err 2 (stepSt s (stepSt s st)).place)
  else .err 2 (stepSt s st).place

theorem inLoop_more {s : ByteArray} {l : Ast} {pl n : Nat} {ts : List (List UInt8)} {st : St} (h : st.tk.kind = 28) (h4 : (stepSt s st).tk.kind = 4) : inLoop s l pl (n + 1) ts st = inLoop s l pl n (ts ++ [(stepSt s st).tk.str]) (stepSt s (stepSt s st)) := by rw [inLoop, if_pos h, if_pos h4]
theorem inLoop_bad {s : ByteArray} {l : Ast} {pl n : Nat} {ts : List (List UInt8)} {st : St} (h : st.tk.kind = 28) (h4 : ¬ (stepSt s st).tk.kind = 4) : inLoop s l pl (n + 1) ts st = .err 2 (stepSt s st).place := by rw [inLoop, if_pos h, if_neg h4]
theorem inLoop_end {s : ByteArray} {l : Ast} {pl n : Nat} {ts : List (List UInt8)} {st : St} (h : ¬ st.tk.kind = 28) (h4 : st.tk.kind = 27) : inLoop s l pl (n + 1) ts st = .ok (.un ⟨21, pl, 0, [], [], ts⟩ l) (stepSt s st) := by rw [inLoop, if_neg h, if_pos h4]
theorem inLoop_open {s : ByteArray} {l : Ast} {pl n : Nat} {ts : List (List UInt8)} {st : St} (h : ¬ st.tk.kind = 28) (h4 : ¬ st.tk.kind = 27) : inLoop s l pl (n + 1) ts st = .err 2 st.place := by rw [inLoop, if_neg h, if_neg h4]

theorem textRow (w : World) (base : Nat) (hb : base ≤ w.heap.size) (t : List UInt8) : (w.alloc (.cells #[.string (BS t)] 9)).ownsRow base 9 1 (.slice (some ⟨w.heap.size, 0, none⟩) 1 1) [t].length (textCells [t]) :=
  ⟨rfl, .inr ⟨w.heap.size, 1, #[.string (BS t)], rfl, hb, heap_alloc_new w _, Nat.le_refl _, by decide, rfl, rfl⟩⟩
end

section
theorem info_string : (Tryz.prog.info? 9).map (fun i => (i.zero, i.size, i.bytes)) = some (some (.string ⟨#[]⟩), 1, 16) := by kernel_rfl

theorem ownsRow_slice {base e size n : Nat} {w : World} {v : Value} {xs : List Value} (h : w.ownsRow base e size v n xs) : ∃ a m c, v = .slice a m c := by
  rcases h.2 with ⟨rfl, _⟩ | ⟨g, cap, cur, rfl, _⟩
  · exact ⟨_, _, _, rfl⟩
  · exact ⟨_, _, _, rfl⟩

/-- What an append leaves. -/
theorem in_more {rb B : Nat} {s : ByteArray} {w wr w5 w6 : World} {sl2 : St} {v v' : Value} {ts : List (List UInt8)} {t : List UInt8} {o : Obj} {pv : Value}
    (hown' : w6.ownsRow (B + 1) 9 1 v' (ts.length + 1) (textCells ts ++ [.string (BS t)])) (hgrow : (w5.alloc o).grownBy w6 v.ownBlock) (hown : wr.ownsRow (B + 1) 9 1 v ts.length (textCells ts))
    (hr : RdAt w5 rb s sl2) (hlt : rb < w5.heap.size) (hk : Kept rb w wr) (hk5 : Kept rb wr w5) (hcr : wr.cell? ⟨B, 1, none⟩ = some pv) (hBr : B < wr.heap.size) (hbase : rb < B) (hB : w.heap.size ≤ B) :
    w6.ownsRow (B + 1) 9 1 v' (ts ++ [t]).length (textCells (ts ++ [t])) ∧ RdAt w6 rb s sl2 ∧ Kept rb w w6 ∧ w6.cell? ⟨B, 1, none⟩ = some pv ∧ B < w6.heap.size := by
  have hrow : ∀ k, v.ownBlock = some k → B + 1 ≤ k := fun k hk' => (hown.lt k hk').1
  have hz := hk5.size
  have hg := hgrow.size
  simp at hg
  refine ⟨by rw [List.length_append, textCells, List.map_append]; exact hown', (hr.allocd o hlt).grown hgrow (by simp; omega) (fun k hk' => by have := hrow k hk'; omega), ((hk.trans hk5).alloc o).grown hgrow (fun k hk' => by have := hrow k hk'; omega), ?_, by omega⟩
  refine hgrow.cell ?_ (fun e => by have := hrow B e.symm; omega)
  rw [World.cell?_alloc_past _ _ _ (by omega)]
  exact ((kcell hk5).1 B 1 hBr (by omega)).trans hcr

set_option maxHeartbeats 1000000 in
set_option maxRecDepth 100000 in
theorem in_reads (rb : Nat) (s : ByteArray) (op : Nat) (hs : s.size ≤ 200) : Tails 268 rb s op 11 (inRes s) := by
  intro w st l lv h ho hl h11
  have H := hide h
  have hlt := h.lt
  have hle1 := h.fine.lt (by rw [h11]; decide)
  have hf1 := h.fine.next
  have H11 := hide h11
  obtain ⟨lb, rfl⟩ := hl.ptr
  have HL := hide hl
  have RK : Hid (∀ w1 st1, Fine s st1 → Kept rb w w1 → RdAt w1 rb s st1 → Ready rb s w1 st1) := hide fun w1 st1 hf hk hr => h.kept hk hr hf
  have HF1 := hide hf1
  obtain ⟨i0, hi, hz0, hz1', hz2'⟩ := info_parts info_string
  clear h hl h11
  by_cases h26 : (stepSt s st).tk.kind = 26
  · rw [inRes, if_pos h26]
    have hle2 := hf1.lt (by rw [h26]; decide)
    have HF2 := hide hf1.next
    have H26 := hide h26
    clear h26
    by_cases h4 : (stepSt s (stepSt s st)).tk.kind = 4
    · rw [if_pos h4]
      have hle3 := hf1.next.lt (by rw [h4]; decide)
      have HF3 := hide hf1.next.next
      have H4 := hide h4
      have FS := fun b => field_str (stepSt s (stepSt s st)).tk.kind (stepSt s (stepSt s st)).place (stepSt s (stepSt s st)).tk.num b
      clear h4 hf1
      obtain ⟨R, hR⟩ : ∃ r, inLoop s l st.place (s.size + 1) [(stepSt s (stepSt s st)).tk.str] (stepSt s (stepSt s (stepSt s st))) = r := ⟨_, rfl⟩
      rw [hR]
      have HR := hide hR
      clear hR
      go_enter Tryz.func268, Tryz.ntmps268
      go_wp2_with (first | (go_at_call_of 56 (Value.int IntKind.i64 11); refine (take_ok rb s st 11 _ (unhide H).size (unhide H).fine.after (unhide H).at' hlt (unhide H).err (unhide H11)).mono ?_; rintro e w1 ⟨rfl, hr1, hk1⟩; have hz1 := hk1.size; have n1 : ¬ w1.heap.size = rb := (by omega); have hR1 := hide ((unhide RK _ _ (unhide HF1) hk1 hr1).allocd (.cells #[.int .i64 st.tk.kind, .int .i64 st.place, .int .i64 st.tk.num, .string (BS st.tk.str)] 91)); have hK1 := hide (hk1.alloc (.cells #[.int .i64 st.tk.kind, .int .i64 st.place, .int .i64 st.tk.num, .string (BS st.tk.str)] 91)); clear hr1 hk1; simp only [tkV]) | (go_at_call_of 56 (Value.int IntKind.i64 26); refine (take_ok rb s (stepSt s st) 26 _ (unhide hR1).size (unhide hR1).fine.after (unhide hR1).at' (unhide hR1).lt (unhide hR1).err (unhide H26)).mono ?_; rintro e w2 ⟨rfl, hr2, hk2⟩; have hz2 : w1.heap.size < w2.heap.size := (by have := hk2.size; simp at this; omega); have q2 : w2.cell? ⟨w1.heap.size, 1, none⟩ = some (.int .i64 st.place) := ((kcell hk2).1 _ 1 (by simp) n1).trans (by simp); have hK2 := hide ((unhide hK1).trans hk2); have hR2 := hide (unhide RK _ _ (unhide HF2) (unhide hK2) hr2); clear hr2 hk2; simp only [tkV]) | (go_at_call_of 56 (Value.int IntKind.i64 4); refine (take_ok rb s (stepSt s (stepSt s st)) 4 _ (unhide hR2).size (unhide hR2).fine.after (unhide hR2).at' (unhide hR2).lt (unhide hR2).err (unhide H4)).mono ?_; rintro e w3 ⟨rfl, hr3, hk3⟩; have hz3 : w1.heap.size < w3.heap.size := (by have := hk3.size; omega); have q3 : w3.cell? ⟨w1.heap.size, 1, none⟩ = some (.int .i64 st.place) := ((kcell hk3).1 _ 1 hz2 n1).trans q2; have hK3 := hide ((unhide hK2).trans hk3); have hR3 := hide (unhide RK _ _ (unhide HF3) (unhide hK3) hr3); clear hr3 hk3; simp only [tkV]))
      go_loopw [6] (fun v wr => ∃ (n : Nat) (ts : List (List UInt8)) (sl : St), Hid (R = inLoop s l st.place n ts sl) ∧ s.size < n + sl.place ∧ Hid (wr.ownsRow (w1.heap.size + 1) 9 1 v ts.length (textCells ts)) ∧ Hid (Ready rb s wr sl) ∧ sl.op = op ∧ ts.length ≤ sl.place ∧ st.place ≤ sl.place ∧ Hid (Kept rb w wr) ∧ wr.cell? ⟨w1.heap.size, 1, none⟩ = some (.int .i64 st.place) ∧ w1.heap.size < wr.heap.size) (fun v wr => s.size + 1 - plOf wr rb)
      case atStart => exact ⟨s.size + 1, _, _, hide (unhide HR).symm, by omega, hide (textRow _ _ (by omega) _), hide ((unhide hR3).allocd _), ho, by simp; omega, by omega, hide ((unhide hK3).alloc _), by rw [World.cell?_alloc_past _ _ _ (by first | omega | (simp; omega))]; exact q3, by simp; omega⟩
      case round =>
        obtain ⟨n, ts, sl, hR, hn, hown, hready, hopl, htl, hpl, hk, hcr, hBr⟩ := hrel
        have hfine := (unhide hready).fine
        have hfp := hfine.place
        obtain ⟨m, rfl⟩ : ∃ m, n = m + 1 := ⟨n - 1, by omega⟩
        have hltr := (unhide hready).lt
        have HPL := hide (plOf_at (unhide hready).at')
        have hbase : rb < w1.heap.size + 1 := by omega
        have HFS := hide hfine.next
        have HFS2 := hide hfine.next.next
        by_cases h28 : sl.tk.kind = 28
        · have H28 := hide h28
          have hlp := hfine.lt (by rw [h28]; decide)
          by_cases h4 : (stepSt s sl).tk.kind = 4
          · have H4 := hide h4
            have hlp2 := hfine.next.lt (by rw [h4]; decide)
            have hfp2 := hfine.next.next.place
            have HRR : Hid (R = inLoop s l st.place m (ts ++ [(stepSt s sl).tk.str]) (stepSt s (stepSt s sl))) := hide (by rw [unhide hR, inLoop_more h28 h4])
            have FS := fun b => field_str (stepSt s sl).tk.kind (stepSt s sl).place (stepSt s sl).tk.num b
            clear hR h28 h4 hfine
            go_wp2_with (first | (go_at_call 267; refine (skip_yes rb s sl 28 _ (unhide hready).size (unhide hready).fine.after (unhide hready).at' hltr (unhide hready).err (unhide H28)).mono ?_; rintro e w4 ⟨rfl, hr4, hk4⟩; have hk4 := hide hk4; have hR4 := hide ((unhide hready).kept (unhide hk4) hr4 (unhide HFS)); clear hr4) | (go_at_call_of 56 (Value.int IntKind.i64 4); refine (take_ok rb s (stepSt s sl) 4 _ (unhide hR4).size (unhide hR4).fine.after (unhide hR4).at' (unhide hR4).lt (unhide hR4).err (unhide H4)).mono ?_; rintro e w5 ⟨rfl, hr5, hk5⟩; have hk5 := hide ((unhide hk4).trans hk5); have hR5 := hide ((unhide hready).kept (unhide hk5) hr5 (unhide HFS2)); clear hr5; have hz5 := (unhide hk5).size; have hown5 := ownsRow_keptR (unhide hown) (unhide hk5) hbase; simp only [tkV]) | (at_builtin; refine wpList_append_own _ rfl _ _ 62 rfl (w1.heap.size + 1) 9 i0 (.string ⟨#[]⟩) 1 16 Tryz.underlying62 hi hz0 hz1' hz2' rfl (by decide) _ _ _ rfl (hown5.alloc _) ⟨w5.heap.size, 0, none⟩ 1 1 [.string (BS (stepSt s sl).tk.str)] rfl rfl ?c1 ?c2 ?c3 ?c4 ?c5 ?_))
            case c1 =>
              intro j u hj
              match j, hj with
              | 0, hj => simp at hj; subst hj; simp [Addr.add]
              | j + 1, hj => simp at hj
            case c2 => intro u hu; simp at hu; subst hu; rfl
            case c3 => unfold maxLen; omega
            case c4 => omega
            case c5 => simp; omega
            · intro v' w6 hown' hgrow _
              have G := in_more hown' hgrow (unhide hown) (unhide hR5).at' (unhide hR5).lt (unhide hk) (unhide hk5) hcr hBr (by omega) (by omega)
              clear hown' hgrow hown hown5
              have HPL2 := hide (plOf_at G.2.1)
              have G := hide G
              go_wp2_with fail
              go_roundw
              case rel => exact ⟨m, _, _, HRR, by omega, hide (unhide G).1, hide (unhide RK _ _ (unhide HFS2) (unhide G).2.2.1 (unhide G).2.1), hopl, by simp; omega, by omega, hide (unhide G).2.2.1, (unhide G).2.2.2.1, (unhide G).2.2.2.2⟩
              case measure => rw [unhide HPL, unhide HPL2]; omega
          · have H4 := hide h4
            have HRR : Hid (R = .err 2 (stepSt s sl).place) := hide (by rw [unhide hR, inLoop_bad h28 h4])
            clear hR h28 h4 hfine
            go_wp2_with (first | (go_at_call 267; refine (skip_yes rb s sl 28 _ (unhide hready).size (unhide hready).fine.after (unhide hready).at' hltr (unhide hready).err (unhide H28)).mono ?_; rintro e w4 ⟨rfl, hr4, hk4⟩; have hk4 := hide hk4; have hR4 := hide ((unhide hready).kept (unhide hk4) hr4 (unhide HFS)); clear hr4) | (go_at_call_of 56 (Value.int IntKind.i64 4); refine (take_no rb s (stepSt s sl) 4 _ (unhide hR4).at' (unhide hR4).lt (unhide H4)).mono ?_; rintro e w5 ⟨rfl, hk5⟩; simp only [gaveUp]))
            rw [unhide HRR]
            exact ⟨rfl, ((unhide hk).trans (unhide hk4)).trans hk5, rfl⟩
        · have H28 := hide h28
          by_cases h27 : sl.tk.kind = 27
          · have H27 := hide h27
            have hlp := hfine.lt (by rw [h27]; decide)
            have HRR : Hid (R = .ok (.un ⟨21, st.place, 0, [], [], ts⟩ l) (stepSt s sl)) := hide (by rw [unhide hR, inLoop_end h28 h27])
            clear hR h28 h27 hfine
            obtain ⟨va, vn, vc, rfl⟩ := ownsRow_slice (unhide hown)
            go_wp2_with (first | (go_at_call 267; refine (skip_no rb s sl 28 _ (unhide hready).at' (unhide H28)).mono ?_; rintro e w4 ⟨rfl, rfl⟩) | (go_at_call_of 56 (Value.int IntKind.i64 27); refine (take_ok rb s sl 27 _ (unhide hready).size (unhide hready).fine.after (unhide hready).at' hltr (unhide hready).err (unhide H27)).mono ?_; rintro e w5 ⟨rfl, hr5, hk5⟩; have q5 : w5.cell? ⟨w1.heap.size, 1, none⟩ = some (.int .i64 st.place) := ((kcell hk5).1 _ 1 hBr n1).trans hcr; have hz5 := hk5.size; have hk5 := hide hk5; have hr5 := hide hr5; simp only [tkV]))
            go_ret
            rw [unhide HRR]
            have hK5 := (unhide hk).trans (unhide hk5)
            have hlt5 : rb < w5.heap.size := by omega
            refine ⟨(hK5.alloc _).alloc _, _, rfl, IsNode.texted ((unhide HL).kept hK5) hlt5 ((TextsAt.of_row (unhide hown) hbase).kept (unhide hk5)) 21 st.place [] [], ((unhide hr5).allocd _ hlt5).allocd _ (by simp; omega), unhide HFS, hopl, by omega⟩
          · have H27 := hide h27
            have HRR : Hid (R = .err 2 sl.place) := hide (by rw [unhide hR, inLoop_open h28 h27])
            clear hR h28 h27 hfine
            go_wp2_with (first | (go_at_call 267; refine (skip_no rb s sl 28 _ (unhide hready).at' (unhide H28)).mono ?_; rintro e w4 ⟨rfl, rfl⟩) | (go_at_call_of 56 (Value.int IntKind.i64 27); refine (take_no rb s sl 27 _ (unhide hready).at' hltr (unhide H27)).mono ?_; rintro e w5 ⟨rfl, hk5⟩; simp only [gaveUp]))
            rw [unhide HRR]
            exact ⟨rfl, (unhide hk).trans hk5, rfl⟩
    · rw [if_neg h4]
      have H4 := hide h4
      clear h4 hf1
      go_enter Tryz.func268, Tryz.ntmps268
      go_wp2_with (first | (go_at_call_of 56 (Value.int IntKind.i64 11); refine (take_ok rb s st 11 _ (unhide H).size (unhide H).fine.after (unhide H).at' hlt (unhide H).err (unhide H11)).mono ?_; rintro e w1 ⟨rfl, hr1, hk1⟩; have hz1 := hk1.size; have n1 : ¬ w1.heap.size = rb := (by omega); have hR1 := hide ((unhide RK _ _ (unhide HF1) hk1 hr1).allocd (.cells #[.int .i64 st.tk.kind, .int .i64 st.place, .int .i64 st.tk.num, .string (BS st.tk.str)] 91)); have hK1 := hide (hk1.alloc (.cells #[.int .i64 st.tk.kind, .int .i64 st.place, .int .i64 st.tk.num, .string (BS st.tk.str)] 91)); clear hr1 hk1; simp only [tkV]) | (go_at_call_of 56 (Value.int IntKind.i64 26); refine (take_ok rb s (stepSt s st) 26 _ (unhide hR1).size (unhide hR1).fine.after (unhide hR1).at' (unhide hR1).lt (unhide hR1).err (unhide H26)).mono ?_; rintro e w2 ⟨rfl, hr2, hk2⟩; have hz2 : w1.heap.size < w2.heap.size := (by have := hk2.size; simp at this; omega); have q2 : w2.cell? ⟨w1.heap.size, 1, none⟩ = some (.int .i64 st.place) := ((kcell hk2).1 _ 1 (by simp) n1).trans (by simp); have hK2 := hide ((unhide hK1).trans hk2); have hR2 := hide (unhide RK _ _ (unhide HF2) (unhide hK2) hr2); clear hr2 hk2; simp only [tkV]) | (go_at_call_of 56 (Value.int IntKind.i64 4); refine (take_no rb s (stepSt s (stepSt s st)) 4 _ (unhide hR2).at' (unhide hR2).lt (unhide H4)).mono ?_; rintro e w3 ⟨rfl, hk3⟩; simp only [gaveUp]))
      exact ⟨rfl, (unhide hK2).trans hk3, rfl⟩
  · rw [inRes, if_neg h26]
    have H26 := hide h26
    clear h26 hf1
    go_enter Tryz.func268, Tryz.ntmps268
    go_wp2_with (first | (go_at_call_of 56 (Value.int IntKind.i64 11); refine (take_ok rb s st 11 _ (unhide H).size (unhide H).fine.after (unhide H).at' hlt (unhide H).err (unhide H11)).mono ?_; rintro e w1 ⟨rfl, hr1, hk1⟩; have hz1 := hk1.size; have n1 : ¬ w1.heap.size = rb := (by omega); have hR1 := hide ((unhide RK _ _ (unhide HF1) hk1 hr1).allocd (.cells #[.int .i64 st.tk.kind, .int .i64 st.place, .int .i64 st.tk.num, .string (BS st.tk.str)] 91)); have hK1 := hide (hk1.alloc (.cells #[.int .i64 st.tk.kind, .int .i64 st.place, .int .i64 st.tk.num, .string (BS st.tk.str)] 91)); clear hr1 hk1; simp only [tkV]) | (go_at_call_of 56 (Value.int IntKind.i64 26); refine (take_no rb s (stepSt s st) 26 _ (unhide hR1).at' (unhide hR1).lt (unhide H26)).mono ?_; rintro e w2 ⟨rfl, hk2⟩; simp only [gaveUp]))
    exact ⟨rfl, (unhide hK1).trans hk2, rfl⟩
end

section
set_option maxHeartbeats 1000000 in
theorem test_reads (rb : Nat) (s : ByteArray) (op : Nat) (f : St → Res) (gI gL : Ast → St → Res) (hf : Reads 241 rb s op f) (hI : Tails 268 rb s op 11 gI) (hL : Tails 269 rb s op 12 gL) :
    Reads 198 rb s op (testRes s f gI gL) := by
  intro w st h ho
  cases hres : f st with
  | err en pl =>
    have hT : testRes s f gI gL st = .err en pl := by unfold testRes; rw [hres]
    rw [hT]
    obtain ⟨c0, c1, c2, c3, c4, c5, c6, fz⟩ := h.at'
    have H := hide h
    have HF := hide hf
    have HRES := hide hres
    clear h hf hI hL hres hT
    cases hb0 : (st.tk.kind == 2)
    all_goals
      go_enter Tryz.func198, Tryz.ntmps198
      go_wp2_with (go_at_call 241; refine (unhide HF _ st (unhide H) ho).mono ?_; rintro e w1 ⟨hk1, h1⟩; rw [unhide HRES] at h1; subst h1; simp only [gaveUp])
      exact ⟨rfl, hk1, rfl⟩
  | ok l st1 =>
    have hT : testRes s f gI gL st = tailRes s f gI gL (bareB st l) l st1 := by unfold testRes; rw [hres]
    rw [hT]
    by_cases h16 : st1.tk.kind = 16
    · exact test_16 rb s op f gI gL hf hI hL w st h ho l st1 hres h16
    by_cases h17 : st1.tk.kind = 17
    · exact test_17 rb s op f gI gL hf hI hL w st h ho l st1 hres h17
    by_cases h18 : st1.tk.kind = 18
    · exact test_18 rb s op f gI gL hf hI hL w st h ho l st1 hres h18
    by_cases h19 : st1.tk.kind = 19
    · exact test_19 rb s op f gI gL hf hI hL w st h ho l st1 hres h19
    by_cases h20 : st1.tk.kind = 20
    · exact test_20 rb s op f gI gL hf hI hL w st h ho l st1 hres h20
    by_cases h21 : st1.tk.kind = 21
    · exact test_21 rb s op f gI gL hf hI hL w st h ho l st1 hres h21
    by_cases h14 : st1.tk.kind = 14
    · exact test_14 rb s op f gI gL hf hI hL w st h ho l st1 hres h14
    by_cases h7 : st1.tk.kind = 7
    · exact test_7 rb s op f gI gL hf hI hL w st h ho l st1 hres h7
    by_cases h10 : st1.tk.kind = 10
    · exact test_10 rb s op f gI gL hf hI hL w st h ho l st1 hres h10
    by_cases h11 : st1.tk.kind = 11
    · exact test_11 rb s op f gI gL hf hI hL w st h ho l st1 hres h11
    by_cases h12 : st1.tk.kind = 12
    · exact test_12 rb s op f gI gL hf hI hL w st h ho l st1 hres h12
    exact test_none rb s op f gI gL hf hI hL w st h ho l st1 hres h16 h17 h18 h19 h20 h21 h14 h7 h10 h11 h12
end

end Go.Proofs.YtfkcaldjphakpaaGreatDoor
