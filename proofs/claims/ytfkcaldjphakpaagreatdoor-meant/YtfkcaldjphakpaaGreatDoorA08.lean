/- What append leaves of the reader's things; terms with texts. escape. Terms by their sides; classes. demand. Op.Join. -/
import Derived.Test.YtfkcaldjphakpaaGreatDoorA04
import Derived.Test.YtfkcaldjphakpaaGreatDoorA09
import Derived.Test.YtfkcaldjphakpaaGreatDoorQRd5
namespace Go.Proofs.YtfkcaldjphakpaaGreatDoor
open Go.RowKit

section
theorem Kept.grown {rb : Nat} {a w w' : World} {row : Option Nat} (h : Kept rb a w) (hg : w.grownBy w' row) (hrow : ∀ k, row = some k → a.heap.size ≤ k) : Kept rb a w' :=
  ⟨hg.os.trans h.os, hg.tape.trans h.tape, hg.output.trans h.output, Nat.le_trans h.size hg.size, fun k hk hn => (hg.block k (Nat.lt_of_lt_of_le hk h.size) (fun e => by have := hrow k e.symm; omega)).trans (h.block k hk hn)⟩

theorem RdAt.same {w w' : World} {rb : Nat} {s : ByteArray} {st : St} (h : RdAt w rb s st) (hb : w'.heap[rb]? = w.heap[rb]?) : RdAt w' rb s st := by
  have hc : ∀ j, w'.cell? ⟨rb, j, none⟩ = w.cell? ⟨rb, j, none⟩ := fun j => World.cell?_of_block (w := w) (w' := w') (a := ⟨rb, j, none⟩) hb
  have hf : ∀ j, w'.frozen? ⟨rb, j, none⟩ = w.frozen? ⟨rb, j, none⟩ := fun j => World.frozen?_of_block (w := w) (w' := w') (a := ⟨rb, j, none⟩) hb
  exact ⟨(hc 0).trans h.c0, (hc 1).trans h.c1, (hc 2).trans h.c2, (hc 3).trans h.c3, (hc 4).trans h.c4, (hc 5).trans h.c5, (hc 6).trans h.c6, fun j => (hf j).trans (h.fz j)⟩

theorem RdAt.grown {w w' : World} {rb : Nat} {s : ByteArray} {st : St} {row : Option Nat} (h : RdAt w rb s st) (hg : w.grownBy w' row) (hlt : rb < w.heap.size) (hrow : ∀ k, row = some k → rb < k) : RdAt w' rb s st :=
  h.same (hg.block rb hlt (fun e => by have := hrow rb e.symm; omega))

theorem ownsRow_keptR {rb base e size n : Nat} {w w' : World} {v : Value} {xs : List Value} (h : w.ownsRow base e size v n xs) (hk : Kept rb w w') (hb : rb < base) : w'.ownsRow base e size v n xs := by
  refine ⟨h.1, ?_⟩
  rcases h.2 with hn | ⟨g, cap, cur, rfl, hbg, hgg, rest⟩
  · exact .inl hn
  · refine .inr ⟨g, cap, cur, rfl, hbg, ?_, rest⟩
    rw [hk.block g (Array.getElem?_eq_some_iff.1 hgg).1 (by omega)]
    exact hgg

def textCells (ts : List (List UInt8)) : List Value := ts.map fun t => .string (BS t)

theorem TextsAt.of_row {rb base e : Nat} {w : World} {v : Value} {ts : List (List UInt8)} (h : w.ownsRow base e 1 v ts.length (textCells ts)) (hb : rb < base) : TextsAt rb w v ts := by
  have h0 := h
  rcases h.2 with ⟨hv, hn⟩ | ⟨g, cap, cur, rfl, hbg, hgg, _⟩
  · exact .inl ⟨List.eq_nil_of_length_eq_zero hn, hv⟩
  · refine .inr ⟨g, cap, rfl, by omega, (Array.getElem?_eq_some_iff.1 hgg).1, fun j t ht => ?_⟩
    have := h0.cells (g := g) rfl j (.string (BS t)) (by simp [textCells, ht])
    have hadd : (⟨g, 0, none⟩ : Addr).add j = ⟨g, j, none⟩ := by unfold Addr.add; split <;> simp_all
    rwa [hadd] at this

/-- A new term of one side, with texts. -/
theorem IsNode.texted {rb : Nat} {w : World} {l : Ast} {lv tv : Value} {ts : List (List UInt8)} (hl : IsNode rb w lv l) (hlt : rb < w.heap.size) (ht : TextsAt rb w tv ts) (op place : Int) (str esc : List UInt8) :
    IsNode rb ((w.alloc (.cells #[lv] 67)).alloc (.cells #[.int .i64 op, .int .i64 place, .slice (some ⟨w.heap.size, 0, none⟩) 1 1, .int .i64 0, .string (BS str), .string (BS esc), tv] 102))
      (.pointer (some ⟨w.heap.size + 1, 0, none⟩)) (.un ⟨op, place, 0, str, esc, ts⟩ l) := by
  have hk : Kept rb w ((w.alloc (.cells #[lv] 67)).alloc (.cells #[.int .i64 op, .int .i64 place, .slice (some ⟨w.heap.size, 0, none⟩) 1 1, .int .i64 0, .string (BS str), .string (BS esc), tv] 102)) := ((Kept.refl rb w).alloc _).alloc _
  refine ⟨w.heap.size + 1, w.heap.size, lv, rfl, ⟨by omega, by simp, by simp, by simp, by simp, by simp, by simp, by simp, tv, by simp, ht.kept hk⟩, hlt, by simp; omega, ?_, hl.kept hk⟩
  rw [World.cell?_alloc_past _ _ _ (by simp), World.cell?_alloc_at _ _ _ _ rfl]; rfl

theorem Fine.lt {s : ByteArray} {st : St} (h : Fine s st) (hk : st.tk.kind ≠ 0) : st.place < (stepSt s st).place := Nat.lt_of_lt_of_le (h.long hk) (stepSt_place s st)

theorem field_str (k p n : Int) (b : ByteArray) (w : World) : (Instr.field 91 (.agg #[.int .i64 k, .int .i64 p, .int .i64 n, .string b]) 3).run Tryz.prog w = .ok (.string b) w := by kernel_rfl

/-- What IN reads on behind its first text. -/
def inLoop (s : ByteArray) (l : Ast) (pl : Nat) : Nat → List (List UInt8) → St → Res
  | 0, _, _ => .err 0 0
  | n + 1, ts, st => if st.tk.kind = 28 then (if (stepSt s st).tk.kind = 4 then inLoop s l pl n (ts ++ [(stepSt s st).tk.str]) (stepSt s (stepSt s st)) else .err 2 (stepSt s st).place)
      else if st.tk.kind = 27 then .ok (.un ⟨21, pl, 0, [], [], ts⟩ l) (stepSt s st) else .err 2 st.place

def inRes (s : ByteArray) (l : Ast) (st : St) : Res :=
  if (stepSt s st).tk.kind = 26 then (if (stepSt s (stepSt s st)).tk.kind = 4 then inLoop s l st.place (s.size + 1) [(stepSt s (stepSt s st)).tk.str] (stepSt s (stepSt s (stepSt s st))) else .err 2 (stepSt s (stepSt s st)).place)
  else .err 2 (stepSt s st).place

theorem inLoop_more {s : ByteArray} {l : Ast} {pl n : Nat} {ts : List (List UInt8)} {st : St} (h : st.tk.kind = 28) (h4 : (stepSt s st).tk.kind = 4) : inLoop s l pl (n + 1) ts st = inLoop s l pl n (ts ++ [(stepSt s st).tk.str]) (stepSt s (stepSt s st)) := by rw [inLoop, if_pos h, if_pos h4]
theorem inLoop_bad {s : ByteArray} {l : Ast} {pl n : Nat} {ts : List (List UInt8)} {st : St} (h : st.tk.kind = 28) (h4 : ¬ (stepSt s st).tk.kind = 4) : inLoop s l pl (n + 1) ts st = .err 2 (stepSt s st).place := by rw [inLoop, if_pos h, if_neg h4]
theorem inLoop_end {s : ByteArray} {l : Ast} {pl n : Nat} {ts : List (List UInt8)} {st : St} (h : ¬ st.tk.kind = 28) (h4 : st.tk.kind = 27) : inLoop s l pl (n + 1) ts st = .ok (.un ⟨21, pl, 0, [], [], ts⟩ l) (stepSt s st) := by rw [inLoop, if_neg h, if_pos h4]
theorem inLoop_open {s : ByteArray} {l : Ast} {pl n : Nat} {ts : List (List UInt8)} {st : St} (h : ¬ st.tk.kind = 28) (h4 : ¬ st.tk.kind = 27) : inLoop s l pl (n + 1) ts st = .err 2 st.place := by rw [inLoop, if_neg h, if_neg h4]

theorem textRow (w : World) (base : Nat) (hb : base ≤ w.heap.size) (t : List UInt8) : (w.alloc (.cells #[.string (BS t)] 9)).ownsRow base 9 1 (.slice (some ⟨w.heap.size, 0, none⟩) 1 1) [t].length (textCells [t]) :=
  ⟨rfl, .inr ⟨w.heap.size, 1, #[.string (BS t)], rfl, hb, heap_alloc_new w _, Nat.le_refl _, by decide, rfl, rfl⟩⟩
end

section
theorem quotF_len : (l : List UInt8) → ∀ r, quotF l = some r → r.1.length ≤ l.length
  | [], r, h => by simp [quotF] at h
  | [c], r, h => by
    simp only [quotF] at h; split at h
    · injection h with h; subst h; simp
    · cases h
  | c :: d :: t, r, h => by
    simp only [quotF] at h
    split at h
    · split at h
      · cases hq : quotF t with
        | none => rw [hq] at h; cases h
        | some q => rw [hq] at h; injection h with h; subst h; have := quotF_len t q hq; simp; omega
      · injection h with h; subst h; simp
    · cases hq : quotF (d :: t) with
      | none => rw [hq] at h; cases h
      | some q => rw [hq] at h; injection h with h; subst h; have := quotF_len (d :: t) q hq; simp at *; omega

theorem firstTk_len (l : List UInt8) : (firstTk l).str.length ≤ l.length := by
  unfold firstTk
  split
  · simp [plainTk]
  · rename_i c t
    split
    · unfold wordTk; split
      · simp only [List.length_take]; omega
      · simp [plainTk]
    split
    · unfold numTk; split <;> simp [plainTk]
    split
    · unfold quotTk; split
      · rename_i r hr
        have := quotF_len _ _ hr
        rw [List.length_drop] at this
        show r.1.length ≤ _
        omega
      · simp [plainTk]
    · simp [plainTk]

theorem stepSt_len (s : ByteArray) (st : St) : (stepSt s st).tk.str.length ≤ s.size := by
  show (nextTk s.data.toList st.after).str.length ≤ s.size
  unfold nextTk
  split
  · have := firstTk_len (s.data.toList.drop (nextAt s.data.toList st.after))
    rw [List.length_drop, data_len] at this
    omega
  · simp [plainTk]

/-- What comes of reading what stands behind ESCAPE: ft is the pattern's token, fp its place. -/
inductive ERes where
  | ok (str : List UInt8) (st : St)
  | err (pl : Int)

def escRes (s : ByteArray) (ft : Tk) (fp : Nat) (st : St) : ERes :=
  if st.tk.kind = 4 then (if st.tk.str.length = 1 then (if (cutL st.tk.str ft.str).isSome = true then .ok st.tk.str (stepSt s st) else .err fp) else .err st.place) else .err st.place

def EscEnds (rb : Nat) (s : ByteArray) (w : World) (r : ERes) (e : Ending) (w' : World) : Prop :=
  Kept rb w w' ∧ match r with
  | .ok str st => e = .returned (.string (BS str)) ∧ RdAt w' rb s st
  | .err pl => e = gaveUp 2 pl

set_option maxHeartbeats 1000000 in
set_option maxRecDepth 100000 in
theorem escape_any (rb : Nat) (s : ByteArray) (ft : Tk) (fp : Nat) (hft : ft.str.length ≤ 200) (w : World) (st : St) (h : Ready rb s w st) :
    Calls Tryz.prog 302 #[.pointer (some ⟨rb, 0, none⟩), tkV ft fp] w (EscEnds rb s w (escRes s ft fp st)) := by
  have H := hide h
  have HA := hide (h.allocd (.cells #[.int .i64 ft.kind, .int .i64 fp, .int .i64 ft.num, .string (BS ft.str)] 91))
  have hlt := h.lt
  have n0 : ¬ w.heap.size = rb := by omega
  have hz := BS_size st.tk.str
  have hpz : (BS ft.str).size ≤ 200 := by rw [BS_size]; exact hft
  clear h
  simp only [tkV]
  by_cases h4 : st.tk.kind = 4
  · rw [escRes, if_pos h4]
    have H4 := hide h4
    clear h4
    by_cases h1 : st.tk.str.length = 1
    · rw [if_pos h1]
      have hz1 : (BS st.tk.str).size = 1 := by omega
      have hzb : (((BS st.tk.str).size : Int) != 1) = false := by rw [hz1]; rfl
      clear hz h1 hz1
      have VAL := hide (fun w => valid_any (BS ft.str) (BS st.tk.str) hpz w)
      cases hv : (cutL st.tk.str ft.str).isSome with
      | true =>
        have HV : Hid ((cutL (BS st.tk.str).data.toList (BS ft.str).data.toList).isSome = true) := hide (by rw [BS_data, BS_data]; exact hv)
        rw [if_pos rfl]
        clear hv
        go_enter Tryz.func302, Tryz.ntmps302
        go_wp2_with (first | (go_at_call 56; refine (take_ok rb s st 4 _ (unhide H).size (unhide H).fine.after (unhide HA).at' (unhide HA).lt (unhide HA).err (unhide H4)).mono ?_; rintro e w1 ⟨rfl, hr1, hk1⟩; have hz1 : w.heap.size < w1.heap.size := (by have := hk1.size; simp at this; omega); have n1 : ¬ w1.heap.size = rb := (by omega); have p1 : w1.cell? ⟨w.heap.size, 1, none⟩ = some (.int .i64 fp) := ((kcell hk1).1 _ 1 (by simp) n0).trans (by simp); have p3 : w1.cell? ⟨w.heap.size, 3, none⟩ = some (.string (BS ft.str)) := ((kcell hk1).1 _ 3 (by simp) n0).trans (by simp); have hK1 := hide ((((Kept.refl rb w).alloc (.cells #[.int .i64 ft.kind, .int .i64 fp, .int .i64 ft.num, .string (BS ft.str)] 91)).trans hk1).alloc (.cells #[.int .i64 st.tk.kind, .int .i64 st.place, .int .i64 st.tk.num, .string (BS st.tk.str)] 91)); have hR1 := hide (hr1.allocd (.cells #[.int .i64 st.tk.kind, .int .i64 st.place, .int .i64 st.tk.num, .string (BS st.tk.str)] 91) (by omega)); clear hr1 hk1; simp only [tkV]) | (go_at_call 332; go_loud (refine (unhide VAL _).mono ?_; rintro e w2 ⟨rfl, hb2⟩; rw [unhide HV]; obtain ⟨hc, hf⟩ := bcell hb2; have z2 := hb2.size; have q1 : w2.cell? ⟨w.heap.size, 1, none⟩ = some (.int .i64 fp) := (hc _ 1 (by simp; omega)).trans (by rw [World.cell?_alloc_past _ _ _ (by first | omega | (simp; omega))]; exact p1); have q3 : w2.cell? ⟨w1.heap.size, 3, none⟩ = some (.string (BS st.tk.str)) := (hc _ 3 (by simp)).trans (by simp); have hb2 := hide hb2; clear hc hf)))
        go_ret
        exact ⟨(unhide hK1).trans (Kept.of_below (unhide hb2)), rfl, (unhide hR1).below (unhide hb2) (by simp; omega)⟩
      | false =>
        have HV : Hid ((cutL (BS st.tk.str).data.toList (BS ft.str).data.toList).isSome = false) := hide (by rw [BS_data, BS_data]; exact hv)
        rw [if_neg (by simp)]
        clear hv
        go_enter Tryz.func302, Tryz.ntmps302
        go_wp2_with (first | (go_at_call 56; refine (take_ok rb s st 4 _ (unhide H).size (unhide H).fine.after (unhide HA).at' (unhide HA).lt (unhide HA).err (unhide H4)).mono ?_; rintro e w1 ⟨rfl, hr1, hk1⟩; have hz1 : w.heap.size < w1.heap.size := (by have := hk1.size; simp at this; omega); have n1 : ¬ w1.heap.size = rb := (by omega); have p1 : w1.cell? ⟨w.heap.size, 1, none⟩ = some (.int .i64 fp) := ((kcell hk1).1 _ 1 (by simp) n0).trans (by simp); have p3 : w1.cell? ⟨w.heap.size, 3, none⟩ = some (.string (BS ft.str)) := ((kcell hk1).1 _ 3 (by simp) n0).trans (by simp); have hK1 := hide ((((Kept.refl rb w).alloc (.cells #[.int .i64 ft.kind, .int .i64 fp, .int .i64 ft.num, .string (BS ft.str)] 91)).trans hk1).alloc (.cells #[.int .i64 st.tk.kind, .int .i64 st.place, .int .i64 st.tk.num, .string (BS st.tk.str)] 91)); have hR1 := hide (hr1.allocd (.cells #[.int .i64 st.tk.kind, .int .i64 st.place, .int .i64 st.tk.num, .string (BS st.tk.str)] 91) (by omega)); clear hr1 hk1; simp only [tkV]) | (go_at_call 332; go_loud (refine (unhide VAL _).mono ?_; rintro e w2 ⟨rfl, hb2⟩; rw [unhide HV]; obtain ⟨hc, hf⟩ := bcell hb2; have z2 := hb2.size; have q1 : w2.cell? ⟨w.heap.size, 1, none⟩ = some (.int .i64 fp) := (hc _ 1 (by simp; omega)).trans (by rw [World.cell?_alloc_past _ _ _ (by first | omega | (simp; omega))]; exact p1); have q3 : w2.cell? ⟨w1.heap.size, 3, none⟩ = some (.string (BS st.tk.str)) := (hc _ 3 (by simp)).trans (by simp); have hb2 := hide hb2; clear hc hf)) | (go_at_call 103; refine (refuse_any _ _ _).mono ?_; rintro e w2 ⟨rfl, rfl⟩; simp only [gaveUp]))
        exact ⟨rfl, (unhide hK1).trans (Kept.of_below (unhide hb2)), rfl⟩
    · rw [if_neg h1]
      have hzb : (((BS st.tk.str).size : Int) != 1) = true := bne_iff_ne.2 (by rw [hz]; omega)
      clear hz h1
      go_enter Tryz.func302, Tryz.ntmps302
      go_wp2_with (first | (go_at_call 56; refine (take_ok rb s st 4 _ (unhide H).size (unhide H).fine.after (unhide HA).at' (unhide HA).lt (unhide HA).err (unhide H4)).mono ?_; rintro e w1 ⟨rfl, hr1, hk1⟩; have hz1 : w.heap.size < w1.heap.size := (by have := hk1.size; simp at this; omega); have n1 : ¬ w1.heap.size = rb := (by omega); have p1 : w1.cell? ⟨w.heap.size, 1, none⟩ = some (.int .i64 fp) := ((kcell hk1).1 _ 1 (by simp) n0).trans (by simp); have p3 : w1.cell? ⟨w.heap.size, 3, none⟩ = some (.string (BS ft.str)) := ((kcell hk1).1 _ 3 (by simp) n0).trans (by simp); have hK1 := hide ((((Kept.refl rb w).alloc (.cells #[.int .i64 ft.kind, .int .i64 fp, .int .i64 ft.num, .string (BS ft.str)] 91)).trans hk1).alloc (.cells #[.int .i64 st.tk.kind, .int .i64 st.place, .int .i64 st.tk.num, .string (BS st.tk.str)] 91)); have hR1 := hide (hr1.allocd (.cells #[.int .i64 st.tk.kind, .int .i64 st.place, .int .i64 st.tk.num, .string (BS st.tk.str)] 91) (by omega)); clear hr1 hk1; simp only [tkV]) | (go_at_call 103; refine (refuse_any _ _ _).mono ?_; rintro e w2 ⟨rfl, rfl⟩; simp only [gaveUp]))
      exact ⟨rfl, unhide hK1, rfl⟩
  · rw [escRes, if_neg h4]
    have H4 := hide h4
    clear h4
    go_enter Tryz.func302, Tryz.ntmps302
    go_wp2_with (go_at_call 56; refine (take_no rb s st 4 _ (unhide HA).at' (unhide HA).lt (unhide H4)).mono ?_; rintro e w1 ⟨rfl, hk1⟩; simp only [gaveUp])
    exact ⟨rfl, ((Kept.refl rb w).alloc _).trans hk1, rfl⟩
end

section
def payA : Ast → Pay
  | .leaf p => p
  | .un p _ => p
  | .bin p _ _ => p
  | .tri p _ _ _ => p
def sidesA : Ast → List Ast
  | .leaf _ => []
  | .un _ x => [x]
  | .bin _ x y => [x, y]
  | .tri _ x y z => [x, y, z]

/-- The sides of a term lie in a row. -/
def SidesAt (lo : Nat) (w : World) (sv : Value) (ts : List Ast) : Prop :=
  (ts = [] ∧ sv = .slice none 0 0) ∨ ∃ g, sv = .slice (some ⟨g, 0, none⟩) ts.length ts.length ∧ lo < g ∧ g < w.heap.size ∧ ∀ (j : Nat) (x : Ast), ts[j]? = some x → ∃ b, w.cell? ⟨g, j, none⟩ = some (.pointer (some ⟨b, 0, none⟩)) ∧ IsNode lo w (.pointer (some ⟨b, 0, none⟩)) x

theorem IsNode.parts {lo : Nat} {w : World} {v : Value} {t : Ast} (h : IsNode lo w v t) : ∃ b sv, v = .pointer (some ⟨b, 0, none⟩) ∧ NodeAt lo w b (payA t) sv ∧ SidesAt lo w sv (sidesA t) := by
  cases t with
  | leaf p => obtain ⟨b, rfl, h⟩ := h; exact ⟨b, _, rfl, h, .inl ⟨rfl, rfl⟩⟩
  | un p x =>
    obtain ⟨b, g, v1, rfl, h, h1, h2, e1, n1⟩ := h
    refine ⟨b, _, rfl, h, .inr ⟨g, rfl, h1, h2, fun j y hj => ?_⟩⟩
    match j, hj with
    | 0, hj => obtain rfl : x = y := by simpa [sidesA] using hj
               obtain ⟨b1, rfl⟩ := n1.ptr; exact ⟨b1, e1, n1⟩
    | j + 1, hj => simp [sidesA] at hj
  | bin p x y =>
    obtain ⟨b, g, v1, v2, rfl, h, h1, h2, e1, e2, n1, n2⟩ := h
    refine ⟨b, _, rfl, h, .inr ⟨g, rfl, h1, h2, fun j z hj => ?_⟩⟩
    match j, hj with
    | 0, hj => obtain rfl : x = z := by simpa [sidesA] using hj
               obtain ⟨b1, rfl⟩ := n1.ptr; exact ⟨b1, e1, n1⟩
    | 1, hj => obtain rfl : y = z := by simpa [sidesA] using hj
               obtain ⟨b1, rfl⟩ := n2.ptr; exact ⟨b1, e2, n2⟩
    | j + 2, hj => simp [sidesA] at hj
  | tri p x y z =>
    obtain ⟨b, g, v1, v2, v3, rfl, h, h1, h2, e1, e2, e3, n1, n2, n3⟩ := h
    refine ⟨b, _, rfl, h, .inr ⟨g, rfl, h1, h2, fun j u hj => ?_⟩⟩
    match j, hj with
    | 0, hj => obtain rfl : x = u := by simpa [sidesA] using hj
               obtain ⟨b1, rfl⟩ := n1.ptr; exact ⟨b1, e1, n1⟩
    | 1, hj => obtain rfl : y = u := by simpa [sidesA] using hj
               obtain ⟨b1, rfl⟩ := n2.ptr; exact ⟨b1, e2, n2⟩
    | 2, hj => obtain rfl : z = u := by simpa [sidesA] using hj
               obtain ⟨b1, rfl⟩ := n3.ptr; exact ⟨b1, e3, n3⟩
    | j + 3, hj => simp [sidesA] at hj

theorem SidesAt.any {lo : Nat} {w : World} {sv : Value} {ts : List Ast} (h : SidesAt lo w sv ts) : ∃ a, sv = .slice a ts.length ts.length ∧ ∀ (j : Nat) (x : Ast), ts[j]? = some x → ∃ g b, a = some ⟨g, 0, none⟩ ∧ lo < g ∧ g < w.heap.size ∧ w.cell? ⟨g, j, none⟩ = some (.pointer (some ⟨b, 0, none⟩)) ∧ IsNode lo w (.pointer (some ⟨b, 0, none⟩)) x := by
  rcases h with ⟨rfl, rfl⟩ | ⟨g, rfl, h1, h2, h3⟩
  · exact ⟨none, rfl, fun j x hj => by simp at hj⟩
  · exact ⟨some ⟨g, 0, none⟩, rfl, fun j x hj => by obtain ⟨b, hc, hn⟩ := h3 j x hj; exact ⟨g, b, rfl, h1, h2, hc, hn⟩⟩

theorem sides_len (t : Ast) : (sidesA t).length ≤ 3 := by cases t <;> simp [sidesA]

/-- A class, or the place of a wrong one. -/
inductive CRes where
  | ok (c : Int)
  | err (pl : Int)

/-- All sides must be of a class: none, or the place of the fault. -/
def dem (want pl : Int) : List CRes → Bool → Option Int
  | [], fit => if fit then none else some pl
  | .err q :: _, _ => some q
  | .ok c :: t, fit => dem want pl t (fit && (c == want || c == 0))

def demR (want pl c : Int) (rs : List CRes) : CRes := match dem want pl rs true with
  | none => .ok c
  | some q => .err q

/-- Both sides must be of one class, or one of them any. -/
def alikeR (pl : Int) : CRes → CRes → CRes
  | .err q, _ => .err q
  | .ok _, .err q => .err q
  | .ok l, .ok r => if (l != r && l != 0 && r != 0) = true then .err pl else .ok 3

def clsOf (op pl : Int) (rs : List CRes) : CRes :=
  if op == 0 then .ok 0 else if op == 1 then .ok 1 else if op == 2 then .ok 2
  else if op == 5 || op == 6 || op == 7 then demR 3 pl 3 rs
  else if op == 10 || op == 11 || op == 12 || op == 13 || op == 20 then demR 1 pl 3 rs
  else if op == 14 || op == 15 || op == 16 || op == 17 || op == 18 || op == 19 then demR 1 pl 1 rs
  else if op == 8 || op == 9 then (match rs with
    | [a, b] => alikeR pl a b
    | _ => .ok 3)
  else .ok 3

def clsA : Ast → CRes
  | .leaf p => clsOf p.op p.place []
  | .un p x => clsOf p.op p.place [clsA x]
  | .bin p x y => clsOf p.op p.place [clsA x, clsA y]
  | .tri p x y z => clsOf p.op p.place [clsA x, clsA y, clsA z]

theorem clsA_eq (t : Ast) : clsA t = clsOf (payA t).op (payA t).place ((sidesA t).map clsA) := by cases t <;> rfl

/-- Equations have two sides. -/
def WfA : Ast → Prop
  | .leaf p => ¬ p.op = 8 ∧ ¬ p.op = 9
  | .un p x => (¬ p.op = 8 ∧ ¬ p.op = 9) ∧ WfA x
  | .bin _ x y => WfA x ∧ WfA y
  | .tri p x y z => (¬ p.op = 8 ∧ ¬ p.op = 9) ∧ WfA x ∧ WfA y ∧ WfA z

theorem WfA.side {t x : Ast} (h : WfA t) (hx : x ∈ sidesA t) : WfA x := by
  cases t with
  | leaf p => simp [sidesA] at hx
  | un p y => simp [sidesA] at hx; subst hx; exact h.2
  | bin p y z => simp [sidesA] at hx; rcases hx with rfl | rfl; exact h.1; exact h.2
  | tri p y z u => simp [sidesA] at hx; rcases hx with rfl | rfl | rfl; exact h.2.1; exact h.2.2.1; exact h.2.2.2

/-- How a call that looks at classes ends. -/
def ClsEnds (w : World) (r : CRes) (e : Ending) (w' : World) : Prop :=
  Below w.heap.size w w' ∧ match r with
  | .ok c => e = .returned (.int .i64 c)
  | .err pl => e = gaveUp 4 pl

/-- The method class says what it should of a term. -/
def ClsOk (lo : Nat) (t : Ast) : Prop := ∀ (w : World) (v : Value), IsNode lo w v t → Calls Tryz.prog 104 #[v] w (ClsEnds w (clsA t))

theorem dem_err {want pl q : Int} {rs : List CRes} {j : Nat} {fit : Bool} (h : rs[j]? = some (.err q)) : dem want pl (rs.drop j) fit = some q := by
  obtain ⟨hj, he⟩ := List.getElem?_eq_some_iff.1 h
  rw [List.drop_eq_getElem_cons hj, he]; rfl
theorem dem_ok {want pl c : Int} {rs : List CRes} {j : Nat} {fit : Bool} (h : rs[j]? = some (.ok c)) : dem want pl (rs.drop j) fit = dem want pl (rs.drop (j + 1)) (fit && (c == want || c == 0)) := by
  obtain ⟨hj, he⟩ := List.getElem?_eq_some_iff.1 h
  rw [List.drop_eq_getElem_cons hj, he]; rfl
theorem dem_end {want pl : Int} {rs : List CRes} {j : Nat} {fit : Bool} (h : rs.length ≤ j) : dem want pl (rs.drop j) fit = if fit then none else some pl := by
  rw [List.drop_of_length_le h]; rfl
end

section
/-- How a demand ends. -/
def DemEnds (w : World) (r : Option Int) (e : Ending) (w' : World) : Prop := Below w.heap.size w w' ∧ match r with
  | none => e = .returned (.tuple #[])
  | some q => e = gaveUp 4 q

set_option maxHeartbeats 1000000 in
set_option maxRecDepth 100000 in
theorem demand_any (lo : Nat) (t : Ast) (hcls : ∀ x ∈ sidesA t, ClsOk lo x) (want : Int) (w : World) (v : Value) (h : IsNode lo w v t) :
    Calls Tryz.prog 148 #[v, .int .i64 want] w (DemEnds w (dem want (payA t).place ((sidesA t).map clsA) true)) := by
  obtain ⟨R, hR⟩ : ∃ r, dem want (payA t).place ((sidesA t).map clsA) true = r := ⟨_, rfl⟩
  rw [hR]
  have HR := hide hR
  obtain ⟨b, sv, rfl, hnode, hsides⟩ := h.parts
  obtain ⟨a, rfl, hside⟩ := hsides.any
  have hn3 := sides_len t
  obtain ⟨hab, hbw, c0, c1, c2, c3, c4, c5, c6⟩ := hnode
  obtain ⟨n, hn⟩ : ∃ n, (sidesA t).length = n := ⟨_, rfl⟩
  rw [hn] at c2 hn3
  have HN := hide hn
  have HS := hide hside
  have HC := hide hcls
  obtain ⟨pl, hpl⟩ : ∃ pl, (payA t).place = pl := ⟨_, rfl⟩
  rw [hpl] at c1 HR
  clear hR hsides h c0 c3 c4 c5 c6 hn hside hcls hpl
  go_enter Tryz.func148, Tryz.ntmps148
  go_wp2_with fail
  go_loopw [4, 13] (fun fit i wr => ∃ (j : Nat) (fb : Bool), j ≤ n ∧ i = .int .i64 j ∧ fit = .bool fb ∧ Hid (R = dem want pl (((sidesA t).map clsA).drop j) fb) ∧ Below w.heap.size w wr) (fun _ i _ => n - (intOf i).toNat)
  case atStart => exact ⟨0, true, Nat.zero_le _, rfl, rfl, hide (by rw [List.drop_zero, unhide HR]), Below.refl _ _⟩
  case round =>
    obtain ⟨j, fb, hj, rfl, rfl, hh, hbel⟩ := hrel
    have d1 := (hbel.cell (p := ⟨b, 1, none⟩) hbw).trans c1
    by_cases hlt : j < n
    · obtain ⟨x, hx⟩ : ∃ x, (sidesA t)[j]? = some x := ⟨_, List.getElem?_eq_getElem (by rw [unhide HN]; exact hlt)⟩
      obtain ⟨g, bx, rfl, hg1, hg2, hcx, hnx⟩ := unhide HS j x hx
      have dx := (hbel.cell (p := ⟨g, j, none⟩) hg2).trans hcx
      have hxm : x ∈ sidesA t := List.mem_of_getElem? hx
      have HNX := hide (hnx.kept (Kept.of_below hbel))
      have hm : ((sidesA t).map clsA)[j]? = some (clsA x) := by rw [List.getElem?_map, hx]; rfl
      have CX := hide (unhide HC x hxm)
      clear hx hnx hcx hxm
      cases hcl : clsA x with
      | err q =>
        have HT : Hid (R = some q) := hide (by rw [unhide hh, dem_err (by rw [hm, hcl])])
        have HCL := hide hcl
        clear hh hm hcl
        go_wp2_with (go_at_call 104; refine (unhide CX _ _ (unhide HNX)).mono ?_; rintro e w1 ⟨hb1, h1⟩; rw [unhide HCL] at h1; subst h1; simp only [gaveUp])
        rw [unhide HT]
        exact ⟨rfl, below_any hbel hb1, rfl⟩
      | ok c =>
        have HT : Hid (R = dem want pl (((sidesA t).map clsA).drop (j + 1)) (fb && (c == want || c == 0))) := hide (by rw [unhide hh, dem_ok (by rw [hm, hcl])])
        have HCL := hide hcl
        clear hh hm hcl
        cases fb <;> cases hcw : (c == want) <;> cases hc0 : (c == 0)
        all_goals
          rw [hcw, hc0] at HT
          simp only [Bool.and_true, Bool.and_false, Bool.or_true, Bool.or_false, Bool.or_self, Bool.and_self] at HT
          go_wp2_with (go_at_call 104; refine (unhide CX _ _ (unhide HNX)).mono ?_; rintro e w1 ⟨hb1, h1⟩; rw [unhide HCL] at h1; subst h1)
          go_roundw
          case rel => exact ⟨j + 1, _, by omega, by go_num, rfl, HT, below_any hbel hb1⟩
          case measure => simp [intOf]; omega
    · have HT : Hid (R = if fb then none else some pl) := hide (by rw [unhide hh, dem_end (by rw [List.length_map, unhide HN]; omega)])
      clear hh
      cases fb
      · go_wp2_with fail
        rw [unhide HT]
        exact ⟨rfl, hbel, rfl⟩
      · go_wp2_with fail
        go_end0
        rw [unhide HT]
        exact ⟨hbel, rfl⟩
end

section
def joinV (op : Int) (x y : V) : V :=
  if op = 5 then notV x else if op = 6 then andV x y else if op = 7 then orV x y else if op = 8 then eqV x y else if op = 9 then notV (eqV x y)
  else if op = 12 then lessV y x else if op = 10 then lessV x y else if op = 13 then leV y x else if op = 11 then leV x y
  else if op = 14 then addV (iV 0) x else if op = 16 then addV x y else if op = 15 then subV (iV 0) x else if op = 17 then subV x y
  else if op = 18 then mulV x y else if op = 19 then divV x y else bV (x.kind == 0)

def JoinOk (op : Int) (x y r : V) : Prop := ∀ w : World, Calls Tryz.prog 110 #[.int .i64 op, vV x, vV y] w fun e w' => e = .returned (vV r) ∧ Below w.heap.size w w'

theorem then_exit {next : Act → World → Prop} {Q : Exit → Act → World → Prop} {n : Nat} {a : Act} {w : World} (h : Q (.exit n) a w) : Exit.then next Q (.exit n) a w := h
theorem inBlock_other {id n : Nat} {Q : Exit → Act → World → Prop} {a : Act} {w : World} (hne : (n == id) = false) (h : Q (.exit n) a w) : Exit.inBlock id Q (.exit n) a w := by
  have hn : ¬ n = id := by simpa using hne
  simp only [Exit.inBlock, hn, if_false]; exact h
theorem inBlock_same {id : Nat} {Q : Exit → Act → World → Prop} {a : Act} {w : World} (h : Q .normal a w) : Exit.inBlock id Q (.exit id) a w := by
  simp only [Exit.inBlock, if_true]; exact h
theorem then_normal {next : Act → World → Prop} {Q : Exit → Act → World → Prop} {a : Act} {w : World} (h : next a w) : Exit.then next Q .normal a w := h
theorem rng0 : Rng 0 := ⟨by decide, by decide⟩
end

end Go.Proofs.YtfkcaldjphakpaaGreatDoor
