/- in. like. -/
import Derived.Test.YtfkcaldjphakpaaGreatDoorA08
import Derived.Test.YtfkcaldjphakpaaGreatDoorQRd14
namespace Go.Proofs.YtfkcaldjphakpaaGreatDoor
open Go.RowKit

section
theorem info_string : (Tryz.prog.info? 9).map (fun i => (i.zero, i.size, i.bytes)) = some (some (.string ⟨#[]⟩), 1, 16) := by kernel_rfl

theorem ownsRow_slice {base e size n : Nat} {w : World} {v : Value} {xs : List Value} (h : w.ownsRow base e size v n xs) : ∃ a m c, v = .slice a m c := by
  rcases h.2 with ⟨rfl, _⟩ | ⟨g, cap, cur, rfl, _⟩
  · exact ⟨_, _, _, rfl⟩
  · exact ⟨_, _, _, rfl⟩

/-- What an append leaves. -/
theorem in_more {rb B : Nat} {s : ByteArray} {w wr w5 w6 : World} {sl2 : St} {v v' : Value} {ts : List (List UInt8)} {t : List UInt8} {o : Obj} {pv : Value}
    (hown' : w6.ownsRow (B + 1) 9 1 v' (ts.length + 1) (textCells ts ++ [.string (BS t)])) (hgrow : (w5.alloc o).grownBy w6 v.ownBlock) (hown : wr.ownsRow (B + 1) 9 1 v ts.length (textCells ts))
    (hr : RdAt w5 rb s sl2) (hlt : rb < w5.heap.size) (hk : Kept rb w wr) (hk5 : Kept rb wr w5) (hcr : wr.cell? ⟨B, 1, none⟩ = some pv) (hBr : B < wr.heap.size) (hbase : rb < B) (hB : w.heap.size ≤ B) :
    w6.ownsRow (B + 1) 9 1 v' (ts ++ [t]).length (textCells (ts ++ [t])) ∧ RdAt w6 rb s sl2 ∧ Kept rb w w6 ∧ w6.cell? ⟨B, 1, none⟩ = some pv ∧ B < w6.heap.size := by
  have hrow : ∀ k, v.ownBlock = some k → B + 1 ≤ k := fun k hk' => (hown.lt k hk').1
  have hz := hk5.size
  have hg := hgrow.size
  simp at hg
  refine ⟨by rw [List.length_append, textCells, List.map_append]; exact hown', (hr.allocd o hlt).grown hgrow (by simp; omega) (fun k hk' => by have := hrow k hk'; omega), ((hk.trans hk5).alloc o).grown hgrow (fun k hk' => by have := hrow k hk'; omega), ?_, by omega⟩
  refine hgrow.cell ?_ (fun e => by have := hrow B e.symm; omega)
  rw [World.cell?_alloc_past _ _ _ (by omega)]
  exact ((kcell hk5).1 B 1 hBr (by omega)).trans hcr

set_option maxHeartbeats 1000000 in
set_option maxRecDepth 100000 in
theorem in_reads (rb : Nat) (s : ByteArray) (op : Nat) (hs : s.size ≤ 200) : Tails 268 rb s op 11 (inRes s) := by
  intro w st l lv h ho hl h11
  have H := hide h
  have hlt := h.lt
  have hle1 := h.fine.lt (by rw [h11]; decide)
  have hf1 := h.fine.next
  have H11 := hide h11
  obtain ⟨lb, rfl⟩ := hl.ptr
  have HL := hide hl
  have RK : Hid (∀ w1 st1, Fine s st1 → Kept rb w w1 → RdAt w1 rb s st1 → Ready rb s w1 st1) := hide fun w1 st1 hf hk hr => h.kept hk hr hf
  have HF1 := hide hf1
  obtain ⟨i0, hi, hz0, hz1', hz2'⟩ := info_parts info_string
  clear h hl h11
  by_cases h26 : (stepSt s st).tk.kind = 26
  · rw [inRes, if_pos h26]
    have hle2 := hf1.lt (by rw [h26]; decide)
    have HF2 := hide hf1.next
    have H26 := hide h26
    clear h26
    by_cases h4 : (stepSt s (stepSt s st)).tk.kind = 4
    · rw [if_pos h4]
      have hle3 := hf1.next.lt (by rw [h4]; decide)
      have HF3 := hide hf1.next.next
      have H4 := hide h4
      have FS := fun b => field_str (stepSt s (stepSt s st)).tk.kind (stepSt s (stepSt s st)).place (stepSt s (stepSt s st)).tk.num b
      clear h4 hf1
      obtain ⟨R, hR⟩ : ∃ r, inLoop s l st.place (s.size + 1) [(stepSt s (stepSt s st)).tk.str] (stepSt s (stepSt s (stepSt s st))) = r := ⟨_, rfl⟩
      rw [hR]
      have HR := hide hR
      clear hR
      go_enter Tryz.func268, Tryz.ntmps268
      go_wp2_with (first | (go_at_call_of 56 (Value.int IntKind.i64 11); refine (take_ok rb s st 11 _ (unhide H).size (unhide H).fine.after (unhide H).at' hlt (unhide H).err (unhide H11)).mono ?_; rintro e w1 ⟨rfl, hr1, hk1⟩; have hz1 := hk1.size; have n1 : ¬ w1.heap.size = rb := (by omega); have hR1 := hide ((unhide RK _ _ (unhide HF1) hk1 hr1).allocd (.cells #[.int .i64 st.tk.kind, .int .i64 st.place, .int .i64 st.tk.num, .string (BS st.tk.str)] 91)); have hK1 := hide (hk1.alloc (.cells #[.int .i64 st.tk.kind, .int .i64 st.place, .int .i64 st.tk.num, .string (BS st.tk.str)] 91)); clear hr1 hk1; simp only [tkV]) | (go_at_call_of 56 (Value.int IntKind.i64 26); refine (take_ok rb s (stepSt s st) 26 _ (unhide hR1).size (unhide hR1).fine.after (unhide hR1).at' (unhide hR1).lt (unhide hR1).err (unhide H26)).mono ?_; rintro e w2 ⟨rfl, hr2, hk2⟩; have hz2 : w1.heap.size < w2.heap.size := (by have := hk2.size; simp at this; omega); have q2 : w2.cell? ⟨w1.heap.size, 1, none⟩ = some (.int .i64 st.place) := ((kcell hk2).1 _ 1 (by simp) n1).trans (by simp); have hK2 := hide ((unhide hK1).trans hk2); have hR2 := hide (unhide RK _ _ (unhide HF2) (unhide hK2) hr2); clear hr2 hk2; simp only [tkV]) | (go_at_call_of 56 (Value.int IntKind.i64 4); refine (take_ok rb s (stepSt s (stepSt s st)) 4 _ (unhide hR2).size (unhide hR2).fine.after (unhide hR2).at' (unhide hR2).lt (unhide hR2).err (unhide H4)).mono ?_; rintro e w3 ⟨rfl, hr3, hk3⟩; have hz3 : w1.heap.size < w3.heap.size := (by have := hk3.size; omega); have q3 : w3.cell? ⟨w1.heap.size, 1, none⟩ = some (.int .i64 st.place) := ((kcell hk3).1 _ 1 hz2 n1).trans q2; have hK3 := hide ((unhide hK2).trans hk3); have hR3 := hide (unhide RK _ _ (unhide HF3) (unhide hK3) hr3); clear hr3 hk3; simp only [tkV]))
      go_loopw [6] (fun v wr => ∃ (n : Nat) (ts : List (List UInt8)) (sl : St), Hid (R = inLoop s l st.place n ts sl) ∧ s.size < n + sl.place ∧ Hid (wr.ownsRow (w1.heap.size + 1) 9 1 v ts.length (textCells ts)) ∧ Hid (Ready rb s wr sl) ∧ sl.op = op ∧ ts.length ≤ sl.place ∧ st.place ≤ sl.place ∧ Hid (Kept rb w wr) ∧ wr.cell? ⟨w1.heap.size, 1, none⟩ = some (.int .i64 st.place) ∧ w1.heap.size < wr.heap.size) (fun v wr => s.size + 1 - plOf wr rb)
      case atStart => exact ⟨s.size + 1, _, _, hide (unhide HR).symm, by omega, hide (textRow _ _ (by omega) _), hide ((unhide hR3).allocd _), ho, by simp; omega, by omega, hide ((unhide hK3).alloc _), by rw [World.cell?_alloc_past _ _ _ (by first | omega | (simp; omega))]; exact q3, by simp; omega⟩
      case round =>
        obtain ⟨n, ts, sl, hR, hn, hown, hready, hopl, htl, hpl, hk, hcr, hBr⟩ := hrel
        have hfine := (unhide hready).fine
        have hfp := hfine.place
        obtain ⟨m, rfl⟩ : ∃ m, n = m + 1 := ⟨n - 1, by omega⟩
        have hltr := (unhide hready).lt
        have HPL := hide (plOf_at (unhide hready).at')
        have hbase : rb < w1.heap.size + 1 := by omega
        have HFS := hide hfine.next
        have HFS2 := hide hfine.next.next
        by_cases h28 : sl.tk.kind = 28
        · have H28 := hide h28
          have hlp := hfine.lt (by rw [h28]; decide)
          by_cases h4 : (stepSt s sl).tk.kind = 4
          · have H4 := hide h4
            have hlp2 := hfine.next.lt (by rw [h4]; decide)
            have hfp2 := hfine.next.next.place
            have HRR : Hid (R = inLoop s l st.place m (ts ++ [(stepSt s sl).tk.str]) (stepSt s (stepSt s sl))) := hide (by rw [unhide hR, inLoop_more h28 h4])
            have FS := fun b => field_str (stepSt s sl).tk.kind (stepSt s sl).place (stepSt s sl).tk.num b
            clear hR h28 h4 hfine
            go_wp2_with (first | (go_at_call 267; refine (skip_yes rb s sl 28 _ (unhide hready).size (unhide hready).fine.after (unhide hready).at' hltr (unhide hready).err (unhide H28)).mono ?_; rintro e w4 ⟨rfl, hr4, hk4⟩; have hk4 := hide hk4; have hR4 := hide ((unhide hready).kept (unhide hk4) hr4 (unhide HFS)); clear hr4) | (go_at_call_of 56 (Value.int IntKind.i64 4); refine (take_ok rb s (stepSt s sl) 4 _ (unhide hR4).size (unhide hR4).fine.after (unhide hR4).at' (unhide hR4).lt (unhide hR4).err (unhide H4)).mono ?_; rintro e w5 ⟨rfl, hr5, hk5⟩; have hk5 := hide ((unhide hk4).trans hk5); have hR5 := hide ((unhide hready).kept (unhide hk5) hr5 (unhide HFS2)); clear hr5; have hz5 := (unhide hk5).size; have hown5 := ownsRow_keptR (unhide hown) (unhide hk5) hbase; simp only [tkV]) | (at_builtin; refine wpList_append_own _ rfl _ _ 62 rfl (w1.heap.size + 1) 9 i0 (.string ⟨#[]⟩) 1 16 Tryz.underlying62 hi hz0 hz1' hz2' rfl (by decide) _ _ _ rfl (hown5.alloc _) ⟨w5.heap.size, 0, none⟩ 1 1 [.string (BS (stepSt s sl).tk.str)] rfl rfl ?c1 ?c2 ?c3 ?c4 ?c5 ?_))
            case c1 =>
              intro j u hj
              match j, hj with
              | 0, hj => simp at hj; subst hj; simp [Addr.add]
              | j + 1, hj => simp at hj
            case c2 => intro u hu; simp at hu; subst hu; rfl
            case c3 => unfold maxLen; omega
            case c4 => omega
            case c5 => simp; omega
            · intro v' w6 hown' hgrow _
              have G := in_more hown' hgrow (unhide hown) (unhide hR5).at' (unhide hR5).lt (unhide hk) (unhide hk5) hcr hBr (by omega) (by omega)
              clear hown' hgrow hown hown5
              have HPL2 := hide (plOf_at G.2.1)
              have G := hide G
              go_wp2_with fail
              go_roundw
              case rel => exact ⟨m, _, _, HRR, by omega, hide (unhide G).1, hide (unhide RK _ _ (unhide HFS2) (unhide G).2.2.1 (unhide G).2.1), hopl, by simp; omega, by omega, hide (unhide G).2.2.1, (unhide G).2.2.2.1, (unhide G).2.2.2.2⟩
              case measure => rw [unhide HPL, unhide HPL2]; omega
          · have H4 := hide h4
            have HRR : Hid (R = .err 2 (stepSt s sl).place) := hide (by rw [unhide hR, inLoop_bad h28 h4])
            clear hR h28 h4 hfine
            go_wp2_with (first | (go_at_call 267; refine (skip_yes rb s sl 28 _ (unhide hready).size (unhide hready).fine.after (unhide hready).at' hltr (unhide hready).err (unhide H28)).mono ?_; rintro e w4 ⟨rfl, hr4, hk4⟩; have hk4 := hide hk4; have hR4 := hide ((unhide hready).kept (unhide hk4) hr4 (unhide HFS)); clear hr4) | (go_at_call_of 56 (Value.int IntKind.i64 4); refine (take_no rb s (stepSt s sl) 4 _ (unhide hR4).at' (unhide hR4).lt (unhide H4)).mono ?_; rintro e w5 ⟨rfl, hk5⟩; simp only [gaveUp]))
            rw [unhide HRR]
            exact ⟨rfl, ((unhide hk).trans (unhide hk4)).trans hk5, rfl⟩
        · have H28 := hide h28
          by_cases h27 : sl.tk.kind = 27
          · have H27 := hide h27
            have hlp := hfine.lt (by rw [h27]; decide)
            have HRR : Hid (R = .ok (.un ⟨21, st.place, 0, [], [], ts⟩ l) (stepSt s sl)) := hide (by rw [unhide hR, inLoop_end h28 h27])
            clear hR h28 h27 hfine
            obtain ⟨va, vn, vc, rfl⟩ := ownsRow_slice (unhide hown)
            go_wp2_with (first | (go_at_call 267; refine (skip_no rb s sl 28 _ (unhide hready).at' (unhide H28)).mono ?_; rintro e w4 ⟨rfl, rfl⟩) | (go_at_call_of 56 (Value.int IntKind.i64 27); refine (take_ok rb s sl 27 _ (unhide hready).size (unhide hready).fine.after (unhide hready).at' hltr (unhide hready).err (unhide H27)).mono ?_; rintro e w5 ⟨rfl, hr5, hk5⟩; have q5 : w5.cell? ⟨w1.heap.size, 1, none⟩ = some (.int .i64 st.place) := ((kcell hk5).1 _ 1 hBr n1).trans hcr; have hz5 := hk5.size; have hk5 := hide hk5; have hr5 := hide hr5; simp only [tkV]))
            go_ret
            rw [unhide HRR]
            have hK5 := (unhide hk).trans (unhide hk5)
            have hlt5 : rb < w5.heap.size := by omega
            refine ⟨(hK5.alloc _).alloc _, _, rfl, IsNode.texted ((unhide HL).kept hK5) hlt5 ((TextsAt.of_row (unhide hown) hbase).kept (unhide hk5)) 21 st.place [] [], ((unhide hr5).allocd _ hlt5).allocd _ (by simp; omega), unhide HFS, hopl, by omega⟩
          · have H27 := hide h27
            have HRR : Hid (R = .err 2 sl.place) := hide (by rw [unhide hR, inLoop_open h28 h27])
            clear hR h28 h27 hfine
            go_wp2_with (first | (go_at_call 267; refine (skip_no rb s sl 28 _ (unhide hready).at' (unhide H28)).mono ?_; rintro e w4 ⟨rfl, rfl⟩) | (go_at_call_of 56 (Value.int IntKind.i64 27); refine (take_no rb s sl 27 _ (unhide hready).at' hltr (unhide H27)).mono ?_; rintro e w5 ⟨rfl, hk5⟩; simp only [gaveUp]))
            rw [unhide HRR]
            exact ⟨rfl, (unhide hk).trans hk5, rfl⟩
    · rw [if_neg h4]
      have H4 := hide h4
      clear h4 hf1
      go_enter Tryz.func268, Tryz.ntmps268
      go_wp2_with (first | (go_at_call_of 56 (Value.int IntKind.i64 11); refine (take_ok rb s st 11 _ (unhide H).size (unhide H).fine.after (unhide H).at' hlt (unhide H).err (unhide H11)).mono ?_; rintro e w1 ⟨rfl, hr1, hk1⟩; have hz1 := hk1.size; have n1 : ¬ w1.heap.size = rb := (by omega); have hR1 := hide ((unhide RK _ _ (unhide HF1) hk1 hr1).allocd (.cells #[.int .i64 st.tk.kind, .int .i64 st.place, .int .i64 st.tk.num, .string (BS st.tk.str)] 91)); have hK1 := hide (hk1.alloc (.cells #[.int .i64 st.tk.kind, .int .i64 st.place, .int .i64 st.tk.num, .string (BS st.tk.str)] 91)); clear hr1 hk1; simp only [tkV]) | (go_at_call_of 56 (Value.int IntKind.i64 26); refine (take_ok rb s (stepSt s st) 26 _ (unhide hR1).size (unhide hR1).fine.after (unhide hR1).at' (unhide hR1).lt (unhide hR1).err (unhide H26)).mono ?_; rintro e w2 ⟨rfl, hr2, hk2⟩; have hz2 : w1.heap.size < w2.heap.size := (by have := hk2.size; simp at this; omega); have q2 : w2.cell? ⟨w1.heap.size, 1, none⟩ = some (.int .i64 st.place) := ((kcell hk2).1 _ 1 (by simp) n1).trans (by simp); have hK2 := hide ((unhide hK1).trans hk2); have hR2 := hide (unhide RK _ _ (unhide HF2) (unhide hK2) hr2); clear hr2 hk2; simp only [tkV]) | (go_at_call_of 56 (Value.int IntKind.i64 4); refine (take_no rb s (stepSt s (stepSt s st)) 4 _ (unhide hR2).at' (unhide hR2).lt (unhide H4)).mono ?_; rintro e w3 ⟨rfl, hk3⟩; simp only [gaveUp]))
      exact ⟨rfl, (unhide hK2).trans hk3, rfl⟩
  · rw [inRes, if_neg h26]
    have H26 := hide h26
    clear h26 hf1
    go_enter Tryz.func268, Tryz.ntmps268
    go_wp2_with (first | (go_at_call_of 56 (Value.int IntKind.i64 11); refine (take_ok rb s st 11 _ (unhide H).size (unhide H).fine.after (unhide H).at' hlt (unhide H).err (unhide H11)).mono ?_; rintro e w1 ⟨rfl, hr1, hk1⟩; have hz1 := hk1.size; have n1 : ¬ w1.heap.size = rb := (by omega); have hR1 := hide ((unhide RK _ _ (unhide HF1) hk1 hr1).allocd (.cells #[.int .i64 st.tk.kind, .int .i64 st.place, .int .i64 st.tk.num, .string (BS st.tk.str)] 91)); have hK1 := hide (hk1.alloc (.cells #[.int .i64 st.tk.kind, .int .i64 st.place, .int .i64 st.tk.num, .string (BS st.tk.str)] 91)); clear hr1 hk1; simp only [tkV]) | (go_at_call_of 56 (Value.int IntKind.i64 26); refine (take_no rb s (stepSt s st) 26 _ (unhide hR1).at' (unhide hR1).lt (unhide H26)).mono ?_; rintro e w2 ⟨rfl, hk2⟩; simp only [gaveUp]))
    exact ⟨rfl, (unhide hK1).trans hk2, rfl⟩
end

section
def likeRes (s : ByteArray) (l : Ast) (st : St) : Res :=
  if (stepSt s st).tk.kind = 4 then
    (if (stepSt s (stepSt s st)).tk.kind = 13 then
      (match escRes s (stepSt s st).tk (stepSt s st).place (stepSt s (stepSt s (stepSt s st))) with
        | .ok str st' => .ok (.un ⟨22, st.place, 0, (stepSt s st).tk.str, str, []⟩ l) st'
        | .err pl => .err 2 pl)
    else .ok (.un ⟨22, st.place, 0, (stepSt s st).tk.str, [], []⟩ l) (stepSt s (stepSt s st)))
  else .err 2 (stepSt s st).place

theorem escRes_ok {s : ByteArray} {ft : Tk} {fp : Nat} {st : St} {str : List UInt8} {st' : St} (h : escRes s ft fp st = .ok str st') : st.tk.kind = 4 ∧ st' = stepSt s st := by
  unfold escRes at h
  split at h
  · rename_i h4
    split at h
    · split at h
      · injection h with _ h2; exact ⟨h4, h2.symm⟩
      · cases h
    · cases h
  · cases h

set_option maxHeartbeats 1000000 in
set_option maxRecDepth 100000 in
theorem like_reads (rb : Nat) (s : ByteArray) (op : Nat) (hs : s.size ≤ 200) : Tails 269 rb s op 12 (likeRes s) := by
  intro w st l lv h ho hl h12
  have H := hide h
  have hlt := h.lt
  have hf1 := h.fine.next
  have hp1 := h.fine.le (by rw [h12]; decide)
  have H12 := hide h12
  obtain ⟨lb, rfl⟩ := hl.ptr
  have HL := hide hl
  have RK : Hid (∀ w1 st1, Fine s st1 → Kept rb w w1 → RdAt w1 rb s st1 → Ready rb s w1 st1) := hide fun w1 st1 hf hk hr => h.kept hk hr hf
  have hl1 : (stepSt s st).tk.str.length ≤ 200 := Nat.le_trans (stepSt_len s st) hs
  have ho1 : (stepSt s st).op = op := ho
  unfold likeRes
  clear h hl h12
  obtain ⟨st1, h1⟩ : ∃ x, stepSt s st = x := ⟨_, rfl⟩
  have S1 := hide h1
  rw [h1] at hf1 hl1 ho1 hp1 ⊢
  clear h1
  have HF1 := hide hf1
  by_cases h4 : st1.tk.kind = 4
  · rw [if_pos h4]
    have H4 := hide h4
    have hf2 := hf1.next
    have hp2 := hf1.le (by rw [h4]; decide)
    have ho2 : (stepSt s st1).op = op := ho1
    obtain ⟨st2, h2⟩ : ∃ x, stepSt s st1 = x := ⟨_, rfl⟩
    have S2 := hide h2
    rw [h2] at hf2 ho2 hp2 ⊢
    have HF2 := hide hf2
    clear h4 h2 hf1
    by_cases h13 : st2.tk.kind = 13
    · rw [if_pos h13]
      have H13 := hide h13
      have hf3 := hf2.next
      have hp3 := hf2.le (by rw [h13]; decide)
      have ho3 : (stepSt s st2).op = op := ho2
      obtain ⟨st3, h3⟩ : ∃ x, stepSt s st2 = x := ⟨_, rfl⟩
      have S3 := hide h3
      rw [h3] at hf3 ho3 hp3 ⊢
      have HF3 := hide hf3
      clear h13 h3 hf2
      cases he : escRes s st1.tk st1.place st3 with
      | ok str st4 =>
        obtain ⟨hk4, h4'⟩ := escRes_ok he
        have hf4 := hf3.next
        have hp4 := hf3.le (by rw [hk4]; decide)
        have ho4 : (stepSt s st3).op = op := ho3
        rw [← h4'] at hf4 ho4 hp4
        have HE := hide he
        have HF4 := hide hf4
        clear he hf3 hf4 hk4 h4'
        go_enter Tryz.func269, Tryz.ntmps269
        go_wp2_with (first | (go_at_call_of 56 (Value.int IntKind.i64 12); refine (take_ok rb s st 12 _ (unhide H).size (unhide H).fine.after (unhide H).at' hlt (unhide H).err (unhide H12)).mono ?_; rw [unhide S1]; rintro e w1 ⟨rfl, hr1, hk1⟩; have hz1 := hk1.size; have n1 : ¬ w1.heap.size = rb := (by omega); have hR1 := hide ((unhide RK _ _ (unhide HF1) hk1 hr1).allocd (.cells #[.int .i64 st.tk.kind, .int .i64 st.place, .int .i64 st.tk.num, .string (BS st.tk.str)] 91)); have hK1 := hide (hk1.alloc (.cells #[.int .i64 st.tk.kind, .int .i64 st.place, .int .i64 st.tk.num, .string (BS st.tk.str)] 91)); clear hr1 hk1; simp only [tkV]) | (go_at_call_of 56 (Value.int IntKind.i64 4); refine (take_ok rb s st1 4 _ (unhide hR1).size (unhide hR1).fine.after (unhide hR1).at' (unhide hR1).lt (unhide hR1).err (unhide H4)).mono ?_; rw [unhide S2]; rintro e w2 ⟨rfl, hr2, hk2⟩; have hz2 : w1.heap.size < w2.heap.size := (by have := hk2.size; simp at this; omega); have n2 : ¬ w2.heap.size = rb := (by omega); have q2 : (w2.alloc (.cells #[.int .i64 st1.tk.kind, .int .i64 st1.place, .int .i64 st1.tk.num, .string (BS st1.tk.str)] 91)).cell? ⟨w1.heap.size, 1, none⟩ = some (.int .i64 st.place) := (by rw [World.cell?_alloc_past _ _ _ (by first | omega | (simp; omega))]; exact ((kcell hk2).1 _ 1 (by simp) n1).trans (by simp)); have hK2 := hide (((unhide hK1).trans hk2).alloc (.cells #[.int .i64 st1.tk.kind, .int .i64 st1.place, .int .i64 st1.tk.num, .string (BS st1.tk.str)] 91)); have hR2 := hide ((unhide RK _ _ (unhide HF2) ((unhide hK1).trans hk2) hr2).allocd (.cells #[.int .i64 st1.tk.kind, .int .i64 st1.place, .int .i64 st1.tk.num, .string (BS st1.tk.str)] 91)); clear hr2 hk2; simp only [tkV]) | (go_at_call 267; refine (skip_yes rb s st2 13 _ (unhide hR2).size (unhide hR2).fine.after (unhide hR2).at' (unhide hR2).lt (unhide hR2).err (unhide H13)).mono ?_; rw [unhide S3]; rintro e w3 ⟨rfl, hr3, hk3⟩; have hz3 : w2.heap.size < w3.heap.size := (by have := hk3.size; simp at this; omega); obtain ⟨kc, kf⟩ := kcell hk3; have r0 : w3.cell? ⟨w2.heap.size, 0, none⟩ = some (.int .i64 st1.tk.kind) := (kc _ 0 (by simp) n2).trans (by simp); have r1 : w3.cell? ⟨w2.heap.size, 1, none⟩ = some (.int .i64 st1.place) := (kc _ 1 (by simp) n2).trans (by simp); have r2 : w3.cell? ⟨w2.heap.size, 2, none⟩ = some (.int .i64 st1.tk.num) := (kc _ 2 (by simp) n2).trans (by simp); have r3 : w3.cell? ⟨w2.heap.size, 3, none⟩ = some (.string (BS st1.tk.str)) := (kc _ 3 (by simp) n2).trans (by simp); have q3 : w3.cell? ⟨w1.heap.size, 1, none⟩ = some (.int .i64 st.place) := (kc _ 1 (by simp; omega) n1).trans q2; have hK3 := hide ((unhide hK2).trans hk3); have hR3 := hide (unhide RK _ _ (unhide HF3) (unhide hK3) hr3); clear hr3 hk3 kc kf) | (go_at_call 302; refine (escape_any rb s st1.tk st1.place hl1 _ st3 (unhide hR3)).mono ?_; rintro e w4 ⟨hk4, h4⟩; rw [unhide HE] at h4; obtain ⟨rfl, hr4⟩ := h4; have hz4 : w2.heap.size < w4.heap.size := (by have := hk4.size; omega); obtain ⟨kc, kf⟩ := kcell hk4; have u3 : w4.cell? ⟨w2.heap.size, 3, none⟩ = some (.string (BS st1.tk.str)) := (kc _ 3 hz3 n2).trans r3; have u1 : w4.cell? ⟨w1.heap.size, 1, none⟩ = some (.int .i64 st.place) := (kc _ 1 (by omega) n1).trans q3; have hK4 := hide ((unhide hK3).trans hk4); have hr4 := hide hr4; clear hk4 kc kf))
        go_ret
        have hlt4 : rb < w4.heap.size := Nat.lt_of_lt_of_le hlt (unhide hK4).size
        refine ⟨((unhide hK4).alloc _).alloc _, _, rfl, IsNode.texted ((unhide HL).kept (unhide hK4)) hlt4 (.inl ⟨rfl, rfl⟩) 22 st.place _ _, ((unhide hr4).allocd _ hlt4).allocd _ (by simp; omega), unhide HF4, ho4, by omega⟩
      | err pl =>
        have HE := hide he
        clear he hf3
        go_enter Tryz.func269, Tryz.ntmps269
        go_wp2_with (first | (go_at_call_of 56 (Value.int IntKind.i64 12); refine (take_ok rb s st 12 _ (unhide H).size (unhide H).fine.after (unhide H).at' hlt (unhide H).err (unhide H12)).mono ?_; rw [unhide S1]; rintro e w1 ⟨rfl, hr1, hk1⟩; have hz1 := hk1.size; have n1 : ¬ w1.heap.size = rb := (by omega); have hR1 := hide ((unhide RK _ _ (unhide HF1) hk1 hr1).allocd (.cells #[.int .i64 st.tk.kind, .int .i64 st.place, .int .i64 st.tk.num, .string (BS st.tk.str)] 91)); have hK1 := hide (hk1.alloc (.cells #[.int .i64 st.tk.kind, .int .i64 st.place, .int .i64 st.tk.num, .string (BS st.tk.str)] 91)); clear hr1 hk1; simp only [tkV]) | (go_at_call_of 56 (Value.int IntKind.i64 4); refine (take_ok rb s st1 4 _ (unhide hR1).size (unhide hR1).fine.after (unhide hR1).at' (unhide hR1).lt (unhide hR1).err (unhide H4)).mono ?_; rw [unhide S2]; rintro e w2 ⟨rfl, hr2, hk2⟩; have hz2 : w1.heap.size < w2.heap.size := (by have := hk2.size; simp at this; omega); have n2 : ¬ w2.heap.size = rb := (by omega); have q2 : (w2.alloc (.cells #[.int .i64 st1.tk.kind, .int .i64 st1.place, .int .i64 st1.tk.num, .string (BS st1.tk.str)] 91)).cell? ⟨w1.heap.size, 1, none⟩ = some (.int .i64 st.place) := (by rw [World.cell?_alloc_past _ _ _ (by first | omega | (simp; omega))]; exact ((kcell hk2).1 _ 1 (by simp) n1).trans (by simp)); have hK2 := hide (((unhide hK1).trans hk2).alloc (.cells #[.int .i64 st1.tk.kind, .int .i64 st1.place, .int .i64 st1.tk.num, .string (BS st1.tk.str)] 91)); have hR2 := hide ((unhide RK _ _ (unhide HF2) ((unhide hK1).trans hk2) hr2).allocd (.cells #[.int .i64 st1.tk.kind, .int .i64 st1.place, .int .i64 st1.tk.num, .string (BS st1.tk.str)] 91)); clear hr2 hk2; simp only [tkV]) | (go_at_call 267; refine (skip_yes rb s st2 13 _ (unhide hR2).size (unhide hR2).fine.after (unhide hR2).at' (unhide hR2).lt (unhide hR2).err (unhide H13)).mono ?_; rw [unhide S3]; rintro e w3 ⟨rfl, hr3, hk3⟩; have hz3 : w2.heap.size < w3.heap.size := (by have := hk3.size; simp at this; omega); obtain ⟨kc, kf⟩ := kcell hk3; have r0 : w3.cell? ⟨w2.heap.size, 0, none⟩ = some (.int .i64 st1.tk.kind) := (kc _ 0 (by simp) n2).trans (by simp); have r1 : w3.cell? ⟨w2.heap.size, 1, none⟩ = some (.int .i64 st1.place) := (kc _ 1 (by simp) n2).trans (by simp); have r2 : w3.cell? ⟨w2.heap.size, 2, none⟩ = some (.int .i64 st1.tk.num) := (kc _ 2 (by simp) n2).trans (by simp); have r3 : w3.cell? ⟨w2.heap.size, 3, none⟩ = some (.string (BS st1.tk.str)) := (kc _ 3 (by simp) n2).trans (by simp); have q3 : w3.cell? ⟨w1.heap.size, 1, none⟩ = some (.int .i64 st.place) := (kc _ 1 (by simp; omega) n1).trans q2; have hK3 := hide ((unhide hK2).trans hk3); have hR3 := hide (unhide RK _ _ (unhide HF3) (unhide hK3) hr3); clear hr3 hk3 kc kf) | (go_at_call 302; refine (escape_any rb s st1.tk st1.place hl1 _ st3 (unhide hR3)).mono ?_; rintro e w4 ⟨hk4, h4⟩; rw [unhide HE] at h4; subst h4; simp only [gaveUp]))
        exact ⟨rfl, (unhide hK3).trans hk4, rfl⟩
    · rw [if_neg h13]
      have H13 := hide h13
      clear h13 hf2
      go_enter Tryz.func269, Tryz.ntmps269
      go_wp2_with (first | (go_at_call_of 56 (Value.int IntKind.i64 12); refine (take_ok rb s st 12 _ (unhide H).size (unhide H).fine.after (unhide H).at' hlt (unhide H).err (unhide H12)).mono ?_; rw [unhide S1]; rintro e w1 ⟨rfl, hr1, hk1⟩; have hz1 := hk1.size; have n1 : ¬ w1.heap.size = rb := (by omega); have hR1 := hide ((unhide RK _ _ (unhide HF1) hk1 hr1).allocd (.cells #[.int .i64 st.tk.kind, .int .i64 st.place, .int .i64 st.tk.num, .string (BS st.tk.str)] 91)); have hK1 := hide (hk1.alloc (.cells #[.int .i64 st.tk.kind, .int .i64 st.place, .int .i64 st.tk.num, .string (BS st.tk.str)] 91)); clear hr1 hk1; simp only [tkV]) | (go_at_call_of 56 (Value.int IntKind.i64 4); refine (take_ok rb s st1 4 _ (unhide hR1).size (unhide hR1).fine.after (unhide hR1).at' (unhide hR1).lt (unhide hR1).err (unhide H4)).mono ?_; rw [unhide S2]; rintro e w2 ⟨rfl, hr2, hk2⟩; have hz2 : w1.heap.size < w2.heap.size := (by have := hk2.size; simp at this; omega); have n2 : ¬ w2.heap.size = rb := (by omega); have q2 : (w2.alloc (.cells #[.int .i64 st1.tk.kind, .int .i64 st1.place, .int .i64 st1.tk.num, .string (BS st1.tk.str)] 91)).cell? ⟨w1.heap.size, 1, none⟩ = some (.int .i64 st.place) := (by rw [World.cell?_alloc_past _ _ _ (by first | omega | (simp; omega))]; exact ((kcell hk2).1 _ 1 (by simp) n1).trans (by simp)); have hK2 := hide (((unhide hK1).trans hk2).alloc (.cells #[.int .i64 st1.tk.kind, .int .i64 st1.place, .int .i64 st1.tk.num, .string (BS st1.tk.str)] 91)); have hR2 := hide ((unhide RK _ _ (unhide HF2) ((unhide hK1).trans hk2) hr2).allocd (.cells #[.int .i64 st1.tk.kind, .int .i64 st1.place, .int .i64 st1.tk.num, .string (BS st1.tk.str)] 91)); clear hr2 hk2; simp only [tkV]) | (go_at_call 267; refine (skip_no rb s st2 13 _ (unhide hR2).at' (unhide H13)).mono ?_; rintro e w3 ⟨rfl, rfl⟩))
      go_ret
      have hK := unhide hK2
      have hlt4 := (unhide hR2).lt
      have hnode := IsNode.texted (ts := []) ((unhide HL).kept hK) hlt4 (.inl ⟨rfl, rfl⟩) 22 st.place st1.tk.str []
      refine ⟨(hK.alloc _).alloc _, _, rfl, by simpa [BS] using hnode, ((unhide hR2).at'.allocd _ hlt4).allocd _ (by simp; omega), unhide HF2, ho2, by omega⟩
  · rw [if_neg h4]
    have H4 := hide h4
    clear h4 hf1
    go_enter Tryz.func269, Tryz.ntmps269
    go_wp2_with (first | (go_at_call_of 56 (Value.int IntKind.i64 12); refine (take_ok rb s st 12 _ (unhide H).size (unhide H).fine.after (unhide H).at' hlt (unhide H).err (unhide H12)).mono ?_; rw [unhide S1]; rintro e w1 ⟨rfl, hr1, hk1⟩; have hz1 := hk1.size; have n1 : ¬ w1.heap.size = rb := (by omega); have hR1 := hide ((unhide RK _ _ (unhide HF1) hk1 hr1).allocd (.cells #[.int .i64 st.tk.kind, .int .i64 st.place, .int .i64 st.tk.num, .string (BS st.tk.str)] 91)); have hK1 := hide (hk1.alloc (.cells #[.int .i64 st.tk.kind, .int .i64 st.place, .int .i64 st.tk.num, .string (BS st.tk.str)] 91)); clear hr1 hk1; simp only [tkV]) | (go_at_call_of 56 (Value.int IntKind.i64 4); refine (take_no rb s st1 4 _ (unhide hR1).at' (unhide hR1).lt (unhide H4)).mono ?_; rintro e w2 ⟨rfl, hk2⟩; simp only [gaveUp]))
    exact ⟨rfl, (unhide hK1).trans hk2, rfl⟩
end

end Go.Proofs.YtfkcaldjphakpaaGreatDoor
