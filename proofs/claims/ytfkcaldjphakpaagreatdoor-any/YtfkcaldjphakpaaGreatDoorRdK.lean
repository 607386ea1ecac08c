/- escape. like. -/
import Derived.Test.YtfkcaldjphakpaaGreatDoorRdI
import Derived.Test.YtfkcaldjphakpaaGreatDoorPatA
import Derived.Test.YtfkcaldjphakpaaGreatDoorRdG
namespace Go.Proofs.YtfkcaldjphakpaaGreatDoor
open Go.RowKit

section
theorem quotF_len : (l : List UInt8) → ∀ r, quotF l = some r → r.1.length ≤ l.length
  | [], r, h => by simp [quotF] at h
  | [c], r, h => by
    simp only [quotF] at h; split at h
    · injection h with h; subst h; simp
    · cases h
  | c :: d :: t, r, h => by
    simp only [quotF] at h
    split at h
    · split at h
      · cases hq : quotF t with
        | none => rw [hq] at h; cases h
        | some q => rw [hq] at h; injection h with h; subst h; have := quotF_len t q hq; simp; omega
      · injection h with h; subst h; simp
    · cases hq : quotF (d :: t) with
      | none => rw [hq] at h; cases h
      | some q => rw [hq] at h; injection h with h; subst h; have := quotF_len (d :: t) q hq; simp at *; omega

theorem firstTk_len (l : List UInt8) : (firstTk l).str.length ≤ l.length := by
  unfold firstTk
  split
  · simp [plainTk]
  · rename_i c t
    split
    · unfold wordTk; split
      · simp only [List.length_take]; omega
      · simp [plainTk]
    split
    · unfold numTk; split <;> simp [plainTk]
    split
    · unfold quotTk; split
      · rename_i r hr
        have := quotF_len _ _ hr
        rw [List.length_drop] at this
        show r.1.length ≤ _
        omega
      · simp [plainTk]
    · simp [plainTk]

theorem stepSt_len (s : ByteArray) (st : St) : (stepSt s st).tk.str.length ≤ s.size := by
  show (nextTk s.data.toList st.after).str.length ≤ s.size
  unfold nextTk
  split
  · have := firstTk_len (s.data.toList.drop (nextAt s.data.toList st.after))
    rw [List.length_drop, data_len] at this
    omega
  · simp [plainTk]

/-- What comes of reading what stands behind ESCAPE: ft is the pattern's token, fp its place. -/
inductive ERes where
  | ok (str : List UInt8) (st : St)
  | err (pl : Int)

def escRes (s : ByteArray) (ft : Tk) (fp : Nat) (st : St) : ERes :=
  if st.tk.kind = 4 then (if st.tk.str.length = 1 then (if (cutL st.tk.str ft.str).isSome = true then .ok st.tk.str (stepSt s st) else .err fp) else .err st.place) else .err st.place

def EscEnds (rb : Nat) (s : ByteArray) (w : World) (r : ERes) (e : Ending) (w' : World) : Prop :=
  Kept rb w w' ∧ match r with
  | .ok str st => e = .returned (.string (BS str)) ∧ RdAt w' rb s st
  | .err pl => e = gaveUp 2 pl

set_option maxHeartbeats 1000000 in
set_option maxRecDepth 100000 in
theorem escape_any (rb : Nat) (s : ByteArray) (ft : Tk) (fp : Nat) (hft : ft.str.length ≤ 200) (w : World) (st : St) (h : Ready rb s w st) :
    Calls Tryz.prog 302 #[.pointer (some ⟨rb, 0, none⟩), tkV ft fp] w (EscEnds rb s w (escRes s ft fp st)) := by
  have H := hide h
  have HA := hide (h.allocd (.cells #[.int .i64 ft.kind, .int .i64 fp, .int .i64 ft.num, .string (BS ft.str)] 91))
  have hlt := h.lt
  have n0 : ¬ w.heap.size = rb := by omega
  have hz := BS_size st.tk.str
  have hpz : (BS ft.str).size ≤ 200 := by rw [BS_size]; exact hft
  clear h
  simp only [tkV]
  by_cases h4 : st.tk.kind = 4
  · rw [escRes, if_pos h4]
    have H4 := hide h4
    clear h4
    by_cases h1 : st.tk.str.length = 1
    · rw [if_pos h1]
      have hz1 : (BS st.tk.str).size = 1 := by omega
      have hzb : (((BS st.tk.str).size : Int) != 1) = false := by rw [hz1]; rfl
      clear hz h1 hz1
      have VAL := hide (fun w => valid_any (BS ft.str) (BS st.tk.str) hpz w)
      cases hv : (cutL st.tk.str ft.str).isSome with
      | true =>
        have HV : Hid ((cutL (BS st.tk.str).data.toList (BS ft.str).data.toList).isSome = true) := hide (by rw [BS_data, BS_data]; exact hv)
        rw [if_pos rfl]
        clear hv
        go_enter Tryz.func302, Tryz.ntmps302
        go_wp2_with (first | (go_at_call 56; refine (take_ok rb s st 4 _ (unhide H).size (unhide H).fine.after (unhide HA).at' (unhide HA).lt (unhide HA).err (unhide H4)).mono ?_; rintro e w1 ⟨rfl, hr1, hk1⟩; have hz1 : w.heap.size < w1.heap.size := (by have := hk1.size; simp at this; omega); have n1 : ¬ w1.heap.size = rb := (by omega); have p1 : w1.cell? ⟨w.heap.size, 1, none⟩ = some (.int .i64 fp) := ((kcell hk1).1 _ 1 (by simp) n0).trans (by simp); have p3 : w1.cell? ⟨w.heap.size, 3, none⟩ = some (.string (BS ft.str)) := ((kcell hk1).1 _ 3 (by simp) n0).trans (by simp); have hK1 := hide ((((Kept.refl rb w).alloc (.cells #[.int .i64 ft.kind, .int .i64 fp, .int .i64 ft.num, .string (BS ft.str)] 91)).trans hk1).alloc (.cells #[.int .i64 st.tk.kind, .int .i64 st.place, .int .i64 st.tk.num, .string (BS st.tk.str)] 91)); have hR1 := hide (hr1.allocd (.cells #[.int .i64 st.tk.kind, .int .i64 st.place, .int .i64 st.tk.num, .string (BS st.tk.str)] 91) (by omega)); clear hr1 hk1; simp only [tkV]) | (go_at_call 332; go_loud (refine (unhide VAL _).mono ?_; rintro e w2 ⟨rfl, hb2⟩; rw [unhide HV]; obtain ⟨hc, hf⟩ := bcell hb2; have z2 := hb2.size; have q1 : w2.cell? ⟨w.heap.size, 1, none⟩ = some (.int .i64 fp) := (hc _ 1 (by simp; omega)).trans (by rw [World.cell?_alloc_past _ _ _ (by first | omega | (simp; omega))]; exact p1); have q3 : w2.cell? ⟨w1.heap.size, 3, none⟩ = some (.string (BS st.tk.str)) := (hc _ 3 (by simp)).trans (by simp); have hb2 := hide hb2; clear hc hf)))
        go_ret
        exact ⟨(unhide hK1).trans (Kept.of_below (unhide hb2)), rfl, (unhide hR1).below (unhide hb2) (by simp; omega)⟩
      | false =>
        have HV : Hid ((cutL (BS st.tk.str).data.toList (BS ft.str).data.toList).isSome = false) := hide (by rw [BS_data, BS_data]; exact hv)
        rw [if_neg (by simp)]
        clear hv
        go_enter Tryz.func302, Tryz.ntmps302
        go_wp2_with (first | (go_at_call 56; refine (take_ok rb s st 4 _ (unhide H).size (unhide H).fine.after (unhide HA).at' (unhide HA).lt (unhide HA).err (unhide H4)).mono ?_; rintro e w1 ⟨rfl, hr1, hk1⟩; have hz1 : w.heap.size < w1.heap.size := (by have := hk1.size; simp at this; omega); have n1 : ¬ w1.heap.size = rb := (by omega); have p1 : w1.cell? ⟨w.heap.size, 1, none⟩ = some (.int .i64 fp) := ((kcell hk1).1 _ 1 (by simp) n0).trans (by simp); have p3 : w1.cell? ⟨w.heap.size, 3, none⟩ = some (.string (BS ft.str)) := ((kcell hk1).1 _ 3 (by simp) n0).trans (by simp); have hK1 := hide ((((Kept.refl rb w).alloc (.cells #[.int .i64 ft.kind, .int .i64 fp, .int .i64 ft.num, .string (BS ft.str)] 91)).trans hk1).alloc (.cells #[.int .i64 st.tk.kind, .int .i64 st.place, .int .i64 st.tk.num, .string (BS st.tk.str)] 91)); have hR1 := hide (hr1.allocd (.cells #[.int .i64 st.tk.kind, .int .i64 st.place, .int .i64 st.tk.num, .string (BS st.tk.str)] 91) (by omega)); clear hr1 hk1; simp only [tkV]) | (go_at_call 332; go_loud (refine (unhide VAL _).mono ?_; rintro e w2 ⟨rfl, hb2⟩; rw [unhide HV]; obtain ⟨hc, hf⟩ := bcell hb2; have z2 := hb2.size; have q1 : w2.cell? ⟨w.heap.size, 1, none⟩ = some (.int .i64 fp) := (hc _ 1 (by simp; omega)).trans (by rw [World.cell?_alloc_past _ _ _ (by first | omega | (simp; omega))]; exact p1); have q3 : w2.cell? ⟨w1.heap.size, 3, none⟩ = some (.string (BS st.tk.str)) := (hc _ 3 (by simp)).trans (by simp); have hb2 := hide hb2; clear hc hf)) | (go_at_call 103; refine (refuse_any _ _ _).mono ?_; rintro e w2 ⟨rfl, rfl⟩; simp only [gaveUp]))
        exact ⟨rfl, (unhide hK1).trans (Kept.of_below (unhide hb2)), rfl⟩
    · rw [if_neg h1]
      have hzb : (((BS st.tk.str).size : Int) != 1) = true := bne_iff_ne.2 (by rw [hz]; omega)
      clear hz h1
      go_enter Tryz.func302, Tryz.ntmps302
      go_wp2_with (first | (go_at_call 56; refine (take_ok rb s st 4 _ (unhide H).size (unhide H).fine.after (unhide HA).at' (unhide HA).lt (unhide HA).err (unhide H4)).mono ?_; rintro e w1 ⟨rfl, hr1, hk1⟩; have hz1 : w.heap.size < w1.heap.size := (by have := hk1.size; simp at this; omega); have n1 : ¬ w1.heap.size = rb := (by omega); have p1 : w1.cell? ⟨w.heap.size, 1, none⟩ = some (.int .i64 fp) := ((kcell hk1).1 _ 1 (by simp) n0).trans (by simp); have p3 : w1.cell? ⟨w.heap.size, 3, none⟩ = some (.string (BS ft.str)) := ((kcell hk1).1 _ 3 (by simp) n0).trans (by simp); have hK1 := hide ((((Kept.refl rb w).alloc (.cells #[.int .i64 ft.kind, .int .i64 fp, .int .i64 ft.num, .string (BS ft.str)] 91)).trans hk1).alloc (.cells #[.int .i64 st.tk.kind, .int .i64 st.place, .int .i64 st.tk.num, .string (BS st.tk.str)] 91)); have hR1 := hide (hr1.allocd (.cells #[.int .i64 st.tk.kind, .int .i64 st.place, .int .i64 st.tk.num, .string (BS st.tk.str)] 91) (by omega)); clear hr1 hk1; simp only [tkV]) | (go_at_call 103; refine (refuse_any _ _ _).mono ?_; rintro e w2 ⟨rfl, rfl⟩; simp only [gaveUp]))
      exact ⟨rfl, unhide hK1, rfl⟩
  · rw [escRes, if_neg h4]
    have H4 := hide h4
    clear h4
    go_enter Tryz.func302, Tryz.ntmps302
    go_wp2_with (go_at_call 56; refine (take_no rb s st 4 _ (unhide HA).at' (unhide HA).lt (unhide H4)).mono ?_; rintro e w1 ⟨rfl, hk1⟩; simp only [gaveUp])
    exact ⟨rfl, ((Kept.refl rb w).alloc _).trans hk1, rfl⟩
end

section
def likeRes (s : ByteArray) (l : Ast) (st : St) : Res :=
  if (stepSt s st).tk.kind = 4 then
    (if (stepSt s (stepSt s st)).tk.kind = 13 then
      (match escRes s (stepSt s st).tk (stepSt s st).place (stepSt s (stepSt s (stepSt s st))) with
        | .ok str st' => .ok (.un ⟨22, st.place, 0, (stepSt s st).tk.str, str, []⟩ l) st'
        | .err pl => .err 2 pl)
    else .ok (.un ⟨22, st.place, 0, (stepSt s st).tk.str, [], []⟩ l) (stepSt s (stepSt s st)))
  else .err 2 (stepSt s st).place

theorem escRes_ok {s : ByteArray} {ft : Tk} {fp : Nat} {st : St} {str : List UInt8} {st' : St} (h : escRes s ft fp st = .ok str st') : st.tk.kind = 4 ∧ st' = stepSt s st := by
  unfold escRes at h
  split at h
  · rename_i h4
    split at h
    · split at h
      · injection h with _ h2; exact ⟨h4, h2.symm⟩
      · cases h
    · cases h
  · cases h

set_option maxHeartbeats 1000000 in
set_option maxRecDepth 100000 in
theorem like_reads (rb : Nat) (s : ByteArray) (op : Nat) (hs : s.size ≤ 200) : Tails 269 rb s op 12 (likeRes s) := by
  intro w st l lv h ho hl h12
  have H := hide h
  have hlt := h.lt
  have hf1 := h.fine.next
  have hp1 := h.fine.le (by rw [h12]; decide)
  have H12 := hide h12
  obtain ⟨lb, rfl⟩ := hl.ptr
  have HL := hide hl
  have RK : Hid (∀ w1 st1, Fine s st1 → Kept rb w w1 → RdAt w1 rb s st1 → Ready rb s w1 st1) := hide fun w1 st1 hf hk hr => h.kept hk hr hf
  have hl1 : (stepSt s st).tk.str.length ≤ 200 := Nat.le_trans (stepSt_len s st) hs
  have ho1 : (stepSt s st).op = op := ho
  unfold likeRes
  clear h hl h12
  obtain ⟨st1, h1⟩ : ∃ x, stepSt s st = x := ⟨_, rfl⟩
  have S1 := hide h1
  rw [h1] at hf1 hl1 ho1 hp1 ⊢
  clear h1
  have HF1 := hide hf1
  by_cases h4 : st1.tk.kind = 4
  · rw [if_pos h4]
    have H4 := hide h4
    have hf2 := hf1.next
    have hp2 := hf1.le (by rw [h4]; decide)
    have ho2 : (stepSt s st1).op = op := ho1
    obtain ⟨st2, h2⟩ : ∃ x, stepSt s st1 = x := ⟨_, rfl⟩
    have S2 := hide h2
    rw [h2] at hf2 ho2 hp2 ⊢
    have HF2 := hide hf2
    clear h4 h2 hf1
    by_cases h13 : st2.tk.kind = 13
    · rw [if_pos h13]
      have H13 := hide h13
      have hf3 := hf2.next
      have hp3 := hf2.le (by rw [h13]; decide)
      have ho3 : (stepSt s st2).op = op := ho2
      obtain ⟨st3, h3⟩ : ∃ x, stepSt s st2 = x := ⟨_, rfl⟩
      have S3 := hide h3
      rw [h3] at hf3 ho3 hp3 ⊢
      have HF3 := hide hf3
      clear h13 h3 hf2
      cases he : escRes s st1.tk st1.place st3 with
      | ok str st4 =>
        obtain ⟨hk4, h4'⟩ := escRes_ok he
        have hf4 := hf3.next
        have hp4 := hf3.le (by rw [hk4]; decide)
        have ho4 : (stepSt s st3).op = op := ho3
        rw [← h4'] at hf4 ho4 hp4
        have HE := hide he
        have HF4 := hide hf4
        clear he hf3 hf4 hk4 h4'
        go_enter Tryz.func269, Tryz.ntmps269
        go_wp2_with (first | (go_at_call_of 56 (Value.int IntKind.i64 12); refine (take_ok rb s st 12 _ (unhide H).size (unhide H).fine.after (unhide H).at' hlt (unhide H).err (unhide H12)).mono ?_; rw [unhide S1]; rintro e w1 ⟨rfl, hr1, hk1⟩; have hz1 := hk1.size; have n1 : ¬ w1.heap.size = rb := (by omega); have hR1 := hide ((unhide RK _ _ (unhide HF1) hk1 hr1).allocd (.cells #[.int .i64 st.tk.kind, .int .i64 st.place, .int .i64 st.tk.num, .string (BS st.tk.str)] 91)); have hK1 := hide (hk1.alloc (.cells #[.int .i64 st.tk.kind, .int .i64 st.place, .int .i64 st.tk.num, .string (BS st.tk.str)] 91)); clear hr1 hk1; simp only [tkV]) | (go_at_call_of 56 (Value.int IntKind.i64 4); refine (take_ok rb s st1 4 _ (unhide hR1).size (unhide hR1).fine.after (unhide hR1).at' (unhide hR1).lt (unhide hR1).err (unhide H4)).mono ?_; rw [unhide S2]; rintro e w2 ⟨rfl, hr2, hk2⟩; have hz2 : w1.heap.size < w2.heap.size := (by have := hk2.size; simp at this; omega); have n2 : ¬ w2.heap.size = rb := (by omega); have q2 : (w2.alloc (.cells #[.int .i64 st1.tk.kind, .int .i64 st1.place, .int .i64 st1.tk.num, .string (BS st1.tk.str)] 91)).cell? ⟨w1.heap.size, 1, none⟩ = some (.int .i64 st.place) := (by rw [World.cell?_alloc_past _ _ _ (by first | omega | (simp; omega))]; exact ((kcell hk2).1 _ 1 (by simp) n1).trans (by simp)); have hK2 := hide (((unhide hK1).trans hk2).alloc (.cells #[.int .i64 st1.tk.kind, .int .i64 st1.place, .int .i64 st1.tk.num, .string (BS st1.tk.str)] 91)); have hR2 := hide ((unhide RK _ _ (unhide HF2) ((unhide hK1).trans hk2) hr2).allocd (.cells #[.int .i64 st1.tk.kind, .int .i64 st1.place, .int .i64 st1.tk.num, .string (BS st1.tk.str)] 91)); clear hr2 hk2; simp only [tkV]) | (go_at_call 267; refine (skip_yes rb s st2 13 _ (unhide hR2).size (unhide hR2).fine.after (unhide hR2).at' (unhide hR2).lt (unhide hR2).err (unhide H13)).mono ?_; rw [unhide S3]; rintro e w3 ⟨rfl, hr3, hk3⟩; have hz3 : w2.heap.size < w3.heap.size := (by have := hk3.size; simp at this; omega); obtain ⟨kc, kf⟩ := kcell hk3; have r0 : w3.cell? ⟨w2.heap.size, 0, none⟩ = some (.int .i64 st1.tk.kind) := (kc _ 0 (by simp) n2).trans (by simp); have r1 : w3.cell? ⟨w2.heap.size, 1, none⟩ = some (.int .i64 st1.place) := (kc _ 1 (by simp) n2).trans (by simp); have r2 : w3.cell? ⟨w2.heap.size, 2, none⟩ = some (.int .i64 st1.tk.num) := (kc _ 2 (by simp) n2).trans (by simp); have r3 : w3.cell? ⟨w2.heap.size, 3, none⟩ = some (.string (BS st1.tk.str)) := (kc _ 3 (by simp) n2).trans (by simp); have q3 : w3.cell? ⟨w1.heap.size, 1, none⟩ = some (.int .i64 st.place) := (kc _ 1 (by simp; omega) n1).trans q2; have hK3 := hide ((unhide hK2).trans hk3); have hR3 := hide (unhide RK _ _ (unhide HF3) (unhide hK3) hr3); clear hr3 hk3 kc kf) | (go_at_call 302; refine (escape_any rb s st1.tk st1.place hl1 _ st3 (unhide hR3)).mono ?_; rintro e w4 ⟨hk4, h4⟩; rw [unhide HE] at h4; obtain ⟨rfl, hr4⟩ := h4; have hz4 : w2.heap.size < w4.heap.size := (by have := hk4.size; omega); obtain ⟨kc, kf⟩ := kcell hk4; have u3 : w4.cell? ⟨w2.heap.size, 3, none⟩ = some (.string (BS st1.tk.str)) := (kc _ 3 hz3 n2).trans r3; have u1 : w4.cell? ⟨w1.heap.size, 1, none⟩ = some (.int .i64 st.place) := (kc _ 1 (by omega) n1).trans q3; have hK4 := hide ((unhide hK3).trans hk4); have hr4 := hide hr4; clear hk4 kc kf))
        go_ret
        have hlt4 : rb < w4.heap.size := Nat.lt_of_lt_of_le hlt (unhide hK4).size
        refine ⟨((unhide hK4).alloc _).alloc _, _, rfl, IsNode.texted ((unhide HL).kept (unhide hK4)) hlt4 (.inl ⟨rfl, rfl⟩) 22 st.place _ _, ((unhide hr4).allocd _ hlt4).allocd _ (by simp; omega), unhide HF4, ho4, by omega⟩
      | err pl =>
        have HE := hide he
        clear he hf3
        go_enter Tryz.func269, Tryz.ntmps269
        go_wp2_with (first | (go_at_call_of 56 (Value.int IntKind.i64 12); refine (take_ok rb s st 12 _ (unhide H).size (unhide H).fine.after (unhide H).at' hlt (unhide H).err (unhide H12)).mono ?_; rw [unhide S1]; rintro e w1 ⟨rfl, hr1, hk1⟩; have hz1 := hk1.size; have n1 : ¬ w1.heap.size = rb := (by omega); have hR1 := hide ((unhide RK _ _ (unhide HF1) hk1 hr1).allocd (.cells #[.int .i64 st.tk.kind, .int .i64 st.place, .int .i64 st.tk.num, .string (BS st.tk.str)] 91)); have hK1 := hide (hk1.alloc (.cells #[.int .i64 st.tk.kind, .int .i64 st.place, .int .i64 st.tk.num, .string (BS st.tk.str)] 91)); clear hr1 hk1; simp only [tkV]) | (go_at_call_of 56 (Value.int IntKind.i64 4); refine (take_ok rb s st1 4 _ (unhide hR1).size (unhide hR1).fine.after (unhide hR1).at' (unhide hR1).lt (unhide hR1).err (unhide H4)).mono ?_; rw [unhide S2]; rintro e w2 ⟨rfl, hr2, hk2⟩; have hz2 : w1.heap.size < w2.heap.size := (by have := hk2.size; simp at this; omega); have n2 : ¬ w2.heap.size = rb := (by omega); have q2 : (w2.alloc (.cells #[.int .i64 st1.tk.kind, .int .i64 st1.place, .int .i64 st1.tk.num, .string (BS st1.tk.str)] 91)).cell? ⟨w1.heap.size, 1, none⟩ = some (.int .i64 st.place) := (by rw [World.cell?_alloc_past _ _ _ (by first | omega | (simp; omega))]; exact ((kcell hk2).1 _ 1 (by simp) n1).trans (by simp)); have hK2 := hide (((unhide hK1).trans hk2).alloc (.cells #[.int .i64 st1.tk.kind, .int .i64 st1.place, .int .i64 st1.tk.num, .string (BS st1.tk.str)] 91)); have hR2 := hide ((unhide RK _ _ (unhide HF2) ((unhide hK1).trans hk2) hr2).allocd (.cells #[.int .i64 st1.tk.kind, .int .i64 st1.place, .int .i64 st1.tk.num, .string (BS st1.tk.str)] 91)); clear hr2 hk2; simp only [tkV]) | (go_at_call 267; refine (skip_yes rb s st2 13 _ (unhide hR2).size (unhide hR2).fine.after (unhide hR2).at' (unhide hR2).lt (unhide hR2).err (unhide H13)).mono ?_; rw [unhide S3]; rintro e w3 ⟨rfl, hr3, hk3⟩; have hz3 : w2.heap.size < w3.heap.size := (by have := hk3.size; simp at this; omega); obtain ⟨kc, kf⟩ := kcell hk3; have r0 : w3.cell? ⟨w2.heap.size, 0, none⟩ = some (.int .i64 st1.tk.kind) := (kc _ 0 (by simp) n2).trans (by simp); have r1 : w3.cell? ⟨w2.heap.size, 1, none⟩ = some (.int .i64 st1.place) := (kc _ 1 (by simp) n2).trans (by simp); have r2 : w3.cell? ⟨w2.heap.size, 2, none⟩ = some (.int .i64 st1.tk.num) := (kc _ 2 (by simp) n2).trans (by simp); have r3 : w3.cell? ⟨w2.heap.size, 3, none⟩ = some (.string (BS st1.tk.str)) := (kc _ 3 (by simp) n2).trans (by simp); have q3 : w3.cell? ⟨w1.heap.size, 1, none⟩ = some (.int .i64 st.place) := (kc _ 1 (by simp; omega) n1).trans q2; have hK3 := hide ((unhide hK2).trans hk3); have hR3 := hide (unhide RK _ _ (unhide HF3) (unhide hK3) hr3); clear hr3 hk3 kc kf) | (go_at_call 302; refine (escape_any rb s st1.tk st1.place hl1 _ st3 (unhide hR3)).mono ?_; rintro e w4 ⟨hk4, h4⟩; rw [unhide HE] at h4; subst h4; simp only [gaveUp]))
        exact ⟨rfl, (unhide hK3).trans hk4, rfl⟩
    · rw [if_neg h13]
      have H13 := hide h13
      clear h13 hf2
      go_enter Tryz.func269, Tryz.ntmps269
      go_wp2_with (first | (go_at_call_of 56 (Value.int IntKind.i64 12); refine (take_ok rb s st 12 _ (unhide H).size (unhide H).fine.after (unhide H).at' hlt (unhide H).err (unhide H12)).mono ?_; rw [unhide S1]; rintro e w1 ⟨rfl, hr1, hk1⟩; have hz1 := hk1.size; have n1 : ¬ w1.heap.size = rb := (by omega); have hR1 := hide ((unhide RK _ _ (unhide HF1) hk1 hr1).allocd (.cells #[.int .i64 st.tk.kind, .int .i64 st.place, .int .i64 st.tk.num, .string (BS st.tk.str)] 91)); have hK1 := hide (hk1.alloc (.cells #[.int .i64 st.tk.kind, .int .i64 st.place, .int .i64 st.tk.num, .string (BS st.tk.str)] 91)); clear hr1 hk1; simp only [tkV]) | (go_at_call_of 56 (Value.int IntKind.i64 4); refine (take_ok rb s st1 4 _ (unhide hR1).size (unhide hR1).fine.after (unhide hR1).at' (unhide hR1).lt (unhide hR1).err (unhide H4)).mono ?_; rw [unhide S2]; rintro e w2 ⟨rfl, hr2, hk2⟩; have hz2 : w1.heap.size < w2.heap.size := (by have := hk2.size; simp at this; omega); have n2 : ¬ w2.heap.size = rb := (by omega); have q2 : (w2.alloc (.cells #[.int .i64 st1.tk.kind, .int .i64 st1.place, .int .i64 st1.tk.num, .string (BS st1.tk.str)] 91)).cell? ⟨w1.heap.size, 1, none⟩ = some (.int .i64 st.place) := (by rw [World.cell?_alloc_past _ _ _ (by first | omega | (simp; omega))]; exact ((kcell hk2).1 _ 1 (by simp) n1).trans (by simp)); have hK2 := hide (((unhide hK1).trans hk2).alloc (.cells #[.int .i64 st1.tk.kind, .int .i64 st1.place, .int .i64 st1.tk.num, .string (BS st1.tk.str)] 91)); have hR2 := hide ((unhide RK _ _ (unhide HF2) ((unhide hK1).trans hk2) hr2).allocd (.cells #[.int .i64 st1.tk.kind, .int .i64 st1.place, .int .i64 st1.tk.num, .string (BS st1.tk.str)] 91)); clear hr2 hk2; simp only [tkV]) | (go_at_call 267; refine (skip_no rb s st2 13 _ (unhide hR2).at' (unhide H13)).mono ?_; rintro e w3 ⟨rfl, rfl⟩))
      go_ret
      have hK := unhide hK2
      have hlt4 := (unhide hR2).lt
      have hnode := IsNode.texted (ts := []) ((unhide HL).kept hK) hlt4 (.inl ⟨rfl, rfl⟩) 22 st.place st1.tk.str []
      refine ⟨(hK.alloc _).alloc _, _, rfl, by simpa [BS] using hnode, ((unhide hR2).at'.allocd _ hlt4).allocd _ (by simp; omega), unhide HF2, ho2, by omega⟩
  · rw [if_neg h4]
    have H4 := hide h4
    clear h4 hf1
    go_enter Tryz.func269, Tryz.ntmps269
    go_wp2_with (first | (go_at_call_of 56 (Value.int IntKind.i64 12); refine (take_ok rb s st 12 _ (unhide H).size (unhide H).fine.after (unhide H).at' hlt (unhide H).err (unhide H12)).mono ?_; rw [unhide S1]; rintro e w1 ⟨rfl, hr1, hk1⟩; have hz1 := hk1.size; have n1 : ¬ w1.heap.size = rb := (by omega); have hR1 := hide ((unhide RK _ _ (unhide HF1) hk1 hr1).allocd (.cells #[.int .i64 st.tk.kind, .int .i64 st.place, .int .i64 st.tk.num, .string (BS st.tk.str)] 91)); have hK1 := hide (hk1.alloc (.cells #[.int .i64 st.tk.kind, .int .i64 st.place, .int .i64 st.tk.num, .string (BS st.tk.str)] 91)); clear hr1 hk1; simp only [tkV]) | (go_at_call_of 56 (Value.int IntKind.i64 4); refine (take_no rb s st1 4 _ (unhide hR1).at' (unhide hR1).lt (unhide H4)).mono ?_; rintro e w2 ⟨rfl, hk2⟩; simp only [gaveUp]))
    exact ⟨rfl, (unhide hK1).trans hk2, rfl⟩
end

end Go.Proofs.YtfkcaldjphakpaaGreatDoor
