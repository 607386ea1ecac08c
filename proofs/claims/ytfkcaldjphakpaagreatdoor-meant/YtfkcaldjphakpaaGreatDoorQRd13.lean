/- between. -/
import Derived.Test.YtfkcaldjphakpaaGreatDoorQRd12
namespace Go.Proofs.YtfkcaldjphakpaaGreatDoor
open Go.RowKit

def betweenRes (s : ByteArray) (f : St → Res) (l : Ast) (st : St) : Res := if st.tk.kind = 10 then (match f (stepSt s st) with
    | .ok lo st1 => if st1.tk.kind = 5 then (match f (stepSt s st1) with
        | .ok hi st2 => .ok (.tri ⟨20, st.place, 0, [], [], []⟩ l lo hi) st2
        | .err en pl => .err en pl) else .err 2 st1.place
    | .err en pl => .err en pl) else .err 2 st.place

/-- A new term of three sides. -/
theorem IsNode.three {rb : Nat} {w : World} {x y z : Ast} {xv yv zv : Value} (hx : IsNode rb w xv x) (hy : IsNode rb w yv y) (hz : IsNode rb w zv z) (hlt : rb < w.heap.size) (op place : Int) :
    IsNode rb ((w.alloc (.cells #[xv, yv, zv] 67)).alloc (.cells #[.int .i64 op, .int .i64 place, .slice (some ⟨w.heap.size, 0, none⟩) 3 3, .int .i64 0, .string ⟨#[]⟩, .string ⟨#[]⟩, .slice none 0 0] 102))
      (.pointer (some ⟨w.heap.size + 1, 0, none⟩)) (.tri ⟨op, place, 0, [], [], []⟩ x y z) := by
  have hk : Kept rb w ((w.alloc (.cells #[xv, yv, zv] 67)).alloc (.cells #[.int .i64 op, .int .i64 place, .slice (some ⟨w.heap.size, 0, none⟩) 3 3, .int .i64 0, .string ⟨#[]⟩, .string ⟨#[]⟩, .slice none 0 0] 102)) := ((Kept.refl rb w).alloc _).alloc _
  refine ⟨w.heap.size + 1, w.heap.size, xv, yv, zv, rfl, ⟨by omega, by simp, by simp, by simp, by simp, by simp, by simp [BS], by simp [BS], .slice none 0 0, by simp, .inl ⟨rfl, rfl⟩⟩, hlt, by simp; omega, ?_, ?_, ?_, hx.kept hk, hy.kept hk, hz.kept hk⟩
  · rw [World.cell?_alloc_past _ _ _ (by simp), World.cell?_alloc_at _ _ _ _ rfl]; rfl
  · rw [World.cell?_alloc_past _ _ _ (by simp), World.cell?_alloc_at _ _ _ _ rfl]; rfl
  · rw [World.cell?_alloc_past _ _ _ (by simp), World.cell?_alloc_at _ _ _ _ rfl]; rfl

set_option maxHeartbeats 1000000 in
theorem between_any (rb : Nat) (s : ByteArray) (op : Nat) (f : St → Res) (hf : Reads 241 rb s op f) (l : Ast) (lv : Value) (w : World) (st : St) (h : Ready rb s w st) (ho : st.op = op) (hl : IsNode rb w lv l) :
    Calls Tryz.prog 270 #[.pointer (some ⟨rb, 0, none⟩), lv] w (Gives rb s w op st.place (betweenRes s f l st)) := by
  have H := hide h
  have HF := hide hf
  have hlt := h.lt
  obtain ⟨lb, rfl⟩ := hl.ptr
  have HL := hide hl
  clear hl hf
  by_cases h10 : st.tk.kind = 10
  · rw [betweenRes, if_pos h10]
    have hle1 := h.fine.le (by rw [h10]; decide)
    have hf1 := h.fine.next
    have H10 := hide h10
    have R1 : Hid (∀ w1, Kept rb w w1 → RdAt w1 rb s (stepSt s st) → Ready rb s w1 (stepSt s st)) := hide fun w1 hk hr => h.kept hk hr hf1
    have ho1 : (stepSt s st).op = op := ho
    clear h h10 hf1
    cases hr1 : f (stepSt s st) with
    | err en pl =>
      have HR1 := hide hr1
      clear hr1
      go_enter Tryz.func270, Tryz.ntmps270
      go_wp2_with (first | (go_at_call_of 56 (Value.int IntKind.i64 10); refine (take_ok rb s st 10 _ (unhide H).size (unhide H).fine.after (unhide H).at' hlt (unhide H).err (unhide H10)).mono ?_; rintro e w1 ⟨rfl, hr1, hk1⟩; have hz1 := hk1.size; have n1 : ¬ w1.heap.size = rb := (by omega); have hR1 := hide ((unhide R1 _ hk1 hr1).allocd (.cells #[.int .i64 st.tk.kind, .int .i64 st.place, .int .i64 st.tk.num, .string (BS st.tk.str)] 91)); have hK1 := hide (hk1.alloc (.cells #[.int .i64 st.tk.kind, .int .i64 st.place, .int .i64 st.tk.num, .string (BS st.tk.str)] 91)); clear hr1 hk1; simp only [tkV]) | (go_at_call 241; refine (unhide HF _ (stepSt s st) (unhide hR1) ho1).mono ?_; rintro e w2 ⟨hk2, h2⟩; rw [unhide HR1] at h2; subst h2; simp only [gaveUp]))
      exact ⟨rfl, (unhide hK1).trans hk2, rfl⟩
    | ok lo st1 =>
      have HR1 := hide hr1
      clear hr1
      by_cases h5 : st1.tk.kind = 5
      · simp only [if_pos h5]
        have H5 := hide h5
        have H50 : Hid (st1.tk.kind ≠ 0) := hide (by rw [h5]; decide)
        clear h5
        cases hr2 : f (stepSt s st1) with
        | err en pl =>
          have HR2 := hide hr2
          clear hr2
          go_enter Tryz.func270, Tryz.ntmps270
          go_wp2_with (first | (go_at_call_of 56 (Value.int IntKind.i64 10); refine (take_ok rb s st 10 _ (unhide H).size (unhide H).fine.after (unhide H).at' hlt (unhide H).err (unhide H10)).mono ?_; rintro e w1 ⟨rfl, hr1, hk1⟩; have hz1 := hk1.size; have n1 : ¬ w1.heap.size = rb := (by omega); have hR1 := hide ((unhide R1 _ hk1 hr1).allocd (.cells #[.int .i64 st.tk.kind, .int .i64 st.place, .int .i64 st.tk.num, .string (BS st.tk.str)] 91)); have hK1 := hide (hk1.alloc (.cells #[.int .i64 st.tk.kind, .int .i64 st.place, .int .i64 st.tk.num, .string (BS st.tk.str)] 91)); clear hr1 hk1; simp only [tkV]) | (go_at_call 241; refine (unhide HF _ (stepSt s st) (unhide hR1) ho1).mono ?_; rintro e w2 ⟨hk2, h2⟩; rw [unhide HR1] at h2; obtain ⟨v2, rfl, hn2, hr2, hf2, ho2, hp2⟩ := h2; obtain ⟨vb, rfl⟩ := hn2.ptr; have hz2 : w1.heap.size < w2.heap.size := (by have := hk2.size; simp at this; omega); have q2 : w2.cell? ⟨w1.heap.size, 1, none⟩ = some (.int .i64 st.place) := ((kcell hk2).1 _ 1 (by simp) n1).trans (by simp); have hK2 := hide ((unhide hK1).trans hk2); have hR2 := hide ((unhide H).kept ((unhide hK1).trans hk2) hr2 hf2); have hn2 := hide hn2; have hf2 := hide hf2; clear hr2 hk2) | (go_at_call_of 56 (Value.int IntKind.i64 5); refine (take_ok rb s st1 5 _ (unhide hR2).size (unhide hR2).fine.after (unhide hR2).at' (unhide hR2).lt (unhide hR2).err (unhide H5)).mono ?_; rintro e w3 ⟨rfl, hr3, hk3⟩; have hz3 : w1.heap.size < w3.heap.size := (by have := hk3.size; omega); have q3 : w3.cell? ⟨w1.heap.size, 1, none⟩ = some (.int .i64 st.place) := ((kcell hk3).1 _ 1 hz2 n1).trans q2; have hn3 := hide ((unhide hn2).kept hk3); have hK3 := hide ((unhide hK2).trans hk3); have hR3 := hide ((unhide hR2).stepped hk3 hr3); clear hr3 hk3; simp only [tkV]))
          have ho3 : (stepSt s st1).op = op := ho2
          go_region_with (first | (go_at_call 241; refine (unhide HF _ (stepSt s st1) (unhide hR3) ho3).mono ?_; rintro e w4 ⟨hk4, h4⟩; rw [unhide HR2] at h4; subst h4; refine gone (w := w4) ⟨rfl, (unhide hK3).trans ((Kept.refl rb w3).drew.trans hk4), rfl⟩ ?_))
          all_goals trivial
        | ok hi st2 =>
          have HR2 := hide hr2
          clear hr2
          go_enter Tryz.func270, Tryz.ntmps270
          go_wp2_with (first | (go_at_call_of 56 (Value.int IntKind.i64 10); refine (take_ok rb s st 10 _ (unhide H).size (unhide H).fine.after (unhide H).at' hlt (unhide H).err (unhide H10)).mono ?_; rintro e w1 ⟨rfl, hr1, hk1⟩; have hz1 := hk1.size; have n1 : ¬ w1.heap.size = rb := (by omega); have hR1 := hide ((unhide R1 _ hk1 hr1).allocd (.cells #[.int .i64 st.tk.kind, .int .i64 st.place, .int .i64 st.tk.num, .string (BS st.tk.str)] 91)); have hK1 := hide (hk1.alloc (.cells #[.int .i64 st.tk.kind, .int .i64 st.place, .int .i64 st.tk.num, .string (BS st.tk.str)] 91)); clear hr1 hk1; simp only [tkV]) | (go_at_call 241; refine (unhide HF _ (stepSt s st) (unhide hR1) ho1).mono ?_; rintro e w2 ⟨hk2, h2⟩; rw [unhide HR1] at h2; obtain ⟨v2, rfl, hn2, hr2, hf2, ho2, hp2⟩ := h2; obtain ⟨vb, rfl⟩ := hn2.ptr; have hz2 : w1.heap.size < w2.heap.size := (by have := hk2.size; simp at this; omega); have q2 : w2.cell? ⟨w1.heap.size, 1, none⟩ = some (.int .i64 st.place) := ((kcell hk2).1 _ 1 (by simp) n1).trans (by simp); have hK2 := hide ((unhide hK1).trans hk2); have hR2 := hide ((unhide H).kept ((unhide hK1).trans hk2) hr2 hf2); have hn2 := hide hn2; have hf2 := hide hf2; clear hr2 hk2) | (go_at_call_of 56 (Value.int IntKind.i64 5); refine (take_ok rb s st1 5 _ (unhide hR2).size (unhide hR2).fine.after (unhide hR2).at' (unhide hR2).lt (unhide hR2).err (unhide H5)).mono ?_; rintro e w3 ⟨rfl, hr3, hk3⟩; have hz3 : w1.heap.size < w3.heap.size := (by have := hk3.size; omega); have q3 : w3.cell? ⟨w1.heap.size, 1, none⟩ = some (.int .i64 st.place) := ((kcell hk3).1 _ 1 hz2 n1).trans q2; have hn3 := hide ((unhide hn2).kept hk3); have hK3 := hide ((unhide hK2).trans hk3); have hR3 := hide ((unhide hR2).stepped hk3 hr3); clear hr3 hk3; simp only [tkV]))
          have ho3 : (stepSt s st1).op = op := ho2
          go_region_held3 (fun w' => w'.cell? ⟨w1.heap.size, 1, none⟩ = some (.int .i64 st.place)) (go_keep) (first | (go_at_call 241; refine (unhide HF _ (stepSt s st1) (unhide hR3) ho3).mono ?_; rintro e w4 ⟨hk4, h4⟩; rw [unhide HR2] at h4; obtain ⟨v4, rfl, hn4, hr4, hf4, ho4, hp4⟩ := h4; obtain ⟨vc, rfl⟩ := hn4.ptr; have q4 : w4.cell? ⟨w1.heap.size, 1, none⟩ = some (.int .i64 st.place) := ((kcell hk4).1 _ 1 hz3 n1).trans q3; have hz4 : w1.heap.size < w4.heap.size := Nat.lt_of_lt_of_le hz3 hk4.size; have hk4 := hide hk4; have hn4 := hide hn4; have hr4 := hide hr4; have hf4 := hide hf4))
          go_wp2_with fail
          go_ret
          have hK4 := (unhide hK3).trans ((Kept.refl rb w3).drew.trans (unhide hk4))
          have hlt4 : rb < w4.heap.size := Nat.lt_of_lt_of_le hlt hK4.size
          refine ⟨(hK4.alloc _).alloc _, _, rfl, IsNode.three ((unhide HL).kept hK4) ((unhide hn3).kept ((Kept.refl rb w3).drew.trans (unhide hk4))) (unhide hn4) hlt4 20 st.place, ((unhide hr4).allocd _ hlt4).allocd _ (by simp; omega), unhide hf4, ho4, ?_⟩
          have h1 := (unhide hf2).le (unhide H50)
          omega
      · simp only [if_neg h5]
        have H5 := hide h5
        clear h5
        go_enter Tryz.func270, Tryz.ntmps270
        go_wp2_with (first | (go_at_call_of 56 (Value.int IntKind.i64 10); refine (take_ok rb s st 10 _ (unhide H).size (unhide H).fine.after (unhide H).at' hlt (unhide H).err (unhide H10)).mono ?_; rintro e w1 ⟨rfl, hr1, hk1⟩; have hz1 := hk1.size; have n1 : ¬ w1.heap.size = rb := (by omega); have hR1 := hide ((unhide R1 _ hk1 hr1).allocd (.cells #[.int .i64 st.tk.kind, .int .i64 st.place, .int .i64 st.tk.num, .string (BS st.tk.str)] 91)); have hK1 := hide (hk1.alloc (.cells #[.int .i64 st.tk.kind, .int .i64 st.place, .int .i64 st.tk.num, .string (BS st.tk.str)] 91)); clear hr1 hk1; simp only [tkV]) | (go_at_call 241; refine (unhide HF _ (stepSt s st) (unhide hR1) ho1).mono ?_; rintro e w2 ⟨hk2, h2⟩; rw [unhide HR1] at h2; obtain ⟨v2, rfl, hn2, hr2, hf2, ho2, hp2⟩ := h2; obtain ⟨vb, rfl⟩ := hn2.ptr; have hz2 : w1.heap.size < w2.heap.size := (by have := hk2.size; simp at this; omega); have q2 : w2.cell? ⟨w1.heap.size, 1, none⟩ = some (.int .i64 st.place) := ((kcell hk2).1 _ 1 (by simp) n1).trans (by simp); have hK2 := hide ((unhide hK1).trans hk2); have hR2 := hide ((unhide H).kept ((unhide hK1).trans hk2) hr2 hf2); have hn2 := hide hn2; have hf2 := hide hf2; clear hr2 hk2) | (go_at_call_of 56 (Value.int IntKind.i64 5); refine (take_no rb s st1 5 _ (unhide hR2).at' (unhide hR2).lt (unhide H5)).mono ?_; rintro e w3 ⟨rfl, hk3⟩; simp only [gaveUp]))
        exact ⟨rfl, (unhide hK2).trans hk3, rfl⟩
  · rw [betweenRes, if_neg h10]
    have H10 := hide h10
    clear h h10
    go_enter Tryz.func270, Tryz.ntmps270
    go_wp2_with (go_at_call 56; refine (take_no rb s st 10 _ (unhide H).at' hlt (unhide H10)).mono ?_; rintro e w1 ⟨rfl, hk1⟩; simp only [gaveUp])
    exact ⟨rfl, hk1, rfl⟩

end Go.Proofs.YtfkcaldjphakpaaGreatDoor
