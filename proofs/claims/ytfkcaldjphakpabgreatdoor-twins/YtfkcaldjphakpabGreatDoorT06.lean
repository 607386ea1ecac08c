/- between. keyword, over what reads on from IN and from LIKE. in. like. -/
import Derived.Test.YtfkcaldjphakpabGreatDoorT05
import Derived.Test.YtfkcaldjphakpabGreatDoorT09
namespace Go.Proofs.YtfkcaldjphakpabGreatDoor
open Go.RowKit
section
def qc9 (s : ByteArray) (f : St → Res) (l : Ast) (st : St) : Res := if st.tk.kind = 10 then (match f (v8 s st) with
    | .ok lo st1 => if st1.tk.kind = 5 then (match f (v8 s st1) with
        | .ok hi st2 => .ok (.tri ⟨20, st.place, 0, [], [], []⟩ l lo hi) st2
        | .err en pl => .err en pl) else .err 2 st1.place
    | .err en pl => .err en pl) else .err 2 st.place
theorem IsNode.three {rb : Nat} {w : World} {x y z : Ast} {xv yv zv : Value} (hx : IsNode rb w xv x) (hy : IsNode rb w yv y) (hz : IsNode rb w zv z) (hlt : rb < w.heap.size) (op place : Int) :
    IsNode rb ((w.alloc (.cells #[xv, yv, zv] 74)).alloc (.cells #[.int .i64 op, .int .i64 place, .slice (some ⟨w.heap.size, 0, none⟩) 3 3, .int .i64 0, .string ⟨#[]⟩, .string ⟨#[]⟩, .slice none 0 0] 138))
      (.pointer (some ⟨w.heap.size + 1, 0, none⟩)) (.tri ⟨op, place, 0, [], [], []⟩ x y z) := by
  have hk : Kept rb w ((w.alloc (.cells #[xv, yv, zv] 74)).alloc (.cells #[.int .i64 op, .int .i64 place, .slice (some ⟨w.heap.size, 0, none⟩) 3 3, .int .i64 0, .string ⟨#[]⟩, .string ⟨#[]⟩, .slice none 0 0] 138)) := ((Kept.refl rb w).alloc _).alloc _
  refine ⟨w.heap.size + 1, w.heap.size, xv, yv, zv, rfl, ⟨by omega, by simp, by simp, by simp, by simp, by simp, by simp [BS], by simp [BS], .slice none 0 0, by simp, .inl ⟨rfl, rfl⟩⟩, hlt, by simp; omega, ?_, ?_, ?_, hx.kept hk, hy.kept hk, hz.kept hk⟩
  · rw [World.cell?_alloc_past _ _ _ (by simp), World.cell?_alloc_at _ _ _ _ rfl]; rfl
  · rw [World.cell?_alloc_past _ _ _ (by simp), World.cell?_alloc_at _ _ _ _ rfl]; rfl
  · rw [World.cell?_alloc_past _ _ _ (by simp), World.cell?_alloc_at _ _ _ _ rfl]; rfl
set_option maxHeartbeats 1000000 in
theorem jc9 (rb : Nat) (s : ByteArray) (op : Nat) (f : St → Res) (hf : qe4 214 rb s op f) (l : Ast) (lv : Value) (w : World) (st : St) (h : Ready rb s w st) (ho : st.op = op) (hl : IsNode rb w lv l) :
    Calls Tryz.prog 256 #[.pointer (some ⟨rb, 0, none⟩), lv] w (Gives rb s w op st.place (qc9 s f l st)) := by
  have H := v6 h
  have HF := v6 hf
  have hlt := h.lt
  obtain ⟨lb, rfl⟩ := hl.ptr
  have HL := v6 hl
  clear hl hf
  by_cases h10 : st.tk.kind = 10
  · rw [qc9, if_pos h10]
    have hle1 := h.fine.le (by rw [h10]; decide)
    have hf1 := h.fine.next
    have H10 := v6 h10
    have R1 : Hid (∀ w1, Kept rb w w1 → RdAt w1 rb s (v8 s st) → Ready rb s w1 (v8 s st)) := v6 fun w1 hk hr => h.kept hk hr hf1
    have ho1 : (v8 s st).op = op := ho
    clear h h10 hf1
    cases hr1 : f (v8 s st) with
    | err en pl =>
      have HR1 := v6 hr1
      clear hr1
      go_enter Tryz.func256, Tryz.ntmps256
      go_wp2_with (first | (go_at_call_of 57 (Value.int IntKind.i64 10); refine (qb1 rb s st 10 _ (q9 H).size (q9 H).fine.after (q9 H).at' hlt (q9 H).err (q9 H10)).mono ?_; rintro e w1 ⟨rfl, hr1, hk1⟩; have hz1 := hk1.size; have n1 : ¬ w1.heap.size = rb := (by omega); have hR1 := v6 ((q9 R1 _ hk1 hr1).allocd (.cells #[.int .i64 st.tk.kind, .int .i64 st.place, .int .i64 st.tk.num, .string (BS st.tk.str)] 127)); have hK1 := v6 (hk1.alloc (.cells #[.int .i64 st.tk.kind, .int .i64 st.place, .int .i64 st.tk.num, .string (BS st.tk.str)] 127)); clear hr1 hk1; simp only [tkV]) | (go_at_call 214; refine (q9 HF _ (v8 s st) (q9 hR1) ho1).mono ?_; rintro e w2 ⟨hk2, h2⟩; rw [q9 HR1] at h2; subst h2; simp only [x3]))
      exact ⟨rfl, (q9 hK1).trans hk2, rfl⟩
    | ok lo st1 =>
      have HR1 := v6 hr1
      clear hr1
      by_cases h5 : st1.tk.kind = 5
      · simp only [if_pos h5]
        have H5 := v6 h5
        have H50 : Hid (st1.tk.kind ≠ 0) := v6 (by rw [h5]; decide)
        clear h5
        cases hr2 : f (v8 s st1) with
        | err en pl =>
          have HR2 := v6 hr2
          clear hr2
          go_enter Tryz.func256, Tryz.ntmps256
          go_wp2_with (first | (go_at_call_of 57 (Value.int IntKind.i64 10); refine (qb1 rb s st 10 _ (q9 H).size (q9 H).fine.after (q9 H).at' hlt (q9 H).err (q9 H10)).mono ?_; rintro e w1 ⟨rfl, hr1, hk1⟩; have hz1 := hk1.size; have n1 : ¬ w1.heap.size = rb := (by omega); have hR1 := v6 ((q9 R1 _ hk1 hr1).allocd (.cells #[.int .i64 st.tk.kind, .int .i64 st.place, .int .i64 st.tk.num, .string (BS st.tk.str)] 127)); have hK1 := v6 (hk1.alloc (.cells #[.int .i64 st.tk.kind, .int .i64 st.place, .int .i64 st.tk.num, .string (BS st.tk.str)] 127)); clear hr1 hk1; simp only [tkV]) | (go_at_call 214; refine (q9 HF _ (v8 s st) (q9 hR1) ho1).mono ?_; rintro e w2 ⟨hk2, h2⟩; rw [q9 HR1] at h2; obtain ⟨v2, rfl, hn2, hr2, hf2, ho2, hp2⟩ := h2; obtain ⟨vb, rfl⟩ := hn2.ptr; have hz2 : w1.heap.size < w2.heap.size := (by have := hk2.size; simp at this; omega); have q2 : w2.cell? ⟨w1.heap.size, 1, none⟩ = some (.int .i64 st.place) := ((x4 hk2).1 _ 1 (by simp) n1).trans (by simp); have hK2 := v6 ((q9 hK1).trans hk2); have hR2 := v6 ((q9 H).kept ((q9 hK1).trans hk2) hr2 hf2); have hn2 := v6 hn2; have hf2 := v6 hf2; clear hr2 hk2) | (go_at_call_of 57 (Value.int IntKind.i64 5); refine (qb1 rb s st1 5 _ (q9 hR2).size (q9 hR2).fine.after (q9 hR2).at' (q9 hR2).lt (q9 hR2).err (q9 H5)).mono ?_; rintro e w3 ⟨rfl, hr3, hk3⟩; have hz3 : w1.heap.size < w3.heap.size := (by have := hk3.size; omega); have q3 : w3.cell? ⟨w1.heap.size, 1, none⟩ = some (.int .i64 st.place) := ((x4 hk3).1 _ 1 hz2 n1).trans q2; have hn3 := v6 ((q9 hn2).kept hk3); have hK3 := v6 ((q9 hK2).trans hk3); have hR3 := v6 ((q9 hR2).stepped hk3 hr3); clear hr3 hk3; simp only [tkV]))
          have ho3 : (v8 s st1).op = op := ho2
          go_region_with (first | (go_at_call 214; refine (q9 HF _ (v8 s st1) (q9 hR3) ho3).mono ?_; rintro e w4 ⟨hk4, h4⟩; rw [q9 HR2] at h4; subst h4; refine gone (w := w4) ⟨rfl, (q9 hK3).trans ((Kept.refl rb w3).drew.trans hk4), rfl⟩ ?_))
          all_goals trivial
        | ok hi st2 =>
          have HR2 := v6 hr2
          clear hr2
          go_enter Tryz.func256, Tryz.ntmps256
          go_wp2_with (first | (go_at_call_of 57 (Value.int IntKind.i64 10); refine (qb1 rb s st 10 _ (q9 H).size (q9 H).fine.after (q9 H).at' hlt (q9 H).err (q9 H10)).mono ?_; rintro e w1 ⟨rfl, hr1, hk1⟩; have hz1 := hk1.size; have n1 : ¬ w1.heap.size = rb := (by omega); have hR1 := v6 ((q9 R1 _ hk1 hr1).allocd (.cells #[.int .i64 st.tk.kind, .int .i64 st.place, .int .i64 st.tk.num, .string (BS st.tk.str)] 127)); have hK1 := v6 (hk1.alloc (.cells #[.int .i64 st.tk.kind, .int .i64 st.place, .int .i64 st.tk.num, .string (BS st.tk.str)] 127)); clear hr1 hk1; simp only [tkV]) | (go_at_call 214; refine (q9 HF _ (v8 s st) (q9 hR1) ho1).mono ?_; rintro e w2 ⟨hk2, h2⟩; rw [q9 HR1] at h2; obtain ⟨v2, rfl, hn2, hr2, hf2, ho2, hp2⟩ := h2; obtain ⟨vb, rfl⟩ := hn2.ptr; have hz2 : w1.heap.size < w2.heap.size := (by have := hk2.size; simp at this; omega); have q2 : w2.cell? ⟨w1.heap.size, 1, none⟩ = some (.int .i64 st.place) := ((x4 hk2).1 _ 1 (by simp) n1).trans (by simp); have hK2 := v6 ((q9 hK1).trans hk2); have hR2 := v6 ((q9 H).kept ((q9 hK1).trans hk2) hr2 hf2); have hn2 := v6 hn2; have hf2 := v6 hf2; clear hr2 hk2) | (go_at_call_of 57 (Value.int IntKind.i64 5); refine (qb1 rb s st1 5 _ (q9 hR2).size (q9 hR2).fine.after (q9 hR2).at' (q9 hR2).lt (q9 hR2).err (q9 H5)).mono ?_; rintro e w3 ⟨rfl, hr3, hk3⟩; have hz3 : w1.heap.size < w3.heap.size := (by have := hk3.size; omega); have q3 : w3.cell? ⟨w1.heap.size, 1, none⟩ = some (.int .i64 st.place) := ((x4 hk3).1 _ 1 hz2 n1).trans q2; have hn3 := v6 ((q9 hn2).kept hk3); have hK3 := v6 ((q9 hK2).trans hk3); have hR3 := v6 ((q9 hR2).stepped hk3 hr3); clear hr3 hk3; simp only [tkV]))
          have ho3 : (v8 s st1).op = op := ho2
          go_region_held3 (fun w' => w'.cell? ⟨w1.heap.size, 1, none⟩ = some (.int .i64 st.place)) (go_keep) (first | (go_at_call 214; refine (q9 HF _ (v8 s st1) (q9 hR3) ho3).mono ?_; rintro e w4 ⟨hk4, h4⟩; rw [q9 HR2] at h4; obtain ⟨v4, rfl, hn4, hr4, hf4, ho4, hp4⟩ := h4; obtain ⟨vc, rfl⟩ := hn4.ptr; have q4 : w4.cell? ⟨w1.heap.size, 1, none⟩ = some (.int .i64 st.place) := ((x4 hk4).1 _ 1 hz3 n1).trans q3; have hz4 : w1.heap.size < w4.heap.size := Nat.lt_of_lt_of_le hz3 hk4.size; have hk4 := v6 hk4; have hn4 := v6 hn4; have hr4 := v6 hr4; have hf4 := v6 hf4))
          go_wp2_with fail
          go_ret
          have hK4 := (q9 hK3).trans ((Kept.refl rb w3).drew.trans (q9 hk4))
          have hlt4 : rb < w4.heap.size := Nat.lt_of_lt_of_le hlt hK4.size
          refine ⟨(hK4.alloc _).alloc _, _, rfl, IsNode.three ((q9 HL).kept hK4) ((q9 hn3).kept ((Kept.refl rb w3).drew.trans (q9 hk4))) (q9 hn4) hlt4 20 st.place, ((q9 hr4).allocd _ hlt4).allocd _ (by simp; omega), q9 hf4, ho4, ?_⟩
          have h1 := (q9 hf2).le (q9 H50)
          omega
      · simp only [if_neg h5]
        have H5 := v6 h5
        clear h5
        go_enter Tryz.func256, Tryz.ntmps256
        go_wp2_with (first | (go_at_call_of 57 (Value.int IntKind.i64 10); refine (qb1 rb s st 10 _ (q9 H).size (q9 H).fine.after (q9 H).at' hlt (q9 H).err (q9 H10)).mono ?_; rintro e w1 ⟨rfl, hr1, hk1⟩; have hz1 := hk1.size; have n1 : ¬ w1.heap.size = rb := (by omega); have hR1 := v6 ((q9 R1 _ hk1 hr1).allocd (.cells #[.int .i64 st.tk.kind, .int .i64 st.place, .int .i64 st.tk.num, .string (BS st.tk.str)] 127)); have hK1 := v6 (hk1.alloc (.cells #[.int .i64 st.tk.kind, .int .i64 st.place, .int .i64 st.tk.num, .string (BS st.tk.str)] 127)); clear hr1 hk1; simp only [tkV]) | (go_at_call 214; refine (q9 HF _ (v8 s st) (q9 hR1) ho1).mono ?_; rintro e w2 ⟨hk2, h2⟩; rw [q9 HR1] at h2; obtain ⟨v2, rfl, hn2, hr2, hf2, ho2, hp2⟩ := h2; obtain ⟨vb, rfl⟩ := hn2.ptr; have hz2 : w1.heap.size < w2.heap.size := (by have := hk2.size; simp at this; omega); have q2 : w2.cell? ⟨w1.heap.size, 1, none⟩ = some (.int .i64 st.place) := ((x4 hk2).1 _ 1 (by simp) n1).trans (by simp); have hK2 := v6 ((q9 hK1).trans hk2); have hR2 := v6 ((q9 H).kept ((q9 hK1).trans hk2) hr2 hf2); have hn2 := v6 hn2; have hf2 := v6 hf2; clear hr2 hk2) | (go_at_call_of 57 (Value.int IntKind.i64 5); refine (qk5 rb s st1 5 _ (q9 hR2).at' (q9 hR2).lt (q9 H5)).mono ?_; rintro e w3 ⟨rfl, hk3⟩; simp only [x3]))
        exact ⟨rfl, (q9 hK2).trans hk3, rfl⟩
  · rw [qc9, if_neg h10]
    have H10 := v6 h10
    clear h h10
    go_enter Tryz.func256, Tryz.ntmps256
    go_wp2_with (go_at_call 57; refine (qk5 rb s st 10 _ (q9 H).at' hlt (q9 H10)).mono ?_; rintro e w1 ⟨rfl, hk1⟩; simp only [x3])
    exact ⟨rfl, hk1, rfl⟩
end
section
def qj1 (K : Nat) (rb : Nat) (s : ByteArray) (op : Nat) (k : Int) (g : Ast → St → Res) : Prop :=
  ∀ (w : World) (st : St) (l : Ast) (lv : Value), Ready rb s w st → st.op = op → IsNode rb w lv l → st.tk.kind = k → Calls Tryz.prog K #[.pointer (some ⟨rb, 0, none⟩), lv] w (Gives rb s w op st.place (g l st))
def y4 (s : ByteArray) (f : St → Res) (gI gL : Ast → St → Res) (bare : Bool) (l : Ast) (st : St) : Res :=
  if st.tk.kind = 11 ∧ bare = true then gI l st else if st.tk.kind = 12 ∧ bare = true then gL l st else qc9 s f l st
set_option maxHeartbeats 1000000 in
theorem qi7 (rb : Nat) (s : ByteArray) (op : Nat) (f : St → Res) (gI gL : Ast → St → Res) (hf : qe4 214 rb s op f) (hI : qj1 254 rb s op 11 gI) (hL : qj1 255 rb s op 12 gL)
    (bare : Bool) (w : World) (st : St) (l : Ast) (lv : Value) (h : Ready rb s w st) (ho : st.op = op) (hl : IsNode rb w lv l) :
    Calls Tryz.prog 216 #[.pointer (some ⟨rb, 0, none⟩), lv, .bool bare] w (Gives rb s w op st.place (y4 s f gI gL bare l st)) := by
  obtain ⟨c0, c1, c2, c3, c4, c5, c6, fz⟩ := h.at'
  have BET := v6 (jc9 rb s op f hf l lv w st h ho hl)
  have INN : Hid (st.tk.kind = 11 → Calls Tryz.prog 254 #[.pointer (some ⟨rb, 0, none⟩), lv] w (Gives rb s w op st.place (gI l st))) := v6 fun hk => hI w st l lv h ho hl hk
  have LIK : Hid (st.tk.kind = 12 → Calls Tryz.prog 255 #[.pointer (some ⟨rb, 0, none⟩), lv] w (Gives rb s w op st.place (gL l st))) := v6 fun hk => hL w st l lv h ho hl hk
  clear h hl hf hI hL
  by_cases h11 : st.tk.kind = 11
  · have e11 : (st.tk.kind == 11) = true := by rw [h11]; rfl
    have e12 : (st.tk.kind == 12) = false := by rw [h11]; rfl
    have HK := v6 h11
    cases bare with
    | false =>
      rw [y4, if_neg (by simp), if_neg (by simp)]
      clear h11
      go_enter Tryz.func216, Tryz.ntmps216
      go_wp2_with (go_at_call 256; refine (q9 BET).mono ?_; rintro e w' hg; rcases hg.cases with ⟨v, rfl, hg⟩ | ⟨en, pl, rfl, hg⟩; rotate_left; (exact ⟨rfl, hg⟩); have HG := v6 hg; clear hg)
      go_ret
      exact q9 HG
    | true =>
      rw [y4, if_pos ⟨h11, rfl⟩]
      clear h11
      go_enter Tryz.func216, Tryz.ntmps216
      go_wp2_with (go_at_call 254; refine (q9 INN (q9 HK)).mono ?_; rintro e w' hg; rcases hg.cases with ⟨v, rfl, hg⟩ | ⟨en, pl, rfl, hg⟩; rotate_left; (exact ⟨rfl, hg⟩); have HG := v6 hg; clear hg)
      go_ret
      exact q9 HG
  · have e11 : (st.tk.kind == 11) = false := beq_eq_false_iff_ne.2 h11
    by_cases h12 : st.tk.kind = 12
    · have e12 : (st.tk.kind == 12) = true := by rw [h12]; rfl
      have HK := v6 h12
      cases bare with
      | false =>
        rw [y4, if_neg (by simp), if_neg (by simp)]
        clear h11 h12
        go_enter Tryz.func216, Tryz.ntmps216
        go_wp2_with (go_at_call 256; refine (q9 BET).mono ?_; rintro e w' hg; rcases hg.cases with ⟨v, rfl, hg⟩ | ⟨en, pl, rfl, hg⟩; rotate_left; (exact ⟨rfl, hg⟩); have HG := v6 hg; clear hg)
        go_ret
        exact q9 HG
      | true =>
        rw [y4, if_neg (fun h => h11 h.1), if_pos ⟨h12, rfl⟩]
        clear h11 h12
        go_enter Tryz.func216, Tryz.ntmps216
        go_wp2_with (go_at_call 255; refine (q9 LIK (q9 HK)).mono ?_; rintro e w' hg; rcases hg.cases with ⟨v, rfl, hg⟩ | ⟨en, pl, rfl, hg⟩; rotate_left; (exact ⟨rfl, hg⟩); have HG := v6 hg; clear hg)
        go_ret
        exact q9 HG
    · have e12 : (st.tk.kind == 12) = false := beq_eq_false_iff_ne.2 h12
      rw [y4, if_neg (fun h => h11 h.1), if_neg (fun h => h12 h.1)]
      clear h11 h12
      cases bare with
      | false =>
        go_enter Tryz.func216, Tryz.ntmps216
        go_wp2_with (go_at_call 256; refine (q9 BET).mono ?_; rintro e w' hg; rcases hg.cases with ⟨v, rfl, hg⟩ | ⟨en, pl, rfl, hg⟩; rotate_left; (exact ⟨rfl, hg⟩); have HG := v6 hg; clear hg)
        go_ret
        exact q9 HG
      | true =>
        go_enter Tryz.func216, Tryz.ntmps216
        go_wp2_with (go_at_call 256; refine (q9 BET).mono ?_; rintro e w' hg; rcases hg.cases with ⟨v, rfl, hg⟩ | ⟨en, pl, rfl, hg⟩; rotate_left; (exact ⟨rfl, hg⟩); have HG := v6 hg; clear hg)
        go_ret
        exact q9 HG
end
section
theorem jg3 : (Tryz.prog.info? 9).map (fun i => (i.zero, i.size, i.bytes)) = some (some (.string ⟨#[]⟩), 1, 16) := by kernel_rfl
theorem vu3 {base e size n : Nat} {w : World} {v : Value} {xs : List Value} (h : w.ownsRow base e size v n xs) : ∃ a m c, v = .slice a m c := by
  rcases h.2 with ⟨rfl, _⟩ | ⟨g, cap, cur, rfl, _⟩
  · exact ⟨_, _, _, rfl⟩
  · exact ⟨_, _, _, rfl⟩
theorem in_more {rb B : Nat} {s : ByteArray} {w wr w5 w6 : World} {sl2 : St} {v v' : Value} {ts : List (List UInt8)} {t : List UInt8} {o : Obj} {pv : Value}
    (hown' : w6.ownsRow (B + 1) 9 1 v' (ts.length + 1) (qm8 ts ++ [.string (BS t)])) (hgrow : (w5.alloc o).grownBy w6 v.ownBlock) (hown : wr.ownsRow (B + 1) 9 1 v ts.length (qm8 ts))
    (hr : RdAt w5 rb s sl2) (hlt : rb < w5.heap.size) (hk : Kept rb w wr) (hk5 : Kept rb wr w5) (hcr : wr.cell? ⟨B, 1, none⟩ = some pv) (hBr : B < wr.heap.size) (hbase : rb < B) (hB : w.heap.size ≤ B) :
    w6.ownsRow (B + 1) 9 1 v' (ts ++ [t]).length (qm8 (ts ++ [t])) ∧ RdAt w6 rb s sl2 ∧ Kept rb w w6 ∧ w6.cell? ⟨B, 1, none⟩ = some pv ∧ B < w6.heap.size := by
  have hrow : ∀ k, v.ownBlock = some k → B + 1 ≤ k := fun k hk' => (hown.lt k hk').1
  have hz := hk5.size
  have hg := hgrow.size
  simp at hg
  refine ⟨by rw [List.length_append, qm8, List.map_append]; exact hown', (hr.allocd o hlt).grown hgrow (by simp; omega) (fun k hk' => by have := hrow k hk'; omega), ((hk.trans hk5).alloc o).grown hgrow (fun k hk' => by have := hrow k hk'; omega), ?_, by omega⟩
  refine hgrow.cell ?_ (fun e => by have := hrow B e.symm; omega)
  rw [World.cell?_alloc_past _ _ _ (by omega)]
  exact ((x4 hk5).1 B 1 hBr (by omega)).trans hcr
set_option maxHeartbeats 1000000 in
set_option maxRecDepth 100000 in
theorem in_reads (rb : Nat) (s : ByteArray) (op : Nat) (hs : s.size ≤ 200) : qj1 254 rb s op 11 (qm4 s) := by
  intro w st l lv h ho hl h11
  have H := v6 h
  have hlt := h.lt
  have hle1 := h.fine.lt (by rw [h11]; decide)
  have hf1 := h.fine.next
  have H11 := v6 h11
  obtain ⟨lb, rfl⟩ := hl.ptr
  have HL := v6 hl
  have RK : Hid (∀ w1 st1, Fine s st1 → Kept rb w w1 → RdAt w1 rb s st1 → Ready rb s w1 st1) := v6 fun w1 st1 hf hk hr => h.kept hk hr hf
  have HF1 := v6 hf1
  obtain ⟨i0, hi, hz0, hz1', hz2'⟩ := info_parts jg3
  clear h hl h11
  by_cases h26 : (v8 s st).tk.kind = 26
  · rw [qm4, if_pos h26]
    have hle2 := hf1.lt (by rw [h26]; decide)
    have HF2 := v6 hf1.next
    have H26 := v6 h26
    clear h26
    by_cases h4 : (v8 s (v8 s st)).tk.kind = 4
    · rw [if_pos h4]
      have hle3 := hf1.next.lt (by rw [h4]; decide)
      have HF3 := v6 hf1.next.next
      have H4 := v6 h4
      have FS := fun b => vy4 (v8 s (v8 s st)).tk.kind (v8 s (v8 s st)).place (v8 s (v8 s st)).tk.num b
      clear h4 hf1
      obtain ⟨R, hR⟩ : ∃ r, qf0 s l st.place (s.size + 1) [(v8 s (v8 s st)).tk.str] (v8 s (v8 s (v8 s st))) = r := ⟨_, rfl⟩
      rw [hR]
      have HR := v6 hR
      clear hR
      go_enter Tryz.func254, Tryz.ntmps254
      go_wp2_with (first | (go_at_call_of 57 (Value.int IntKind.i64 11); refine (qb1 rb s st 11 _ (q9 H).size (q9 H).fine.after (q9 H).at' hlt (q9 H).err (q9 H11)).mono ?_; rintro e w1 ⟨rfl, hr1, hk1⟩; have hz1 := hk1.size; have n1 : ¬ w1.heap.size = rb := (by omega); have hR1 := v6 ((q9 RK _ _ (q9 HF1) hk1 hr1).allocd (.cells #[.int .i64 st.tk.kind, .int .i64 st.place, .int .i64 st.tk.num, .string (BS st.tk.str)] 127)); have hK1 := v6 (hk1.alloc (.cells #[.int .i64 st.tk.kind, .int .i64 st.place, .int .i64 st.tk.num, .string (BS st.tk.str)] 127)); clear hr1 hk1; simp only [tkV]) | (go_at_call_of 57 (Value.int IntKind.i64 26); refine (qb1 rb s (v8 s st) 26 _ (q9 hR1).size (q9 hR1).fine.after (q9 hR1).at' (q9 hR1).lt (q9 hR1).err (q9 H26)).mono ?_; rintro e w2 ⟨rfl, hr2, hk2⟩; have hz2 : w1.heap.size < w2.heap.size := (by have := hk2.size; simp at this; omega); have q2 : w2.cell? ⟨w1.heap.size, 1, none⟩ = some (.int .i64 st.place) := ((x4 hk2).1 _ 1 (by simp) n1).trans (by simp); have hK2 := v6 ((q9 hK1).trans hk2); have hR2 := v6 (q9 RK _ _ (q9 HF2) (q9 hK2) hr2); clear hr2 hk2; simp only [tkV]) | (go_at_call_of 57 (Value.int IntKind.i64 4); refine (qb1 rb s (v8 s (v8 s st)) 4 _ (q9 hR2).size (q9 hR2).fine.after (q9 hR2).at' (q9 hR2).lt (q9 hR2).err (q9 H4)).mono ?_; rintro e w3 ⟨rfl, hr3, hk3⟩; have hz3 : w1.heap.size < w3.heap.size := (by have := hk3.size; omega); have q3 : w3.cell? ⟨w1.heap.size, 1, none⟩ = some (.int .i64 st.place) := ((x4 hk3).1 _ 1 hz2 n1).trans q2; have hK3 := v6 ((q9 hK2).trans hk3); have hR3 := v6 (q9 RK _ _ (q9 HF3) (q9 hK3) hr3); clear hr3 hk3; simp only [tkV]))
      go_loopw [6] (fun v wr => ∃ (n : Nat) (ts : List (List UInt8)) (sl : St), Hid (R = qf0 s l st.place n ts sl) ∧ s.size < n + sl.place ∧ Hid (wr.ownsRow (w1.heap.size + 1) 9 1 v ts.length (qm8 ts)) ∧ Hid (Ready rb s wr sl) ∧ sl.op = op ∧ ts.length ≤ sl.place ∧ st.place ≤ sl.place ∧ Hid (Kept rb w wr) ∧ wr.cell? ⟨w1.heap.size, 1, none⟩ = some (.int .i64 st.place) ∧ w1.heap.size < wr.heap.size) (fun v wr => s.size + 1 - plOf wr rb)
      case atStart => exact ⟨s.size + 1, _, _, v6 (q9 HR).symm, by omega, v6 (textRow _ _ (by omega) _), v6 ((q9 hR3).allocd _), ho, by simp; omega, by omega, v6 ((q9 hK3).alloc _), by rw [World.cell?_alloc_past _ _ _ (by first | omega | (simp; omega))]; exact q3, by simp; omega⟩
      case round =>
        obtain ⟨n, ts, sl, hR, hn, hown, hready, hopl, htl, hpl, hk, hcr, hBr⟩ := hrel
        have hfine := (q9 hready).fine
        have hfp := hfine.place
        obtain ⟨m, rfl⟩ : ∃ m, n = m + 1 := ⟨n - 1, by omega⟩
        have hltr := (q9 hready).lt
        have HPL := v6 (qs0 (q9 hready).at')
        have hbase : rb < w1.heap.size + 1 := by omega
        have HFS := v6 hfine.next
        have HFS2 := v6 hfine.next.next
        by_cases h28 : sl.tk.kind = 28
        · have H28 := v6 h28
          have hlp := hfine.lt (by rw [h28]; decide)
          by_cases h4 : (v8 s sl).tk.kind = 4
          · have H4 := v6 h4
            have hlp2 := hfine.next.lt (by rw [h4]; decide)
            have hfp2 := hfine.next.next.place
            have HRR : Hid (R = qf0 s l st.place m (ts ++ [(v8 s sl).tk.str]) (v8 s (v8 s sl))) := v6 (by rw [q9 hR, jg1 h28 h4])
            have FS := fun b => vy4 (v8 s sl).tk.kind (v8 s sl).place (v8 s sl).tk.num b
            clear hR h28 h4 hfine
            go_wp2_with (first | (go_at_call 253; refine (qx8 rb s sl 28 _ (q9 hready).size (q9 hready).fine.after (q9 hready).at' hltr (q9 hready).err (q9 H28)).mono ?_; rintro e w4 ⟨rfl, hr4, hk4⟩; have hk4 := v6 hk4; have hR4 := v6 ((q9 hready).kept (q9 hk4) hr4 (q9 HFS)); clear hr4) | (go_at_call_of 57 (Value.int IntKind.i64 4); refine (qb1 rb s (v8 s sl) 4 _ (q9 hR4).size (q9 hR4).fine.after (q9 hR4).at' (q9 hR4).lt (q9 hR4).err (q9 H4)).mono ?_; rintro e w5 ⟨rfl, hr5, hk5⟩; have hk5 := v6 ((q9 hk4).trans hk5); have hR5 := v6 ((q9 hready).kept (q9 hk5) hr5 (q9 HFS2)); clear hr5; have hz5 := (q9 hk5).size; have hown5 := qu0 (q9 hown) (q9 hk5) hbase; simp only [tkV]) | (at_builtin; refine wpList_append_own _ rfl _ _ 30 rfl (w1.heap.size + 1) 9 i0 (.string ⟨#[]⟩) 1 16 Tryz.underlying30 hi hz0 hz1' hz2' rfl (by decide) _ _ _ rfl (hown5.alloc _) ⟨w5.heap.size, 0, none⟩ 1 1 [.string (BS (v8 s sl).tk.str)] rfl rfl ?c1 ?c2 ?c3 ?c4 ?c5 ?_))
            case c1 =>
              intro j u hj
              match j, hj with
              | 0, hj => simp at hj; subst hj; simp [Addr.add]
              | j + 1, hj => simp at hj
            case c2 => intro u hu; simp at hu; subst hu; rfl
            case c3 => unfold maxLen; omega
            case c4 => omega
            case c5 => simp; omega
            · intro v' w6 hown' hgrow _
              have G := in_more hown' hgrow (q9 hown) (q9 hR5).at' (q9 hR5).lt (q9 hk) (q9 hk5) hcr hBr (by omega) (by omega)
              clear hown' hgrow hown hown5
              have HPL2 := v6 (qs0 G.2.1)
              have G := v6 G
              go_wp2_with fail
              go_roundw
              case rel => exact ⟨m, _, _, HRR, by omega, v6 (q9 G).1, v6 (q9 RK _ _ (q9 HFS2) (q9 G).2.2.1 (q9 G).2.1), hopl, by simp; omega, by omega, v6 (q9 G).2.2.1, (q9 G).2.2.2.1, (q9 G).2.2.2.2⟩
              case measure => rw [q9 HPL, q9 HPL2]; omega
          · have H4 := v6 h4
            have HRR : Hid (R = .err 2 (v8 s sl).place) := v6 (by rw [q9 hR, jt3 h28 h4])
            clear hR h28 h4 hfine
            go_wp2_with (first | (go_at_call 253; refine (qx8 rb s sl 28 _ (q9 hready).size (q9 hready).fine.after (q9 hready).at' hltr (q9 hready).err (q9 H28)).mono ?_; rintro e w4 ⟨rfl, hr4, hk4⟩; have hk4 := v6 hk4; have hR4 := v6 ((q9 hready).kept (q9 hk4) hr4 (q9 HFS)); clear hr4) | (go_at_call_of 57 (Value.int IntKind.i64 4); refine (qk5 rb s (v8 s sl) 4 _ (q9 hR4).at' (q9 hR4).lt (q9 H4)).mono ?_; rintro e w5 ⟨rfl, hk5⟩; simp only [x3]))
            rw [q9 HRR]
            exact ⟨rfl, ((q9 hk).trans (q9 hk4)).trans hk5, rfl⟩
        · have H28 := v6 h28
          by_cases h27 : sl.tk.kind = 27
          · have H27 := v6 h27
            have hlp := hfine.lt (by rw [h27]; decide)
            have HRR : Hid (R = .ok (.un ⟨21, st.place, 0, [], [], ts⟩ l) (v8 s sl)) := v6 (by rw [q9 hR, jt4 h28 h27])
            clear hR h28 h27 hfine
            obtain ⟨va, vn, vc, rfl⟩ := vu3 (q9 hown)
            go_wp2_with (first | (go_at_call 253; refine (vk7 rb s sl 28 _ (q9 hready).at' (q9 H28)).mono ?_; rintro e w4 ⟨rfl, rfl⟩) | (go_at_call_of 57 (Value.int IntKind.i64 27); refine (qb1 rb s sl 27 _ (q9 hready).size (q9 hready).fine.after (q9 hready).at' hltr (q9 hready).err (q9 H27)).mono ?_; rintro e w5 ⟨rfl, hr5, hk5⟩; have q5 : w5.cell? ⟨w1.heap.size, 1, none⟩ = some (.int .i64 st.place) := ((x4 hk5).1 _ 1 hBr n1).trans hcr; have hz5 := hk5.size; have hk5 := v6 hk5; have hr5 := v6 hr5; simp only [tkV]))
            go_ret
            rw [q9 HRR]
            have hK5 := (q9 hk).trans (q9 hk5)
            have hlt5 : rb < w5.heap.size := by omega
            refine ⟨(hK5.alloc _).alloc _, _, rfl, IsNode.texted ((q9 HL).kept hK5) hlt5 ((TextsAt.of_row (q9 hown) hbase).kept (q9 hk5)) 21 st.place [] [], ((q9 hr5).allocd _ hlt5).allocd _ (by simp; omega), q9 HFS, hopl, by omega⟩
          · have H27 := v6 h27
            have HRR : Hid (R = .err 2 sl.place) := v6 (by rw [q9 hR, jg2 h28 h27])
            clear hR h28 h27 hfine
            go_wp2_with (first | (go_at_call 253; refine (vk7 rb s sl 28 _ (q9 hready).at' (q9 H28)).mono ?_; rintro e w4 ⟨rfl, rfl⟩) | (go_at_call_of 57 (Value.int IntKind.i64 27); refine (qk5 rb s sl 27 _ (q9 hready).at' hltr (q9 H27)).mono ?_; rintro e w5 ⟨rfl, hk5⟩; simp only [x3]))
            rw [q9 HRR]
            exact ⟨rfl, (q9 hk).trans hk5, rfl⟩
    · rw [if_neg h4]
      have H4 := v6 h4
      clear h4 hf1
      go_enter Tryz.func254, Tryz.ntmps254
      go_wp2_with (first | (go_at_call_of 57 (Value.int IntKind.i64 11); refine (qb1 rb s st 11 _ (q9 H).size (q9 H).fine.after (q9 H).at' hlt (q9 H).err (q9 H11)).mono ?_; rintro e w1 ⟨rfl, hr1, hk1⟩; have hz1 := hk1.size; have n1 : ¬ w1.heap.size = rb := (by omega); have hR1 := v6 ((q9 RK _ _ (q9 HF1) hk1 hr1).allocd (.cells #[.int .i64 st.tk.kind, .int .i64 st.place, .int .i64 st.tk.num, .string (BS st.tk.str)] 127)); have hK1 := v6 (hk1.alloc (.cells #[.int .i64 st.tk.kind, .int .i64 st.place, .int .i64 st.tk.num, .string (BS st.tk.str)] 127)); clear hr1 hk1; simp only [tkV]) | (go_at_call_of 57 (Value.int IntKind.i64 26); refine (qb1 rb s (v8 s st) 26 _ (q9 hR1).size (q9 hR1).fine.after (q9 hR1).at' (q9 hR1).lt (q9 hR1).err (q9 H26)).mono ?_; rintro e w2 ⟨rfl, hr2, hk2⟩; have hz2 : w1.heap.size < w2.heap.size := (by have := hk2.size; simp at this; omega); have q2 : w2.cell? ⟨w1.heap.size, 1, none⟩ = some (.int .i64 st.place) := ((x4 hk2).1 _ 1 (by simp) n1).trans (by simp); have hK2 := v6 ((q9 hK1).trans hk2); have hR2 := v6 (q9 RK _ _ (q9 HF2) (q9 hK2) hr2); clear hr2 hk2; simp only [tkV]) | (go_at_call_of 57 (Value.int IntKind.i64 4); refine (qk5 rb s (v8 s (v8 s st)) 4 _ (q9 hR2).at' (q9 hR2).lt (q9 H4)).mono ?_; rintro e w3 ⟨rfl, hk3⟩; simp only [x3]))
      exact ⟨rfl, (q9 hK2).trans hk3, rfl⟩
  · rw [qm4, if_neg h26]
    have H26 := v6 h26
    clear h26 hf1
    go_enter Tryz.func254, Tryz.ntmps254
    go_wp2_with (first | (go_at_call_of 57 (Value.int IntKind.i64 11); refine (qb1 rb s st 11 _ (q9 H).size (q9 H).fine.after (q9 H).at' hlt (q9 H).err (q9 H11)).mono ?_; rintro e w1 ⟨rfl, hr1, hk1⟩; have hz1 := hk1.size; have n1 : ¬ w1.heap.size = rb := (by omega); have hR1 := v6 ((q9 RK _ _ (q9 HF1) hk1 hr1).allocd (.cells #[.int .i64 st.tk.kind, .int .i64 st.place, .int .i64 st.tk.num, .string (BS st.tk.str)] 127)); have hK1 := v6 (hk1.alloc (.cells #[.int .i64 st.tk.kind, .int .i64 st.place, .int .i64 st.tk.num, .string (BS st.tk.str)] 127)); clear hr1 hk1; simp only [tkV]) | (go_at_call_of 57 (Value.int IntKind.i64 26); refine (qk5 rb s (v8 s st) 26 _ (q9 hR1).at' (q9 hR1).lt (q9 H26)).mono ?_; rintro e w2 ⟨rfl, hk2⟩; simp only [x3]))
    exact ⟨rfl, (q9 hK1).trans hk2, rfl⟩
end
section
def qd4 (s : ByteArray) (l : Ast) (st : St) : Res :=
  if (v8 s st).tk.kind = 4 then
    (if (v8 s (v8 s st)).tk.kind = 13 then
      (match qy4 s (v8 s st).tk (v8 s st).place (v8 s (v8 s (v8 s st))) with
        | .ok str st' => .ok (.un ⟨22, st.place, 0, (v8 s st).tk.str, str, []⟩ l) st'
        | .err pl => .err 2 pl)
    else .ok (.un ⟨22, st.place, 0, (v8 s st).tk.str, [], []⟩ l) (v8 s (v8 s st)))
  else .err 2 (v8 s st).place
theorem va3 {s : ByteArray} {ft : Tk} {fp : Nat} {st : St} {str : List UInt8} {st' : St} (h : qy4 s ft fp st = .ok str st') : st.tk.kind = 4 ∧ st' = v8 s st := by
  unfold qy4 at h
  split at h
  · rename_i h4
    split at h
    · split at h
      · injection h with _ h2; exact ⟨h4, h2.symm⟩
      · cases h
    · cases h
  · cases h
set_option maxHeartbeats 1000000 in
set_option maxRecDepth 100000 in
theorem ju4 (rb : Nat) (s : ByteArray) (op : Nat) (hs : s.size ≤ 200) : qj1 255 rb s op 12 (qd4 s) := by
  intro w st l lv h ho hl h12
  have H := v6 h
  have hlt := h.lt
  have hf1 := h.fine.next
  have hp1 := h.fine.le (by rw [h12]; decide)
  have H12 := v6 h12
  obtain ⟨lb, rfl⟩ := hl.ptr
  have HL := v6 hl
  have RK : Hid (∀ w1 st1, Fine s st1 → Kept rb w w1 → RdAt w1 rb s st1 → Ready rb s w1 st1) := v6 fun w1 st1 hf hk hr => h.kept hk hr hf
  have hl1 : (v8 s st).tk.str.length ≤ 200 := Nat.le_trans (vr3 s st) hs
  have ho1 : (v8 s st).op = op := ho
  unfold qd4
  clear h hl h12
  obtain ⟨st1, h1⟩ : ∃ x, v8 s st = x := ⟨_, rfl⟩
  have S1 := v6 h1
  rw [h1] at hf1 hl1 ho1 hp1 ⊢
  clear h1
  have HF1 := v6 hf1
  by_cases h4 : st1.tk.kind = 4
  · rw [if_pos h4]
    have H4 := v6 h4
    have hf2 := hf1.next
    have hp2 := hf1.le (by rw [h4]; decide)
    have ho2 : (v8 s st1).op = op := ho1
    obtain ⟨st2, h2⟩ : ∃ x, v8 s st1 = x := ⟨_, rfl⟩
    have S2 := v6 h2
    rw [h2] at hf2 ho2 hp2 ⊢
    have HF2 := v6 hf2
    clear h4 h2 hf1
    by_cases h13 : st2.tk.kind = 13
    · rw [if_pos h13]
      have H13 := v6 h13
      have hf3 := hf2.next
      have hp3 := hf2.le (by rw [h13]; decide)
      have ho3 : (v8 s st2).op = op := ho2
      obtain ⟨st3, h3⟩ : ∃ x, v8 s st2 = x := ⟨_, rfl⟩
      have S3 := v6 h3
      rw [h3] at hf3 ho3 hp3 ⊢
      have HF3 := v6 hf3
      clear h13 h3 hf2
      cases he : qy4 s st1.tk st1.place st3 with
      | ok str st4 =>
        obtain ⟨hk4, h4'⟩ := va3 he
        have hf4 := hf3.next
        have hp4 := hf3.le (by rw [hk4]; decide)
        have ho4 : (v8 s st3).op = op := ho3
        rw [← h4'] at hf4 ho4 hp4
        have HE := v6 he
        have HF4 := v6 hf4
        clear he hf3 hf4 hk4 h4'
        go_enter Tryz.func255, Tryz.ntmps255
        go_wp2_with (first | (go_at_call_of 57 (Value.int IntKind.i64 12); refine (qb1 rb s st 12 _ (q9 H).size (q9 H).fine.after (q9 H).at' hlt (q9 H).err (q9 H12)).mono ?_; rw [q9 S1]; rintro e w1 ⟨rfl, hr1, hk1⟩; have hz1 := hk1.size; have n1 : ¬ w1.heap.size = rb := (by omega); have hR1 := v6 ((q9 RK _ _ (q9 HF1) hk1 hr1).allocd (.cells #[.int .i64 st.tk.kind, .int .i64 st.place, .int .i64 st.tk.num, .string (BS st.tk.str)] 127)); have hK1 := v6 (hk1.alloc (.cells #[.int .i64 st.tk.kind, .int .i64 st.place, .int .i64 st.tk.num, .string (BS st.tk.str)] 127)); clear hr1 hk1; simp only [tkV]) | (go_at_call_of 57 (Value.int IntKind.i64 4); refine (qb1 rb s st1 4 _ (q9 hR1).size (q9 hR1).fine.after (q9 hR1).at' (q9 hR1).lt (q9 hR1).err (q9 H4)).mono ?_; rw [q9 S2]; rintro e w2 ⟨rfl, hr2, hk2⟩; have hz2 : w1.heap.size < w2.heap.size := (by have := hk2.size; simp at this; omega); have n2 : ¬ w2.heap.size = rb := (by omega); have q2 : (w2.alloc (.cells #[.int .i64 st1.tk.kind, .int .i64 st1.place, .int .i64 st1.tk.num, .string (BS st1.tk.str)] 127)).cell? ⟨w1.heap.size, 1, none⟩ = some (.int .i64 st.place) := (by rw [World.cell?_alloc_past _ _ _ (by first | omega | (simp; omega))]; exact ((x4 hk2).1 _ 1 (by simp) n1).trans (by simp)); have hK2 := v6 (((q9 hK1).trans hk2).alloc (.cells #[.int .i64 st1.tk.kind, .int .i64 st1.place, .int .i64 st1.tk.num, .string (BS st1.tk.str)] 127)); have hR2 := v6 ((q9 RK _ _ (q9 HF2) ((q9 hK1).trans hk2) hr2).allocd (.cells #[.int .i64 st1.tk.kind, .int .i64 st1.place, .int .i64 st1.tk.num, .string (BS st1.tk.str)] 127)); clear hr2 hk2; simp only [tkV]) | (go_at_call 253; refine (qx8 rb s st2 13 _ (q9 hR2).size (q9 hR2).fine.after (q9 hR2).at' (q9 hR2).lt (q9 hR2).err (q9 H13)).mono ?_; rw [q9 S3]; rintro e w3 ⟨rfl, hr3, hk3⟩; have hz3 : w2.heap.size < w3.heap.size := (by have := hk3.size; simp at this; omega); obtain ⟨kc, kf⟩ := x4 hk3; have r0 : w3.cell? ⟨w2.heap.size, 0, none⟩ = some (.int .i64 st1.tk.kind) := (kc _ 0 (by simp) n2).trans (by simp); have r1 : w3.cell? ⟨w2.heap.size, 1, none⟩ = some (.int .i64 st1.place) := (kc _ 1 (by simp) n2).trans (by simp); have r2 : w3.cell? ⟨w2.heap.size, 2, none⟩ = some (.int .i64 st1.tk.num) := (kc _ 2 (by simp) n2).trans (by simp); have r3 : w3.cell? ⟨w2.heap.size, 3, none⟩ = some (.string (BS st1.tk.str)) := (kc _ 3 (by simp) n2).trans (by simp); have q3 : w3.cell? ⟨w1.heap.size, 1, none⟩ = some (.int .i64 st.place) := (kc _ 1 (by simp; omega) n1).trans q2; have hK3 := v6 ((q9 hK2).trans hk3); have hR3 := v6 (q9 RK _ _ (q9 HF3) (q9 hK3) hr3); clear hr3 hk3 kc kf) | (go_at_call 292; refine (vp8 rb s st1.tk st1.place hl1 _ st3 (q9 hR3)).mono ?_; rintro e w4 ⟨hk4, h4⟩; rw [q9 HE] at h4; obtain ⟨rfl, hr4⟩ := h4; have hz4 : w2.heap.size < w4.heap.size := (by have := hk4.size; omega); obtain ⟨kc, kf⟩ := x4 hk4; have u3 : w4.cell? ⟨w2.heap.size, 3, none⟩ = some (.string (BS st1.tk.str)) := (kc _ 3 hz3 n2).trans r3; have u1 : w4.cell? ⟨w1.heap.size, 1, none⟩ = some (.int .i64 st.place) := (kc _ 1 (by omega) n1).trans q3; have hK4 := v6 ((q9 hK3).trans hk4); have hr4 := v6 hr4; clear hk4 kc kf))
        go_ret
        have hlt4 : rb < w4.heap.size := Nat.lt_of_lt_of_le hlt (q9 hK4).size
        refine ⟨((q9 hK4).alloc _).alloc _, _, rfl, IsNode.texted ((q9 HL).kept (q9 hK4)) hlt4 (.inl ⟨rfl, rfl⟩) 22 st.place _ _, ((q9 hr4).allocd _ hlt4).allocd _ (by simp; omega), q9 HF4, ho4, by omega⟩
      | err pl =>
        have HE := v6 he
        clear he hf3
        go_enter Tryz.func255, Tryz.ntmps255
        go_wp2_with (first | (go_at_call_of 57 (Value.int IntKind.i64 12); refine (qb1 rb s st 12 _ (q9 H).size (q9 H).fine.after (q9 H).at' hlt (q9 H).err (q9 H12)).mono ?_; rw [q9 S1]; rintro e w1 ⟨rfl, hr1, hk1⟩; have hz1 := hk1.size; have n1 : ¬ w1.heap.size = rb := (by omega); have hR1 := v6 ((q9 RK _ _ (q9 HF1) hk1 hr1).allocd (.cells #[.int .i64 st.tk.kind, .int .i64 st.place, .int .i64 st.tk.num, .string (BS st.tk.str)] 127)); have hK1 := v6 (hk1.alloc (.cells #[.int .i64 st.tk.kind, .int .i64 st.place, .int .i64 st.tk.num, .string (BS st.tk.str)] 127)); clear hr1 hk1; simp only [tkV]) | (go_at_call_of 57 (Value.int IntKind.i64 4); refine (qb1 rb s st1 4 _ (q9 hR1).size (q9 hR1).fine.after (q9 hR1).at' (q9 hR1).lt (q9 hR1).err (q9 H4)).mono ?_; rw [q9 S2]; rintro e w2 ⟨rfl, hr2, hk2⟩; have hz2 : w1.heap.size < w2.heap.size := (by have := hk2.size; simp at this; omega); have n2 : ¬ w2.heap.size = rb := (by omega); have q2 : (w2.alloc (.cells #[.int .i64 st1.tk.kind, .int .i64 st1.place, .int .i64 st1.tk.num, .string (BS st1.tk.str)] 127)).cell? ⟨w1.heap.size, 1, none⟩ = some (.int .i64 st.place) := (by rw [World.cell?_alloc_past _ _ _ (by first | omega | (simp; omega))]; exact ((x4 hk2).1 _ 1 (by simp) n1).trans (by simp)); have hK2 := v6 (((q9 hK1).trans hk2).alloc (.cells #[.int .i64 st1.tk.kind, .int .i64 st1.place, .int .i64 st1.tk.num, .string (BS st1.tk.str)] 127)); have hR2 := v6 ((q9 RK _ _ (q9 HF2) ((q9 hK1).trans hk2) hr2).allocd (.cells #[.int .i64 st1.tk.kind, .int .i64 st1.place, .int .i64 st1.tk.num, .string (BS st1.tk.str)] 127)); clear hr2 hk2; simp only [tkV]) | (go_at_call 253; refine (qx8 rb s st2 13 _ (q9 hR2).size (q9 hR2).fine.after (q9 hR2).at' (q9 hR2).lt (q9 hR2).err (q9 H13)).mono ?_; rw [q9 S3]; rintro e w3 ⟨rfl, hr3, hk3⟩; have hz3 : w2.heap.size < w3.heap.size := (by have := hk3.size; simp at this; omega); obtain ⟨kc, kf⟩ := x4 hk3; have r0 : w3.cell? ⟨w2.heap.size, 0, none⟩ = some (.int .i64 st1.tk.kind) := (kc _ 0 (by simp) n2).trans (by simp); have r1 : w3.cell? ⟨w2.heap.size, 1, none⟩ = some (.int .i64 st1.place) := (kc _ 1 (by simp) n2).trans (by simp); have r2 : w3.cell? ⟨w2.heap.size, 2, none⟩ = some (.int .i64 st1.tk.num) := (kc _ 2 (by simp) n2).trans (by simp); have r3 : w3.cell? ⟨w2.heap.size, 3, none⟩ = some (.string (BS st1.tk.str)) := (kc _ 3 (by simp) n2).trans (by simp); have q3 : w3.cell? ⟨w1.heap.size, 1, none⟩ = some (.int .i64 st.place) := (kc _ 1 (by simp; omega) n1).trans q2; have hK3 := v6 ((q9 hK2).trans hk3); have hR3 := v6 (q9 RK _ _ (q9 HF3) (q9 hK3) hr3); clear hr3 hk3 kc kf) | (go_at_call 292; refine (vp8 rb s st1.tk st1.place hl1 _ st3 (q9 hR3)).mono ?_; rintro e w4 ⟨hk4, h4⟩; rw [q9 HE] at h4; subst h4; simp only [x3]))
        exact ⟨rfl, (q9 hK3).trans hk4, rfl⟩
    · rw [if_neg h13]
      have H13 := v6 h13
      clear h13 hf2
      go_enter Tryz.func255, Tryz.ntmps255
      go_wp2_with (first | (go_at_call_of 57 (Value.int IntKind.i64 12); refine (qb1 rb s st 12 _ (q9 H).size (q9 H).fine.after (q9 H).at' hlt (q9 H).err (q9 H12)).mono ?_; rw [q9 S1]; rintro e w1 ⟨rfl, hr1, hk1⟩; have hz1 := hk1.size; have n1 : ¬ w1.heap.size = rb := (by omega); have hR1 := v6 ((q9 RK _ _ (q9 HF1) hk1 hr1).allocd (.cells #[.int .i64 st.tk.kind, .int .i64 st.place, .int .i64 st.tk.num, .string (BS st.tk.str)] 127)); have hK1 := v6 (hk1.alloc (.cells #[.int .i64 st.tk.kind, .int .i64 st.place, .int .i64 st.tk.num, .string (BS st.tk.str)] 127)); clear hr1 hk1; simp only [tkV]) | (go_at_call_of 57 (Value.int IntKind.i64 4); refine (qb1 rb s st1 4 _ (q9 hR1).size (q9 hR1).fine.after (q9 hR1).at' (q9 hR1).lt (q9 hR1).err (q9 H4)).mono ?_; rw [q9 S2]; rintro e w2 ⟨rfl, hr2, hk2⟩; have hz2 : w1.heap.size < w2.heap.size := (by have := hk2.size; simp at this; omega); have n2 : ¬ w2.heap.size = rb := (by omega); have q2 : (w2.alloc (.cells #[.int .i64 st1.tk.kind, .int .i64 st1.place, .int .i64 st1.tk.num, .string (BS st1.tk.str)] 127)).cell? ⟨w1.heap.size, 1, none⟩ = some (.int .i64 st.place) := (by rw [World.cell?_alloc_past _ _ _ (by first | omega | (simp; omega))]; exact ((x4 hk2).1 _ 1 (by simp) n1).trans (by simp)); have hK2 := v6 (((q9 hK1).trans hk2).alloc (.cells #[.int .i64 st1.tk.kind, .int .i64 st1.place, .int .i64 st1.tk.num, .string (BS st1.tk.str)] 127)); have hR2 := v6 ((q9 RK _ _ (q9 HF2) ((q9 hK1).trans hk2) hr2).allocd (.cells #[.int .i64 st1.tk.kind, .int .i64 st1.place, .int .i64 st1.tk.num, .string (BS st1.tk.str)] 127)); clear hr2 hk2; simp only [tkV]) | (go_at_call 253; refine (vk7 rb s st2 13 _ (q9 hR2).at' (q9 H13)).mono ?_; rintro e w3 ⟨rfl, rfl⟩))
      go_ret
      have hK := q9 hK2
      have hlt4 := (q9 hR2).lt
      have hnode := IsNode.texted (ts := []) ((q9 HL).kept hK) hlt4 (.inl ⟨rfl, rfl⟩) 22 st.place st1.tk.str []
      refine ⟨(hK.alloc _).alloc _, _, rfl, by simpa [BS] using hnode, ((q9 hR2).at'.allocd _ hlt4).allocd _ (by simp; omega), q9 HF2, ho2, by omega⟩
  · rw [if_neg h4]
    have H4 := v6 h4
    clear h4 hf1
    go_enter Tryz.func255, Tryz.ntmps255
    go_wp2_with (first | (go_at_call_of 57 (Value.int IntKind.i64 12); refine (qb1 rb s st 12 _ (q9 H).size (q9 H).fine.after (q9 H).at' hlt (q9 H).err (q9 H12)).mono ?_; rw [q9 S1]; rintro e w1 ⟨rfl, hr1, hk1⟩; have hz1 := hk1.size; have n1 : ¬ w1.heap.size = rb := (by omega); have hR1 := v6 ((q9 RK _ _ (q9 HF1) hk1 hr1).allocd (.cells #[.int .i64 st.tk.kind, .int .i64 st.place, .int .i64 st.tk.num, .string (BS st.tk.str)] 127)); have hK1 := v6 (hk1.alloc (.cells #[.int .i64 st.tk.kind, .int .i64 st.place, .int .i64 st.tk.num, .string (BS st.tk.str)] 127)); clear hr1 hk1; simp only [tkV]) | (go_at_call_of 57 (Value.int IntKind.i64 4); refine (qk5 rb s st1 4 _ (q9 hR1).at' (q9 hR1).lt (q9 H4)).mono ?_; rintro e w2 ⟨rfl, hk2⟩; simp only [x3]))
    exact ⟨rfl, (q9 hK1).trans hk2, rfl⟩
end
end Go.Proofs.YtfkcaldjphakpabGreatDoor
