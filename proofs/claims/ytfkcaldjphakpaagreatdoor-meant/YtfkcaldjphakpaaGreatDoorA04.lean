/- either, both, sum, product: rows of operators, each over what reads its operand. group and denial. sign, signed, denied. -/
import Derived.Test.YtfkcaldjphakpaaGreatDoorQRd6
namespace Go.Proofs.YtfkcaldjphakpaaGreatDoor
open Go.RowKit

section
theorem Ready.allocd {rb : Nat} {s : ByteArray} {w : World} {st : St} (h : Ready rb s w st) (o : Obj) : Ready rb s (w.alloc o) st :=
  h.kept ((Kept.refl rb w).alloc o) (h.at'.allocd o h.lt) h.fine

theorem Gives.from {rb : Nat} {s : ByteArray} {w w1 : World} {op lo : Nat} {r : Res} {e : Ending} {w' : World} (hk : Kept rb w w1) (h : Gives rb s w1 op lo r e w') : Gives rb s w op lo r e w' := ⟨hk.trans h.1, h.2⟩

theorem Gives.cases {rb : Nat} {s : ByteArray} {w : World} {op lo : Nat} {r : Res} {e : Ending} {w' : World} (h : Gives rb s w op lo r e w') : (∃ v, e = .returned v ∧ Gives rb s w op lo r (.returned v) w') ∨ (∃ en pl, e = gaveUp en pl ∧ Gives rb s w op lo r (gaveUp en pl) w') := by
  cases r with
  | ok t st => obtain ⟨hk, v, rfl, h2⟩ := h; exact .inl ⟨v, rfl, hk, v, rfl, h2⟩
  | err en pl => obtain ⟨hk, rfl⟩ := h; exact .inr ⟨en, pl, rfl, hk, rfl⟩

set_option maxHeartbeats 1000000 in
theorem either_reads (rb : Nat) (s : ByteArray) (op : Nat) (f : St → Res) (hf : Reads 102 rb s op f) : Reads 55 rb s op (rowRes s f [6]) := by
  intro w st h hop
  have H := hide h
  have HF := hide hf
  have hmf : ∀ (fn : Fn) (first cap : Array Value) (w : World), (Instr.makeFunc fn first cap).run Tryz.prog w = .ok (.func fn first cap) w := fun _ _ _ _ => rfl
  have hlt := h.lt
  clear h hf
  go_enter Tryz.func55, Tryz.ntmps55
  go_wp2_with fail
  refine (row_both rb w.heap.size 1 s op f (unhide HF) [6] (by decide) (by decide) st _ ((unhide H).allocd _) hop ?ks (by simp) (by omega)).mono ?_
  case ks =>
    intro j k hj
    match j, hj with
    | 0, hj => simp at hj; subst hj; simp
  rintro e w' hg
  rcases hg.cases with ⟨v, rfl, hg⟩ | ⟨en, pl, rfl, hg⟩
  · have HG := hide (hg.from ((Kept.refl rb w).alloc _))
    clear hg
    go_wp2_with fail
    go_ret
    exact unhide HG
  · exact ⟨rfl, hg.from ((Kept.refl rb w).alloc _)⟩

set_option maxHeartbeats 1000000 in
theorem both_reads (rb : Nat) (s : ByteArray) (op : Nat) (f : St → Res) (hf : Reads 147 rb s op f) : Reads 102 rb s op (rowRes s f [5]) := by
  intro w st h hop
  have H := hide h
  have HF := hide hf
  have hmf : ∀ (fn : Fn) (first cap : Array Value) (w : World), (Instr.makeFunc fn first cap).run Tryz.prog w = .ok (.func fn first cap) w := fun _ _ _ _ => rfl
  have hlt := h.lt
  clear h hf
  go_enter Tryz.func102, Tryz.ntmps102
  go_wp2_with fail
  refine (row_denied rb w.heap.size 1 s op f (unhide HF) [5] (by decide) (by decide) st _ ((unhide H).allocd _) hop ?ks (by simp) (by omega)).mono ?_
  case ks =>
    intro j k hj
    match j, hj with
    | 0, hj => simp at hj; subst hj; simp
  rintro e w' hg
  rcases hg.cases with ⟨v, rfl, hg⟩ | ⟨en, pl, rfl, hg⟩
  · have HG := hide (hg.from ((Kept.refl rb w).alloc _))
    clear hg
    go_wp2_with fail
    go_ret
    exact unhide HG
  · exact ⟨rfl, hg.from ((Kept.refl rb w).alloc _)⟩

set_option maxHeartbeats 1000000 in
theorem sum_reads (rb : Nat) (s : ByteArray) (op : Nat) (f : St → Res) (hf : Reads 266 rb s op f) : Reads 241 rb s op (rowRes s f [22, 23]) := by
  intro w st h hop
  have H := hide h
  have HF := hide hf
  have hmf : ∀ (fn : Fn) (first cap : Array Value) (w : World), (Instr.makeFunc fn first cap).run Tryz.prog w = .ok (.func fn first cap) w := fun _ _ _ _ => rfl
  have hlt := h.lt
  clear h hf
  go_enter Tryz.func241, Tryz.ntmps241
  go_wp2_with fail
  refine (row_product rb w.heap.size 2 s op f (unhide HF) [22, 23] (by decide) (by decide) st _ ((unhide H).allocd _) hop ?ks (by simp) (by omega)).mono ?_
  case ks =>
    intro j k hj
    match j, hj with
    | 0, hj => simp at hj; subst hj; simp
    | 1, hj => simp at hj; subst hj; simp
  rintro e w' hg
  rcases hg.cases with ⟨v, rfl, hg⟩ | ⟨en, pl, rfl, hg⟩
  · have HG := hide (hg.from ((Kept.refl rb w).alloc _))
    clear hg
    go_wp2_with fail
    go_ret
    exact unhide HG
  · exact ⟨rfl, hg.from ((Kept.refl rb w).alloc _)⟩

set_option maxHeartbeats 1000000 in
theorem product_reads (rb : Nat) (s : ByteArray) (op : Nat) (f : St → Res) (hf : Reads 301 rb s op f) : Reads 266 rb s op (rowRes s f [24, 25]) := by
  intro w st h hop
  have H := hide h
  have HF := hide hf
  have hmf : ∀ (fn : Fn) (first cap : Array Value) (w : World), (Instr.makeFunc fn first cap).run Tryz.prog w = .ok (.func fn first cap) w := fun _ _ _ _ => rfl
  have hlt := h.lt
  clear h hf
  go_enter Tryz.func266, Tryz.ntmps266
  go_wp2_with fail
  refine (row_signed rb w.heap.size 2 s op f (unhide HF) [24, 25] (by decide) (by decide) st _ ((unhide H).allocd _) hop ?ks (by simp) (by omega)).mono ?_
  case ks =>
    intro j k hj
    match j, hj with
    | 0, hj => simp at hj; subst hj; simp
    | 1, hj => simp at hj; subst hj; simp
  rintro e w' hg
  rcases hg.cases with ⟨v, rfl, hg⟩ | ⟨en, pl, rfl, hg⟩
  · have HG := hide (hg.from ((Kept.refl rb w).alloc _))
    clear hg
    go_wp2_with fail
    go_ret
    exact unhide HG
  · exact ⟨rfl, hg.from ((Kept.refl rb w).alloc _)⟩
end

section
/-- The reader behind a token that opened something. -/
def inSt (s : ByteArray) (st : St) : St := { stepSt s st with op := st.op + 1 }

def groupRes (s : ByteArray) (f : St → Res) (st : St) : Res := if st.op = 12 then .err 3 st.place else match f (inSt s st) with
  | .ok t st' => if st'.tk.kind = 27 then .ok t { stepSt s st' with op := st.op } else .err 2 st'.place
  | .err en pl => .err en pl

theorem Fine.op {s : ByteArray} {st : St} (h : Fine s st) (n : Nat) : Fine s { st with op := n } := ⟨h.place, h.after, h.long⟩

theorem Fine.next {s : ByteArray} {st : St} (h : Fine s st) : Fine s (stepSt s st) := stepSt_fine s st h.after
theorem Fine.le {s : ByteArray} {st : St} (h : Fine s st) (hk : st.tk.kind ≠ 0) : st.place ≤ (stepSt s st).place := Nat.le_trans (Nat.le_of_lt (h.long hk)) (stepSt_place s st)

set_option maxHeartbeats 1000000 in
theorem group_reads (rb : Nat) (s : ByteArray) (op : Nat) (hop : op ≤ 12) (f : St → Res) (hf : op < 12 → Reads 55 rb s (op + 1) f) (w : World) (st : St) (h : Ready rb s w st) (ho : st.op = op) (hk0 : st.tk.kind ≠ 0) :
    Calls Tryz.prog 331 #[.pointer (some ⟨rb, 0, none⟩)] w (Gives rb s w op st.place (groupRes s f st)) := by
  have H := hide h
  have hlt := h.lt
  by_cases h12 : st.op = 12
  · rw [groupRes, if_pos h12]
    have H12 := hide h12
    clear h hf h12
    go_enter Tryz.func331, Tryz.ntmps331
    go_wp2_with (go_at_call 199; refine (enter_no rb s st _ (unhide H).at' hlt (unhide H12)).mono ?_; rintro e w1 ⟨rfl, hk1⟩; simp only [gaveUp])
    exact ⟨rfl, hk1, rfl⟩
  · have hlt12 : op < 12 := by omega
    have HF := hide (hf hlt12)
    have hle := h.fine.le hk0
    rw [groupRes, if_neg h12]
    have HS : Hid (st.op < 12) := hide (by omega)
    have READY : ∀ w1, Kept rb w w1 → RdAt w1 rb s (inSt s st) → Ready rb s w1 (inSt s st) := fun w1 hk hr => h.kept hk hr (h.fine.next.op _)
    have HREADY := hide READY
    have hin : (inSt s st).op = op + 1 := by show st.op + 1 = op + 1; omega
    have HIN := hide hin
    clear h hf h12 READY hin
    cases hres : f (inSt s st) with
    | err en pl =>
      have HRES := hide hres
      clear hres
      go_enter Tryz.func331, Tryz.ntmps331
      go_wp2_with (first | (go_at_call 199; refine (enter_ok rb s st _ (unhide H).size (unhide H).fine.after (unhide H).at' hlt (unhide H).err (unhide H).glob (unhide HS)).mono ?_; rintro e w1 ⟨rfl, hr1, hk1⟩; have hr1 := hide hr1; have hk1 := hide hk1; simp only [tkV]) | (go_at_call 55; refine (unhide HF _ (inSt s st) (unhide HREADY _ (unhide hk1) (unhide hr1)) (unhide HIN)).mono ?_; rintro e w2 ⟨hk2, h2⟩; rw [unhide HRES] at h2; subst h2; simp only [gaveUp]))
      exact ⟨rfl, (unhide hk1).trans hk2, rfl⟩
    | ok t st2 =>
      have HRES := hide hres
      clear hres
      by_cases h27 : st2.tk.kind = 27
      · simp only [if_pos h27]
        have H27 := hide h27
        have Hne : Hid (st2.tk.kind ≠ 0) := hide (by rw [h27]; decide)
        clear h27
        go_enter Tryz.func331, Tryz.ntmps331
        go_wp2_with (first | (go_at_call 199; refine (enter_ok rb s st _ (unhide H).size (unhide H).fine.after (unhide H).at' hlt (unhide H).err (unhide H).glob (unhide HS)).mono ?_; rintro e w1 ⟨rfl, hr1, hk1⟩; have hr1 := hide hr1; have hk1 := hide hk1; simp only [tkV]) | (go_at_call 55; refine (unhide HF _ (inSt s st) (unhide HREADY _ (unhide hk1) (unhide hr1)) (unhide HIN)).mono ?_; rintro e w2 ⟨hk2, h2⟩; rw [unhide HRES] at h2; obtain ⟨v2, rfl, hn2, hr2, hf2, ho2, hp2⟩ := h2; obtain ⟨vb, rfl⟩ := hn2.ptr; have hR2 := hide ((unhide H).kept ((unhide hk1).trans hk2) hr2 hf2); have hn2 := hide hn2; have hk2 := hide hk2; have hf2 := hide hf2; have ho2 := hide ho2; clear hr2) | (go_at_call 56; refine (take_ok rb s st2 27 _ (unhide hR2).size (unhide hf2).after (unhide hR2).at' (unhide hR2).lt (unhide hR2).err (unhide H27)).mono ?_; rintro e w3 ⟨rfl, hr3, hk3⟩; have d6 : w3.cell? ⟨rb, 6, none⟩ = some (.int .i64 ((op : Int) + 1)) := (by rw [hr3.c6, stepSt_op, unhide ho2]; simp); have dz := hr3.fz; have hr3 := hide hr3; have hk3 := hide hk3; simp only [tkV]))
        go_ret
        refine ⟨(((unhide hk1).trans (unhide hk2)).trans (unhide hk3)).setCell 6 _, _, rfl, (unhide hn2).kept ((unhide hk3).setCell 6 _), (unhide hr3).setOp st.op _ (by omega), (unhide hf2).next.op _, ho, ?_⟩
        have h1 := (unhide hf2).le (unhide Hne)
        have h2 : (inSt s st).place = (stepSt s st).place := rfl
        show st.place ≤ (stepSt s st2).place
        omega
      · simp only [if_neg h27]
        have H27 := hide h27
        clear h27
        go_enter Tryz.func331, Tryz.ntmps331
        go_wp2_with (first | (go_at_call 199; refine (enter_ok rb s st _ (unhide H).size (unhide H).fine.after (unhide H).at' hlt (unhide H).err (unhide H).glob (unhide HS)).mono ?_; rintro e w1 ⟨rfl, hr1, hk1⟩; have hr1 := hide hr1; have hk1 := hide hk1; simp only [tkV]) | (go_at_call 55; refine (unhide HF _ (inSt s st) (unhide HREADY _ (unhide hk1) (unhide hr1)) (unhide HIN)).mono ?_; rintro e w2 ⟨hk2, h2⟩; rw [unhide HRES] at h2; obtain ⟨v2, rfl, hn2, hr2, hf2, ho2, hp2⟩ := h2; obtain ⟨vb, rfl⟩ := hn2.ptr; have hR2 := hide ((unhide H).kept ((unhide hk1).trans hk2) hr2 hf2); have hn2 := hide hn2; have hk2 := hide hk2; have hf2 := hide hf2; have ho2 := hide ho2; clear hr2) | (go_at_call 56; refine (take_no rb s st2 27 _ (unhide hR2).at' (unhide hR2).lt (unhide H27)).mono ?_; rintro e w3 ⟨rfl, hk3⟩; simp only [gaveUp]))
        exact ⟨rfl, ((unhide hk1).trans (unhide hk2)).trans hk3, rfl⟩

/-- A new term of one side. -/
theorem IsNode.one {rb : Nat} {w : World} {l : Ast} {lv : Value} (hl : IsNode rb w lv l) (hlt : rb < w.heap.size) (op place : Int) :
    IsNode rb ((w.alloc (.cells #[lv] 67)).alloc (.cells #[.int .i64 op, .int .i64 place, .slice (some ⟨w.heap.size, 0, none⟩) 1 1, .int .i64 0, .string ⟨#[]⟩, .string ⟨#[]⟩, .slice none 0 0] 102))
      (.pointer (some ⟨w.heap.size + 1, 0, none⟩)) (.un ⟨op, place, 0, [], [], []⟩ l) := by
  have hk : Kept rb w ((w.alloc (.cells #[lv] 67)).alloc (.cells #[.int .i64 op, .int .i64 place, .slice (some ⟨w.heap.size, 0, none⟩) 1 1, .int .i64 0, .string ⟨#[]⟩, .string ⟨#[]⟩, .slice none 0 0] 102)) := ((Kept.refl rb w).alloc _).alloc _
  refine ⟨w.heap.size + 1, w.heap.size, lv, rfl, ⟨by omega, by simp, by simp, by simp, by simp, by simp, by simp [BS], by simp [BS], .slice none 0 0, by simp, .inl ⟨rfl, rfl⟩⟩, hlt, by simp; omega, ?_, hl.kept hk⟩
  rw [World.cell?_alloc_past _ _ _ (by simp), World.cell?_alloc_at _ _ _ _ rfl]; rfl

set_option maxHeartbeats 1000000 in
theorem denial_any (rb : Nat) (x : Ast) (xv : Value) (place : Int) (w : World) (hx : IsNode rb w xv x) (hlt : rb < w.heap.size) :
    Calls Tryz.prog 200 #[xv, .int .i64 place] w fun e w' => (∃ v, e = .returned v ∧ IsNode rb w' v (.un ⟨5, place, 0, [], [], []⟩ x)) ∧ Below w.heap.size w w' := by
  obtain ⟨b, rfl⟩ := hx.ptr
  have HX := hide hx
  clear hx
  go_enter Tryz.func200, Tryz.ntmps200
  go_wp2_with fail
  go_ret
  exact ⟨⟨_, rfl, (unhide HX).one hlt 5 place⟩, below2 _ _ _⟩
end

section
def signRes (s : ByteArray) (f : St → Res) (o : Int) (st : St) : Res := if st.op = 12 then .err 3 st.place else match f (inSt s st) with
  | .ok x st' => .ok (.un ⟨o, st.place, 0, [], [], []⟩ x) { st' with op := st.op }
  | .err en pl => .err en pl

set_option maxHeartbeats 1000000 in
theorem sign_reads (rb : Nat) (s : ByteArray) (op : Nat) (hop : op ≤ 12) (f : St → Res) (hf : op < 12 → Reads 301 rb s (op + 1) f) (o : Int) (w : World) (st : St) (h : Ready rb s w st) (ho : st.op = op) (hk0 : st.tk.kind ≠ 0) :
    Calls Tryz.prog 330 #[.pointer (some ⟨rb, 0, none⟩), .int .i64 o] w (Gives rb s w op st.place (signRes s f o st)) := by
  have H := hide h
  have hlt := h.lt
  by_cases h12 : st.op = 12
  · rw [signRes, if_pos h12]
    have H12 := hide h12
    clear h hf h12
    go_enter Tryz.func330, Tryz.ntmps330
    go_wp2_with (go_at_call 199; refine (enter_no rb s st _ (unhide H).at' hlt (unhide H12)).mono ?_; rintro e w1 ⟨rfl, hk1⟩; simp only [gaveUp])
    exact ⟨rfl, hk1, rfl⟩
  · have hlt12 : op < 12 := by omega
    have HF := hide (hf hlt12)
    have hle := h.fine.le hk0
    rw [signRes, if_neg h12]
    have HS : Hid (st.op < 12) := hide (by omega)
    have READY : ∀ w1, Kept rb w w1 → RdAt w1 rb s (inSt s st) → Ready rb s w1 (inSt s st) := fun w1 hk hr => h.kept hk hr (h.fine.next.op _)
    have HREADY := hide READY
    have hin : (inSt s st).op = op + 1 := by show st.op + 1 = op + 1; omega
    have HIN := hide hin
    clear h hf h12 READY hin
    cases hres : f (inSt s st) with
    | err en pl =>
      have HRES := hide hres
      clear hres
      go_enter Tryz.func330, Tryz.ntmps330
      go_wp2_with (first | (go_at_call 199; refine (enter_ok rb s st _ (unhide H).size (unhide H).fine.after (unhide H).at' hlt (unhide H).err (unhide H).glob (unhide HS)).mono ?_; rintro e w1 ⟨rfl, hr1, hk1⟩; have hr1 := hide hr1; have hk1 := hide hk1; simp only [tkV]) | (go_at_call 301; refine (unhide HF _ (inSt s st) ((unhide HREADY _ (unhide hk1) (unhide hr1)).allocd _) (unhide HIN)).mono ?_; rintro e w2 ⟨hk2, h2⟩; rw [unhide HRES] at h2; subst h2; simp only [gaveUp]))
      exact ⟨rfl, ((unhide hk1).alloc _).trans hk2, rfl⟩
    | ok x st2 =>
      have HRES := hide hres
      clear hres
      go_enter Tryz.func330, Tryz.ntmps330
      go_wp2_with (first | (go_at_call 199; refine (enter_ok rb s st _ (unhide H).size (unhide H).fine.after (unhide H).at' hlt (unhide H).err (unhide H).glob (unhide HS)).mono ?_; rintro e w1 ⟨rfl, hr1, hk1⟩; have hz1 := hk1.size; have hr1 := hide hr1; have hk1 := hide hk1; have n1 : ¬ w1.heap.size = rb := (by omega); have n2 : ¬ rb = w1.heap.size := (by omega); simp only [tkV]) | (go_at_call 301; refine (unhide HF _ (inSt s st) ((unhide HREADY _ (unhide hk1) (unhide hr1)).allocd _) (unhide HIN)).mono ?_; rintro e w2 ⟨hk2, h2⟩; rw [unhide HRES] at h2; obtain ⟨v2, rfl, hn2, hr2, hf2, ho2, hp2⟩ := h2; obtain ⟨vb, rfl⟩ := hn2.ptr; have hz2 : w1.heap.size < w2.heap.size := (by have := hk2.size; simp at this; omega); have q1 : w2.cell? ⟨w1.heap.size, 1, none⟩ = some (.int .i64 st.place) := ((kcell hk2).1 _ 1 (by simp) n1).trans (by simp); have d6 : w2.cell? ⟨rb, 6, none⟩ = some (.int .i64 ((op : Int) + 1)) := (by rw [hr2.c6, ho2]; simp); have dz := hr2.fz; have hr2 := hide hr2; have hn2 := hide hn2; have hk2 := hide hk2; have hf2 := hide hf2; have ho2 := hide ho2))
      go_ret
      have hlt2 : rb < w2.heap.size := by omega
      refine ⟨((((((unhide hk1).alloc _).trans (unhide hk2)).setCell 6 _).alloc _).alloc _), _, rfl, ?_, ?_, (unhide hf2).op _, ho, ?_⟩
      · have := IsNode.one ((unhide hn2).kept ((Kept.refl rb w2).setCell 6 (.int .i64 (op : Int)))) (by rw [size_setCell]; exact hlt2) o st.place
        simpa using this
      · exact (((unhide hr2).setOp st.op _ (by omega)).allocd _ (by simpa using hlt2)).allocd _ (by simp; omega)
      · have h2 : (inSt s st).place = (stepSt s st).place := rfl
        show st.place ≤ st2.place
        omega
end

end Go.Proofs.YtfkcaldjphakpaaGreatDoor
