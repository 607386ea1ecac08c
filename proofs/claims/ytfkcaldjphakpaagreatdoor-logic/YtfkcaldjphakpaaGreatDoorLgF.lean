/- Logic. -/
import Derived.Test.YtfkcaldjphakpaaGreatDoorLgB
import Derived.Test.YtfkcaldjphakpaaGreatDoorLgD
import Derived.Test.YtfkcaldjphakpaaGreatDoorLgE
namespace Go.Proofs.YtfkcaldjphakpaaGreatDoor
open Go.RowKit

theorem of_and6 (ps : List Pr) (x y : Ast) : ofA ps (.bin ⟨6, 0, 0, [], [], []⟩ x y) = andV (ofA ps x) (ofA ps y) := rfl
theorem of_or7 (ps : List Pr) (x y : Ast) : ofA ps (.bin ⟨7, 0, 0, [], [], []⟩ x y) = orV (ofA ps x) (ofA ps y) := rfl
theorem of_not5 (ps : List Pr) (x : Ast) : ofA ps (.un ⟨5, 0, 0, [], [], []⟩ x) = notV (ofA ps x) := rfl

theorem app_data (a b : ByteArray) : (a ++ b).data.toList = a.data.toList ++ b.data.toList := by
  rw [ByteArray.data_append, Array.toList_append]

theorem logic_all (p q : ByteArray) (hp : p.size ≤ 140737488351232) (hq : q.size ≤ 140737488351232) (ps : List Pr) (ev : Value) (w : World) (hE : ErrOk w) (hev : EvIn w ev ps) (hg : EvGood ps) :
    Calls Tryz.prog 7 #[.string p, .string q, ev] w fun e w' => e = .returned (.bool true) ∧ Below w.heap.size w w' := by
  obtain ⟨ea, n, c, rfl⟩ := hev.slice
  have RD : ∀ w1, Below w.heap.size w w1 → Calls Tryz.prog 22 #[] w1 fun e w' => e = .returned (.bool true) ∧ Below w1.heap.size w1 w' := fun w1 hb => reads_any w1 (hE.below hb (Nat.le_refl _))
  have EV : ∀ s w1, Below w.heap.size w w1 → Calls Tryz.prog 23 #[.string s, .slice ea n c] w1 fun e w' => e = .returned (.tuple #[vV (evalR s ps).val, .int .i64 (evalR s ps).errno, .int .i64 (evalR s ps).place]) ∧ Below w1.heap.size w1 w' :=
    fun s w1 hb => eval_all s ps _ w1 (hE.below hb (Nat.le_refl _)) (hev.below hb) hg
  have a1 : ∀ w : World, (Op.stringOp .add ⟨#[40]⟩ p).run Tryz.prog w = .ok (.string (⟨#[40]⟩ ++ p)) w := fun w => run_string_add_sum (P := Tryz.prog) (w := w) _ _ (by show 1 + p.size ≤ _; omega)
  have z1 : (⟨#[40]⟩ ++ p : ByteArray).size = 1 + p.size := ByteArray.size_append
  generalize eA1 : (⟨#[40]⟩ ++ p : ByteArray) = A1 at *
  have a2 : ∀ w : World, (Op.stringOp .add A1 ⟨#[41, 32, 65, 78, 68, 32, 40]⟩).run Tryz.prog w = .ok (.string (A1 ++ ⟨#[41, 32, 65, 78, 68, 32, 40]⟩)) w := fun w => run_string_add_sum (P := Tryz.prog) (w := w) _ _ (by show A1.size + 7 ≤ _; omega)
  have z2 : (A1 ++ ⟨#[41, 32, 65, 78, 68, 32, 40]⟩ : ByteArray).size = A1.size + 7 := ByteArray.size_append
  generalize eA2 : (A1 ++ ⟨#[41, 32, 65, 78, 68, 32, 40]⟩ : ByteArray) = A2 at *
  have a3 : ∀ w : World, (Op.stringOp .add A2 q).run Tryz.prog w = .ok (.string (A2 ++ q)) w := fun w => run_string_add_sum (P := Tryz.prog) (w := w) _ _ (by omega)
  have z3 : (A2 ++ q : ByteArray).size = A2.size + q.size := ByteArray.size_append
  generalize eA3 : (A2 ++ q : ByteArray) = A3 at *
  have a4 : ∀ w : World, (Op.stringOp .add A3 ⟨#[41]⟩).run Tryz.prog w = .ok (.string (A3 ++ ⟨#[41]⟩)) w := fun w => run_string_add_sum (P := Tryz.prog) (w := w) _ _ (by show A3.size + 1 ≤ _; omega)
  generalize eA4 : (A3 ++ ⟨#[41]⟩ : ByteArray) = A4 at *
  have o2 : ∀ w : World, (Op.stringOp .add A1 ⟨#[41, 32, 79, 82, 32, 40]⟩).run Tryz.prog w = .ok (.string (A1 ++ ⟨#[41, 32, 79, 82, 32, 40]⟩)) w := fun w => run_string_add_sum (P := Tryz.prog) (w := w) _ _ (by show A1.size + 6 ≤ _; omega)
  have y2 : (A1 ++ ⟨#[41, 32, 79, 82, 32, 40]⟩ : ByteArray).size = A1.size + 6 := ByteArray.size_append
  generalize eO2 : (A1 ++ ⟨#[41, 32, 79, 82, 32, 40]⟩ : ByteArray) = O2 at *
  have o3 : ∀ w : World, (Op.stringOp .add O2 q).run Tryz.prog w = .ok (.string (O2 ++ q)) w := fun w => run_string_add_sum (P := Tryz.prog) (w := w) _ _ (by omega)
  have y3 : (O2 ++ q : ByteArray).size = O2.size + q.size := ByteArray.size_append
  generalize eO3 : (O2 ++ q : ByteArray) = O3 at *
  have o4 : ∀ w : World, (Op.stringOp .add O3 ⟨#[41]⟩).run Tryz.prog w = .ok (.string (O3 ++ ⟨#[41]⟩)) w := fun w => run_string_add_sum (P := Tryz.prog) (w := w) _ _ (by show O3.size + 1 ≤ _; omega)
  generalize eO4 : (O3 ++ ⟨#[41]⟩ : ByteArray) = O4 at *
  have n1 : ∀ w : World, (Op.stringOp .add ⟨#[78, 79, 84, 32, 40]⟩ p).run Tryz.prog w = .ok (.string (⟨#[78, 79, 84, 32, 40]⟩ ++ p)) w := fun w => run_string_add_sum (P := Tryz.prog) (w := w) _ _ (by show 5 + p.size ≤ _; omega)
  have x1 : (⟨#[78, 79, 84, 32, 40]⟩ ++ p : ByteArray).size = 5 + p.size := ByteArray.size_append
  generalize eN1 : (⟨#[78, 79, 84, 32, 40]⟩ ++ p : ByteArray) = N1 at *
  have n2 : ∀ w : World, (Op.stringOp .add N1 ⟨#[41]⟩).run Tryz.prog w = .ok (.string (N1 ++ ⟨#[41]⟩)) w := fun w => run_string_add_sum (P := Tryz.prog) (w := w) _ _ (by show N1.size + 1 ≤ _; omega)
  generalize eN2 : (N1 ++ ⟨#[41]⟩ : ByteArray) = N2 at *
  by_cases hf : (evalR p ps).errno = 0
  · by_cases hg' : (evalR q ps).errno = 0
    · obtain ⟨t1, r1, ok, v1⟩ := evalR_zero hf
      obtain ⟨t2, r2, _, v2⟩ := evalR_zero hg'
      have w1 := wfb_ofA ok t1
      have w2 := wfb_ofA ok t2
      have B1 := bigR_of (read_and r1 r2 A4 (by rw [← eA4, ← eA3, ← eA2, ← eA1]; simp only [app_data]; simp)) ok
      have B2 := bigR_of (read_or r1 r2 O4 (by rw [← eO4, ← eO3, ← eO2, ← eA1]; simp only [app_data]; simp)) ok
      have B3 := bigR_of (read_not r1 N2 (by rw [← eN2, ← eN1]; simp only [app_data]; simp)) ok
      rw [of_and6, of_erase, of_erase, ← kAnd_eq w1 w2, ← v1, ← v2] at B1
      rw [of_or7, of_erase, of_erase, ← kOr_eq w1 w2, ← v1, ← v2] at B2
      rw [of_not5, of_erase, ← v1] at B3
      have hF : ((evalR p ps).errno != 0) = false := by rw [hf]; rfl
      have hG : ((evalR q ps).errno != 0) = false := by rw [hg']; rfl
      rcases B1 with ⟨x, bx⟩ | ⟨x, cx⟩ <;> rcases B2 with ⟨y, by'⟩ | ⟨y, cy⟩ <;> rcases B3 with ⟨z, bz⟩ | ⟨z, cz⟩
      · exact logic_cbbb p q A1 A2 A3 A4 O2 O3 O4 N1 N2 ea n c _ _ _ _ _ _ _ _ _ _ _ _ _ _ _ w a1 a2 a3 a4 o2 o3 o4 n1 n2 RD (EV p) (EV q) (EV A4) (EV O4) (EV N2) hF hG x bx y by' z bz
      · exact logic_cbbo p q A1 A2 A3 A4 O2 O3 O4 N1 N2 ea n c _ _ _ _ _ _ _ _ _ _ _ _ _ _ _ w a1 a2 a3 a4 o2 o3 o4 n1 n2 RD (EV p) (EV q) (EV A4) (EV O4) (EV N2) hF hG x bx y by' z cz
      · exact logic_cbob p q A1 A2 A3 A4 O2 O3 O4 N1 N2 ea n c _ _ _ _ _ _ _ _ _ _ _ _ _ _ _ w a1 a2 a3 a4 o2 o3 o4 n1 n2 RD (EV p) (EV q) (EV A4) (EV O4) (EV N2) hF hG x bx y cy z bz
      · exact logic_cboo p q A1 A2 A3 A4 O2 O3 O4 N1 N2 ea n c _ _ _ _ _ _ _ _ _ _ _ _ _ _ _ w a1 a2 a3 a4 o2 o3 o4 n1 n2 RD (EV p) (EV q) (EV A4) (EV O4) (EV N2) hF hG x bx y cy z cz
      · exact logic_cobb p q A1 A2 A3 A4 O2 O3 O4 N1 N2 ea n c _ _ _ _ _ _ _ _ _ _ _ _ _ _ _ w a1 a2 a3 a4 o2 o3 o4 n1 n2 RD (EV p) (EV q) (EV A4) (EV O4) (EV N2) hF hG x cx y by' z bz
      · exact logic_cobo p q A1 A2 A3 A4 O2 O3 O4 N1 N2 ea n c _ _ _ _ _ _ _ _ _ _ _ _ _ _ _ w a1 a2 a3 a4 o2 o3 o4 n1 n2 RD (EV p) (EV q) (EV A4) (EV O4) (EV N2) hF hG x cx y by' z cz
      · exact logic_coob p q A1 A2 A3 A4 O2 O3 O4 N1 N2 ea n c _ _ _ _ _ _ _ _ _ _ _ _ _ _ _ w a1 a2 a3 a4 o2 o3 o4 n1 n2 RD (EV p) (EV q) (EV A4) (EV O4) (EV N2) hF hG x cx y cy z bz
      · exact logic_cooo p q A1 A2 A3 A4 O2 O3 O4 N1 N2 ea n c _ _ _ _ _ _ _ _ _ _ _ _ _ _ _ w a1 a2 a3 a4 o2 o3 o4 n1 n2 RD (EV p) (EV q) (EV A4) (EV O4) (EV N2) hF hG x cx y cy z cz
    · exact logic_g p q A1 A2 A3 A4 O2 O3 O4 N1 N2 ea n c _ _ _ _ _ _ _ _ _ _ _ _ _ _ _ w a1 a2 a3 a4 o2 o3 o4 n1 n2 RD (EV p) (EV q) (EV A4) (EV O4) (EV N2) (by rw [hf]; rfl) (by simpa using hg')
  · exact logic_f p q A1 A2 A3 A4 O2 O3 O4 N1 N2 ea n c _ _ _ _ _ _ _ _ _ _ _ _ _ _ _ w a1 a2 a3 a4 o2 o3 o4 n1 n2 RD (EV p) (EV q) (EV A4) (EV O4) (EV N2) (by simpa using hf)

end Go.Proofs.YtfkcaldjphakpaaGreatDoor
