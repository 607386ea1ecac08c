/- A term as bytes. program.Read of any bytes. -/
import Derived.Test.YtfkcaldjphakpabGreatDoorM33
import Derived.Test.YtfkcaldjphakpabGreatDoorM11
import Derived.Deep.RegionWith
namespace Go.Proofs.YtfkcaldjphakpabGreatDoor
open Go.RowKit

section
set_option linter.unusedSimpArgs false
set_option linter.unusedVariables false
attribute [local go_sem ↓] app_fold

/-- While a term is written: the row, the term, and that they lie apart. -/
structure WSt (base : Nat) (W : World) (l : List UInt8) (tb : Nat) (t : Tm) (w' : World) (v' : Value) : Prop where
  ob : OB w' base v' l
  tm : TmAt w' tb t
  ne : v'.ownBlock ≠ some tb
  bel : Below base W w'
  ge : base ≤ w'.heap.size

theorem WSt.start {base : Nat} {W : World} {v : Value} {l : List UInt8} (h : OB W base v l) (hb : base ≤ W.heap.size) (t : Tm) (ty : TypeId) :
    WSt base W l W.heap.size t (W.alloc (.cells #[.int .i64 t.op, .int .i64 t.left, .int .i64 t.right, .int .i64 t.num, .string (BS t.str), .string (BS t.esc)] ty)) v := by
  refine ⟨World.ownsRow.alloc h _, ⟨by simp, ?_, ?_, ?_, ?_, ?_, ?_, fun j => ?_⟩, fun e => by have := (World.ownsRow.lt h _ e).2; omega, (Below.refl _ _).alloc hb _, by simp; omega⟩ <;> simp [go_sem]

theorem WSt.app {base : Nat} {W : World} {l : List UInt8} {tb : Nat} {t : Tm} {w' : World} {v' : Value} (h : WSt base W l tb t w' v') (x : UInt8) (xi : Int) (hx : xi = (x.toNat : Int)) (hn : l.length ≤ 1000000) (n : Nat) (hnl : l.length = n) (H : Nat) (hH : w'.heap.size = H) :
    ∃ g cap w5, (appSem #[36, 36] 36 #[v', .slice (some ⟨H, 0, none⟩) 1 1]).run Tryz.prog (w'.alloc (.cells #[.int .u8 xi] 5)) = .ok (.slice (some ⟨g, 0, none⟩) (n + 1) cap) w5 ∧
      Hid (WSt base W (l ++ [x]) tb t w5 (.slice (some ⟨g, 0, none⟩) (n + 1) cap)) := by
  subst hH hx hnl
  obtain ⟨i0, hi, hz0, hz1, hz2⟩ := info_parts info_byte
  have hge := h.ge
  have ha := World.ownsRow.alloc h.ob (.cells #[.int .u8 (x.toNat : Int)] 5)
  obtain ⟨g, cap, w5, hr, hown, hgrow, hat, _⟩ := run_append_lies (P := Tryz.prog) (w'.alloc (.cells #[.int .u8 (x.toNat : Int)] 5)) 36 36 base 5 i0 _ 1 1 Tryz.underlying36 hi hz0 hz1 hz2 rfl (by omega) v' l.length (byCells l) ha
    ⟨w'.heap.size, 0, none⟩ 1 1 [.int .u8 (x.toNat : Int)] rfl (World.news_of_block (cs := #[.int .u8 (x.toNat : Int)]) (t := 5) (fr := (0, 0)) (heap_alloc_new w' _)) (by simp [Value.oneCell']) (by omega) (by unfold maxLen; omega) (by omega) (by simp; omega) _ rfl
  have hz := hgrow.size
  simp at hz
  have htl := h.tm.lt
  have hb5 : Below base w' w5 := Go.RowKit.Below.grown (((Below.refl base w').alloc hge _)) hgrow (by simp; omega) (fun k hk => (ha.lt k hk).1)
  refine ⟨g, cap, w5, hr, hide ⟨?_, ?_, ?_, h.bel.trans hb5, by omega⟩⟩
  · show World.ownsRow _ _ _ _ _ _ _
    rw [List.length_append, List.length_singleton, byCells, List.map_append]
    exact hown
  · exact h.tm.same (by omega) ((hgrow.block tb (by simp; omega) (fun e => h.ne e.symm)).trans (Below.heap_alloc w' _ tb htl))
  · intro e
    have he : g = tb := by simpa [Value.ownBlock] using e
    subst he
    rcases hat with hat | hat
    · exact h.ne hat
    · simp at hat
      omega
end

section
attribute [local go_sem ↓] app_fold

theorem PsAt.new {w : World} {v : Value} {l : List UInt8} (h : BytesAt w w.heap.size v l) (ty : TypeId) : PsAt (w.alloc (.cells #[v, .bool false] ty)) w.heap.size ⟨l, false⟩ := by
  obtain ⟨a, c, rfl, hc, hx⟩ := h
  refine ⟨by simp, ⟨.slice a l.length c, by simp [go_sem], a, c, rfl, hc, fun i x hi => ?_⟩, by simp [go_sem], fun j => by simp [go_sem]⟩
  obtain ⟨b, o, ha, hb, hcell⟩ := hx i x hi
  exact ⟨b, o, ha, hb, ((((Below.refl w.heap.size w).alloc (Nat.le_refl _) _).cell (p := ⟨b, o + i, none⟩) hb)).trans hcell⟩

/-- The program's own block is made. -/
theorem RdL.start {w w2 : World} {rb : Nat} {s : Ps} (hp : PsAt w2 rb s) (hr : w.heap.size ≤ rb) (hb : Below w.heap.size w w2) (ty : TypeId) : RdL w (w2.alloc (.cells #[.slice none 0 0, .slice none 0 0] ty)) rb w2.heap.size s [] (.slice none 0 0) [] (.slice none 0 0) := by
  refine ⟨hp.alloc _, by simp [go_sem], by simp [go_sem], fun j => by simp [go_sem], hp.lt, by simp, TsAt.nil _ _, IsAt.nil _ _, fun g hg => by simp [Value.ownBlock] at hg, hr, hb.alloc hb.size _⟩
end

end Go.Proofs.YtfkcaldjphakpabGreatDoor
