/- A term as bytes. program.Read of any bytes. -/
import Derived.Test.YtfkcaldjphakpabGreatDoorN31
import Derived.Test.YtfkcaldjphakpabGreatDoorN13
import Derived.Deep.RegionWith
namespace Go.Proofs.YtfkcaldjphakpabGreatDoor
open Go.RowKit

section
set_option linter.unusedSimpArgs false
set_option linter.unusedVariables false
attribute [local go_sem ↓] app_fold

/-- A term as bytes; LIKE is written elsewhere. -/
def encT (t : Tm) : List UInt8 :=
  if t.op = 1 then UInt8.ofNat t.op :: nBytes t.num 8
  else if t.op = 22 then [UInt8.ofNat t.op, UInt8.ofNat t.left] ++ lenB t.esc ++ lenB t.str
  else if t.op = 0 ∨ t.op = 2 then UInt8.ofNat t.op :: lenB t.str
  else if isPair t.op then [UInt8.ofNat t.op, UInt8.ofNat t.right, UInt8.ofNat t.left]
  else if t.op = 5 ∨ t.op = 23 then [UInt8.ofNat t.op, UInt8.ofNat t.left]
  else [UInt8.ofNat t.op]

/-- While a term is written: the row, the term, and that they lie apart. -/
structure WSt (base : Nat) (W : World) (l : List UInt8) (tb : Nat) (t : Tm) (w' : World) (v' : Value) : Prop where
  ob : OB w' base v' l
  tm : TmAt w' tb t
  ne : v'.ownBlock ≠ some tb
  bel : Below base W w'
  ge : base ≤ w'.heap.size

theorem WSt.start {base : Nat} {W : World} {v : Value} {l : List UInt8} (h : OB W base v l) (hb : base ≤ W.heap.size) (t : Tm) (ty : TypeId) :
    WSt base W l W.heap.size t (W.alloc (.cells #[.int .i64 t.op, .int .i64 t.left, .int .i64 t.right, .int .i64 t.num, .string (BS t.str), .string (BS t.esc)] ty)) v := by
  refine ⟨World.ownsRow.alloc h _, ⟨by simp, ?_, ?_, ?_, ?_, ?_, ?_, fun j => ?_⟩, fun e => by have := (World.ownsRow.lt h _ e).2; omega, (Below.refl _ _).alloc hb _, by simp; omega⟩ <;> simp [go_sem]

theorem WSt.app {base : Nat} {W : World} {l : List UInt8} {tb : Nat} {t : Tm} {w' : World} {v' : Value} (h : WSt base W l tb t w' v') (x : UInt8) (xi : Int) (hx : xi = (x.toNat : Int)) (hn : l.length ≤ 1000000) (n : Nat) (hnl : l.length = n) (H : Nat) (hH : w'.heap.size = H) :
    ∃ g cap w5, (appSem #[36, 36] 36 #[v', .slice (some ⟨H, 0, none⟩) 1 1]).run Tryz.prog (w'.alloc (.cells #[.int .u8 xi] 5)) = .ok (.slice (some ⟨g, 0, none⟩) (n + 1) cap) w5 ∧
      Hid (WSt base W (l ++ [x]) tb t w5 (.slice (some ⟨g, 0, none⟩) (n + 1) cap)) := by
  subst hH hx hnl
  obtain ⟨i0, hi, hz0, hz1, hz2⟩ := info_parts info_byte
  have hge := h.ge
  have ha := World.ownsRow.alloc h.ob (.cells #[.int .u8 (x.toNat : Int)] 5)
  obtain ⟨g, cap, w5, hr, hown, hgrow, hat, _⟩ := run_append_lies (P := Tryz.prog) (w'.alloc (.cells #[.int .u8 (x.toNat : Int)] 5)) 36 36 base 5 i0 _ 1 1 Tryz.underlying36 hi hz0 hz1 hz2 rfl (by omega) v' l.length (byCells l) ha
    ⟨w'.heap.size, 0, none⟩ 1 1 [.int .u8 (x.toNat : Int)] rfl (World.news_of_block (cs := #[.int .u8 (x.toNat : Int)]) (t := 5) (fr := (0, 0)) (heap_alloc_new w' _)) (by simp [Value.oneCell']) (by omega) (by unfold maxLen; omega) (by omega) (by simp; omega) _ rfl
  have hz := hgrow.size
  simp at hz
  have htl := h.tm.lt
  have hb5 : Below base w' w5 := Go.RowKit.Below.grown (((Below.refl base w').alloc hge _)) hgrow (by simp; omega) (fun k hk => (ha.lt k hk).1)
  refine ⟨g, cap, w5, hr, hide ⟨?_, ?_, ?_, h.bel.trans hb5, by omega⟩⟩
  · show World.ownsRow _ _ _ _ _ _ _
    rw [List.length_append, List.length_singleton, byCells, List.map_append]
    exact hown
  · exact h.tm.same (by omega) ((hgrow.block tb (by simp; omega) (fun e => h.ne e.symm)).trans (Below.heap_alloc w' _ tb htl))
  · intro e
    have he : g = tb := by simpa [Value.ownBlock] using e
    subst he
    rcases hat with hat | hat
    · exact h.ne hat
    · simp at hat
      omega

structure SmallT (t : Tm) : Prop where
  left : t.left ≤ 255
  right : t.right ≤ 255
  str : t.str.length ≤ 255
  esc : t.esc.length ≤ 255

theorem u8_of {n : Nat} (h : n ≤ 255) : (n : Int) = ((UInt8.ofNat n).toNat : Int) := by rw [UInt8.toNat_ofNat']; omega

set_option maxRecDepth 100000 in
set_option maxHeartbeats 800000 in
theorem write_0 (base : Nat) (v : Value) (l : List UInt8) (t : Tm) (W : World) (h : OB W base v l) (hb : base ≤ W.heap.size) (hn : l.length ≤ 800000) (ht : SmallT t) (ho : t.op = 0) (Q : Ending → World → Prop) (hQ : ∀ e w', WrEnds base W (l ++ encT t) e w' → Q e w') :
    Calls Tryz.prog 63 #[tmV t, v] W Q := by
  have hE : encT t = UInt8.ofNat 0 :: lenB t.str := by simp [encT, ho, isPair]
  have HQ := hide hQ
  rw [hE] at HQ
  clear hQ
  have S0 := hide (WSt.start h hb t 142)
  obtain ⟨a, c, rfl⟩ := h.form
  have hl := ht.left
  have hr := ht.right
  have hl0 : (0 : Int) ≤ (t.left : Int) := by omega
  have hl1 : (t.left : Int) < 256 := by omega
  have hr0 : (0 : Int) ≤ (t.right : Int) := by omega
  have hr1 : (t.right : Int) < 256 := by omega
  obtain ⟨n, hnl⟩ : ∃ n, l.length = n := ⟨_, rfl⟩
  have HNL := hide hnl
  rw [hnl] at S0 hn ⊢
  obtain ⟨g1, cap1, w1, hap1, S1⟩ := (unhide S0).app (UInt8.ofNat 0) 0 (by decide) (by omega) n hnl (W.heap.size + 1) (by simp)
  obtain ⟨tl1, a0, a1, a2, a3, a4, a5, af⟩ := (unhide S1).tm
  have hs := ht.str
  have WN := hide (writeText_any base (.slice (some ⟨g1, 0, none⟩) (n + 1) cap1) (l ++ [UInt8.ofNat 0]) t.str w1 (unhide S1).ob (unhide S1).ge (by simp; omega) (by omega) _ (fun e w' h => h))
  unfold tmV
  have e0 : (t.op : Int) = 0 := by omega
  rw [e0] at a0 hap1 ⊢
  clear hE ho h hl hr ht hnl hn hb e0 S0
  go_enter Tryz.func63, Tryz.ntmps63
  go_wp2_with (go_at_call 96; refine (unhide WN).mono ?_; rintro e w2 ⟨v2, rfl, ho2, hb2⟩; have HO2 := hide ho2; have HB2 := hide hb2; clear ho2 hb2)
  exact unhide HQ _ _ ⟨_, rfl, by have := unhide HO2; rw [List.append_assoc] at this; exact this, (unhide S1).bel.trans (unhide HB2)⟩

set_option maxRecDepth 100000 in
set_option maxHeartbeats 800000 in
theorem write_1 (base : Nat) (v : Value) (l : List UInt8) (t : Tm) (W : World) (h : OB W base v l) (hb : base ≤ W.heap.size) (hn : l.length ≤ 800000) (ht : SmallT t) (ho : t.op = 1) (Q : Ending → World → Prop) (hQ : ∀ e w', WrEnds base W (l ++ encT t) e w' → Q e w') :
    Calls Tryz.prog 63 #[tmV t, v] W Q := by
  have hE : encT t = UInt8.ofNat 1 :: nBytes t.num 8 := by simp [encT, ho, isPair]
  have HQ := hide hQ
  rw [hE] at HQ
  clear hQ
  have S0 := hide (WSt.start h hb t 142)
  obtain ⟨a, c, rfl⟩ := h.form
  have hl := ht.left
  have hr := ht.right
  have hl0 : (0 : Int) ≤ (t.left : Int) := by omega
  have hl1 : (t.left : Int) < 256 := by omega
  have hr0 : (0 : Int) ≤ (t.right : Int) := by omega
  have hr1 : (t.right : Int) < 256 := by omega
  obtain ⟨n, hnl⟩ : ∃ n, l.length = n := ⟨_, rfl⟩
  have HNL := hide hnl
  rw [hnl] at S0 hn ⊢
  obtain ⟨g1, cap1, w1, hap1, S1⟩ := (unhide S0).app (UInt8.ofNat 1) 1 (by decide) (by omega) n hnl (W.heap.size + 1) (by simp)
  obtain ⟨tl1, a0, a1, a2, a3, a4, a5, af⟩ := (unhide S1).tm
  have WN := hide (writeNumber_any base (.slice (some ⟨g1, 0, none⟩) (n + 1) cap1) (l ++ [UInt8.ofNat 1]) t.num w1 (unhide S1).ob (unhide S1).ge (by simp; omega) _ (fun e w' h => h))
  unfold tmV
  have e0 : (t.op : Int) = 1 := by omega
  rw [e0] at a0 hap1 ⊢
  clear hE ho h hl hr ht hnl hn hb e0 S0
  go_enter Tryz.func63, Tryz.ntmps63
  go_wp2_with (go_at_call 95; refine (unhide WN).mono ?_; rintro e w2 ⟨v2, rfl, ho2, hb2⟩; have HO2 := hide ho2; have HB2 := hide hb2; clear ho2 hb2)
  exact unhide HQ _ _ ⟨_, rfl, by have := unhide HO2; rw [List.append_assoc] at this; exact this, (unhide S1).bel.trans (unhide HB2)⟩

set_option maxRecDepth 100000 in
set_option maxHeartbeats 800000 in
theorem write_2 (base : Nat) (v : Value) (l : List UInt8) (t : Tm) (W : World) (h : OB W base v l) (hb : base ≤ W.heap.size) (hn : l.length ≤ 800000) (ht : SmallT t) (ho : t.op = 2) (Q : Ending → World → Prop) (hQ : ∀ e w', WrEnds base W (l ++ encT t) e w' → Q e w') :
    Calls Tryz.prog 63 #[tmV t, v] W Q := by
  have hE : encT t = UInt8.ofNat 2 :: lenB t.str := by simp [encT, ho, isPair]
  have HQ := hide hQ
  rw [hE] at HQ
  clear hQ
  have S0 := hide (WSt.start h hb t 142)
  obtain ⟨a, c, rfl⟩ := h.form
  have hl := ht.left
  have hr := ht.right
  have hl0 : (0 : Int) ≤ (t.left : Int) := by omega
  have hl1 : (t.left : Int) < 256 := by omega
  have hr0 : (0 : Int) ≤ (t.right : Int) := by omega
  have hr1 : (t.right : Int) < 256 := by omega
  obtain ⟨n, hnl⟩ : ∃ n, l.length = n := ⟨_, rfl⟩
  have HNL := hide hnl
  rw [hnl] at S0 hn ⊢
  obtain ⟨g1, cap1, w1, hap1, S1⟩ := (unhide S0).app (UInt8.ofNat 2) 2 (by decide) (by omega) n hnl (W.heap.size + 1) (by simp)
  obtain ⟨tl1, a0, a1, a2, a3, a4, a5, af⟩ := (unhide S1).tm
  have hs := ht.str
  have WN := hide (writeText_any base (.slice (some ⟨g1, 0, none⟩) (n + 1) cap1) (l ++ [UInt8.ofNat 2]) t.str w1 (unhide S1).ob (unhide S1).ge (by simp; omega) (by omega) _ (fun e w' h => h))
  unfold tmV
  have e0 : (t.op : Int) = 2 := by omega
  rw [e0] at a0 hap1 ⊢
  clear hE ho h hl hr ht hnl hn hb e0 S0
  go_enter Tryz.func63, Tryz.ntmps63
  go_wp2_with (go_at_call 96; refine (unhide WN).mono ?_; rintro e w2 ⟨v2, rfl, ho2, hb2⟩; have HO2 := hide ho2; have HB2 := hide hb2; clear ho2 hb2)
  exact unhide HQ _ _ ⟨_, rfl, by have := unhide HO2; rw [List.append_assoc] at this; exact this, (unhide S1).bel.trans (unhide HB2)⟩

set_option maxRecDepth 100000 in
set_option maxHeartbeats 800000 in
theorem write_3 (base : Nat) (v : Value) (l : List UInt8) (t : Tm) (W : World) (h : OB W base v l) (hb : base ≤ W.heap.size) (hn : l.length ≤ 800000) (ht : SmallT t) (ho : t.op = 3) (Q : Ending → World → Prop) (hQ : ∀ e w', WrEnds base W (l ++ encT t) e w' → Q e w') :
    Calls Tryz.prog 63 #[tmV t, v] W Q := by
  have hE : encT t = [UInt8.ofNat 3] := by simp [encT, ho, isPair]
  have HQ := hide hQ
  rw [hE] at HQ
  clear hQ
  have S0 := hide (WSt.start h hb t 142)
  obtain ⟨a, c, rfl⟩ := h.form
  have hl := ht.left
  have hr := ht.right
  have hl0 : (0 : Int) ≤ (t.left : Int) := by omega
  have hl1 : (t.left : Int) < 256 := by omega
  have hr0 : (0 : Int) ≤ (t.right : Int) := by omega
  have hr1 : (t.right : Int) < 256 := by omega
  obtain ⟨n, hnl⟩ : ∃ n, l.length = n := ⟨_, rfl⟩
  have HNL := hide hnl
  rw [hnl] at S0 hn ⊢
  obtain ⟨g1, cap1, w1, hap1, S1⟩ := (unhide S0).app (UInt8.ofNat 3) 3 (by decide) (by omega) n hnl (W.heap.size + 1) (by simp)
  obtain ⟨tl1, a0, a1, a2, a3, a4, a5, af⟩ := (unhide S1).tm
  unfold tmV
  have e0 : (t.op : Int) = 3 := by omega
  rw [e0] at a0 hap1 ⊢
  clear hE ho h hl hr ht hnl hn hb e0 S0
  go_enter Tryz.func63, Tryz.ntmps63
  go_wp2_with fail
  exact unhide HQ _ _ ⟨_, rfl, (unhide S1).ob, (unhide S1).bel⟩

set_option maxRecDepth 100000 in
set_option maxHeartbeats 800000 in
theorem write_4 (base : Nat) (v : Value) (l : List UInt8) (t : Tm) (W : World) (h : OB W base v l) (hb : base ≤ W.heap.size) (hn : l.length ≤ 800000) (ht : SmallT t) (ho : t.op = 4) (Q : Ending → World → Prop) (hQ : ∀ e w', WrEnds base W (l ++ encT t) e w' → Q e w') :
    Calls Tryz.prog 63 #[tmV t, v] W Q := by
  have hE : encT t = [UInt8.ofNat 4] := by simp [encT, ho, isPair]
  have HQ := hide hQ
  rw [hE] at HQ
  clear hQ
  have S0 := hide (WSt.start h hb t 142)
  obtain ⟨a, c, rfl⟩ := h.form
  have hl := ht.left
  have hr := ht.right
  have hl0 : (0 : Int) ≤ (t.left : Int) := by omega
  have hl1 : (t.left : Int) < 256 := by omega
  have hr0 : (0 : Int) ≤ (t.right : Int) := by omega
  have hr1 : (t.right : Int) < 256 := by omega
  obtain ⟨n, hnl⟩ : ∃ n, l.length = n := ⟨_, rfl⟩
  have HNL := hide hnl
  rw [hnl] at S0 hn ⊢
  obtain ⟨g1, cap1, w1, hap1, S1⟩ := (unhide S0).app (UInt8.ofNat 4) 4 (by decide) (by omega) n hnl (W.heap.size + 1) (by simp)
  obtain ⟨tl1, a0, a1, a2, a3, a4, a5, af⟩ := (unhide S1).tm
  unfold tmV
  have e0 : (t.op : Int) = 4 := by omega
  rw [e0] at a0 hap1 ⊢
  clear hE ho h hl hr ht hnl hn hb e0 S0
  go_enter Tryz.func63, Tryz.ntmps63
  go_wp2_with fail
  exact unhide HQ _ _ ⟨_, rfl, (unhide S1).ob, (unhide S1).bel⟩

set_option maxRecDepth 100000 in
set_option maxHeartbeats 800000 in
theorem write_5 (base : Nat) (v : Value) (l : List UInt8) (t : Tm) (W : World) (h : OB W base v l) (hb : base ≤ W.heap.size) (hn : l.length ≤ 800000) (ht : SmallT t) (ho : t.op = 5) (Q : Ending → World → Prop) (hQ : ∀ e w', WrEnds base W (l ++ encT t) e w' → Q e w') :
    Calls Tryz.prog 63 #[tmV t, v] W Q := by
  have hE : encT t = [UInt8.ofNat 5, UInt8.ofNat t.left] := by simp [encT, ho, isPair]
  have HQ := hide hQ
  rw [hE] at HQ
  clear hQ
  have S0 := hide (WSt.start h hb t 142)
  obtain ⟨a, c, rfl⟩ := h.form
  have hl := ht.left
  have hr := ht.right
  have hl0 : (0 : Int) ≤ (t.left : Int) := by omega
  have hl1 : (t.left : Int) < 256 := by omega
  have hr0 : (0 : Int) ≤ (t.right : Int) := by omega
  have hr1 : (t.right : Int) < 256 := by omega
  obtain ⟨n, hnl⟩ : ∃ n, l.length = n := ⟨_, rfl⟩
  have HNL := hide hnl
  rw [hnl] at S0 hn ⊢
  obtain ⟨g1, cap1, w1, hap1, S1⟩ := (unhide S0).app (UInt8.ofNat 5) 5 (by decide) (by omega) n hnl (W.heap.size + 1) (by simp)
  obtain ⟨tl1, a0, a1, a2, a3, a4, a5, af⟩ := (unhide S1).tm
  obtain ⟨g2, cap2, w2, hap2, S2⟩ := (unhide S1).app (UInt8.ofNat t.left) (t.left : Int) (u8_of hl) (by simp; omega) (n + 1) (by simp [hnl]) _ rfl
  unfold tmV
  have e0 : (t.op : Int) = 5 := by omega
  rw [e0] at a0 hap1 ⊢
  clear hE ho h hl hr ht hnl hn hb e0 S0
  go_enter Tryz.func63, Tryz.ntmps63
  go_wp2_with fail
  exact unhide HQ _ _ ⟨_, rfl, by have := (unhide S2).ob; rw [List.append_assoc] at this; exact this, (unhide S2).bel⟩

set_option maxRecDepth 100000 in
set_option maxHeartbeats 800000 in
theorem write_6 (base : Nat) (v : Value) (l : List UInt8) (t : Tm) (W : World) (h : OB W base v l) (hb : base ≤ W.heap.size) (hn : l.length ≤ 800000) (ht : SmallT t) (ho : t.op = 6) (Q : Ending → World → Prop) (hQ : ∀ e w', WrEnds base W (l ++ encT t) e w' → Q e w') :
    Calls Tryz.prog 63 #[tmV t, v] W Q := by
  have hE : encT t = [UInt8.ofNat 6, UInt8.ofNat t.right, UInt8.ofNat t.left] := by simp [encT, ho, isPair]
  have HQ := hide hQ
  rw [hE] at HQ
  clear hQ
  have S0 := hide (WSt.start h hb t 142)
  obtain ⟨a, c, rfl⟩ := h.form
  have hl := ht.left
  have hr := ht.right
  have hl0 : (0 : Int) ≤ (t.left : Int) := by omega
  have hl1 : (t.left : Int) < 256 := by omega
  have hr0 : (0 : Int) ≤ (t.right : Int) := by omega
  have hr1 : (t.right : Int) < 256 := by omega
  obtain ⟨n, hnl⟩ : ∃ n, l.length = n := ⟨_, rfl⟩
  have HNL := hide hnl
  rw [hnl] at S0 hn ⊢
  obtain ⟨g1, cap1, w1, hap1, S1⟩ := (unhide S0).app (UInt8.ofNat 6) 6 (by decide) (by omega) n hnl (W.heap.size + 1) (by simp)
  obtain ⟨tl1, a0, a1, a2, a3, a4, a5, af⟩ := (unhide S1).tm
  obtain ⟨g2, cap2, w2, hap2, S2⟩ := (unhide S1).app (UInt8.ofNat t.right) (t.right : Int) (u8_of hr) (by simp; omega) (n + 1) (by simp [hnl]) _ rfl
  obtain ⟨tl2, b0, b1, b2, b3, b4, b5, bf⟩ := (unhide S2).tm
  obtain ⟨g3, cap3, w3, hap3, S3⟩ := (unhide S2).app (UInt8.ofNat t.left) (t.left : Int) (u8_of hl) (by simp; omega) (n + 1 + 1) (by simp [hnl]) _ rfl
  unfold tmV
  have e0 : (t.op : Int) = 6 := by omega
  rw [e0] at a0 hap1 b0 ⊢
  clear hE ho h hl hr ht hnl hn hb e0 S0
  go_enter Tryz.func63, Tryz.ntmps63
  go_wp2_with fail
  exact unhide HQ _ _ ⟨_, rfl, by have := (unhide S3).ob; rw [List.append_assoc, List.append_assoc] at this; exact this, (unhide S3).bel⟩

set_option maxRecDepth 100000 in
set_option maxHeartbeats 800000 in
theorem write_7 (base : Nat) (v : Value) (l : List UInt8) (t : Tm) (W : World) (h : OB W base v l) (hb : base ≤ W.heap.size) (hn : l.length ≤ 800000) (ht : SmallT t) (ho : t.op = 7) (Q : Ending → World → Prop) (hQ : ∀ e w', WrEnds base W (l ++ encT t) e w' → Q e w') :
    Calls Tryz.prog 63 #[tmV t, v] W Q := by
  have hE : encT t = [UInt8.ofNat 7, UInt8.ofNat t.right, UInt8.ofNat t.left] := by simp [encT, ho, isPair]
  have HQ := hide hQ
  rw [hE] at HQ
  clear hQ
  have S0 := hide (WSt.start h hb t 142)
  obtain ⟨a, c, rfl⟩ := h.form
  have hl := ht.left
  have hr := ht.right
  have hl0 : (0 : Int) ≤ (t.left : Int) := by omega
  have hl1 : (t.left : Int) < 256 := by omega
  have hr0 : (0 : Int) ≤ (t.right : Int) := by omega
  have hr1 : (t.right : Int) < 256 := by omega
  obtain ⟨n, hnl⟩ : ∃ n, l.length = n := ⟨_, rfl⟩
  have HNL := hide hnl
  rw [hnl] at S0 hn ⊢
  obtain ⟨g1, cap1, w1, hap1, S1⟩ := (unhide S0).app (UInt8.ofNat 7) 7 (by decide) (by omega) n hnl (W.heap.size + 1) (by simp)
  obtain ⟨tl1, a0, a1, a2, a3, a4, a5, af⟩ := (unhide S1).tm
  obtain ⟨g2, cap2, w2, hap2, S2⟩ := (unhide S1).app (UInt8.ofNat t.right) (t.right : Int) (u8_of hr) (by simp; omega) (n + 1) (by simp [hnl]) _ rfl
  obtain ⟨tl2, b0, b1, b2, b3, b4, b5, bf⟩ := (unhide S2).tm
  obtain ⟨g3, cap3, w3, hap3, S3⟩ := (unhide S2).app (UInt8.ofNat t.left) (t.left : Int) (u8_of hl) (by simp; omega) (n + 1 + 1) (by simp [hnl]) _ rfl
  unfold tmV
  have e0 : (t.op : Int) = 7 := by omega
  rw [e0] at a0 hap1 b0 ⊢
  clear hE ho h hl hr ht hnl hn hb e0 S0
  go_enter Tryz.func63, Tryz.ntmps63
  go_wp2_with fail
  exact unhide HQ _ _ ⟨_, rfl, by have := (unhide S3).ob; rw [List.append_assoc, List.append_assoc] at this; exact this, (unhide S3).bel⟩

set_option maxRecDepth 100000 in
set_option maxHeartbeats 800000 in
theorem write_8 (base : Nat) (v : Value) (l : List UInt8) (t : Tm) (W : World) (h : OB W base v l) (hb : base ≤ W.heap.size) (hn : l.length ≤ 800000) (ht : SmallT t) (ho : t.op = 8) (Q : Ending → World → Prop) (hQ : ∀ e w', WrEnds base W (l ++ encT t) e w' → Q e w') :
    Calls Tryz.prog 63 #[tmV t, v] W Q := by
  have hE : encT t = [UInt8.ofNat 8, UInt8.ofNat t.right, UInt8.ofNat t.left] := by simp [encT, ho, isPair]
  have HQ := hide hQ
  rw [hE] at HQ
  clear hQ
  have S0 := hide (WSt.start h hb t 142)
  obtain ⟨a, c, rfl⟩ := h.form
  have hl := ht.left
  have hr := ht.right
  have hl0 : (0 : Int) ≤ (t.left : Int) := by omega
  have hl1 : (t.left : Int) < 256 := by omega
  have hr0 : (0 : Int) ≤ (t.right : Int) := by omega
  have hr1 : (t.right : Int) < 256 := by omega
  obtain ⟨n, hnl⟩ : ∃ n, l.length = n := ⟨_, rfl⟩
  have HNL := hide hnl
  rw [hnl] at S0 hn ⊢
  obtain ⟨g1, cap1, w1, hap1, S1⟩ := (unhide S0).app (UInt8.ofNat 8) 8 (by decide) (by omega) n hnl (W.heap.size + 1) (by simp)
  obtain ⟨tl1, a0, a1, a2, a3, a4, a5, af⟩ := (unhide S1).tm
  obtain ⟨g2, cap2, w2, hap2, S2⟩ := (unhide S1).app (UInt8.ofNat t.right) (t.right : Int) (u8_of hr) (by simp; omega) (n + 1) (by simp [hnl]) _ rfl
  obtain ⟨tl2, b0, b1, b2, b3, b4, b5, bf⟩ := (unhide S2).tm
  obtain ⟨g3, cap3, w3, hap3, S3⟩ := (unhide S2).app (UInt8.ofNat t.left) (t.left : Int) (u8_of hl) (by simp; omega) (n + 1 + 1) (by simp [hnl]) _ rfl
  unfold tmV
  have e0 : (t.op : Int) = 8 := by omega
  rw [e0] at a0 hap1 b0 ⊢
  clear hE ho h hl hr ht hnl hn hb e0 S0
  go_enter Tryz.func63, Tryz.ntmps63
  go_wp2_with fail
  exact unhide HQ _ _ ⟨_, rfl, by have := (unhide S3).ob; rw [List.append_assoc, List.append_assoc] at this; exact this, (unhide S3).bel⟩

set_option maxRecDepth 100000 in
set_option maxHeartbeats 800000 in
theorem write_10 (base : Nat) (v : Value) (l : List UInt8) (t : Tm) (W : World) (h : OB W base v l) (hb : base ≤ W.heap.size) (hn : l.length ≤ 800000) (ht : SmallT t) (ho : t.op = 10) (Q : Ending → World → Prop) (hQ : ∀ e w', WrEnds base W (l ++ encT t) e w' → Q e w') :
    Calls Tryz.prog 63 #[tmV t, v] W Q := by
  have hE : encT t = [UInt8.ofNat 10, UInt8.ofNat t.right, UInt8.ofNat t.left] := by simp [encT, ho, isPair]
  have HQ := hide hQ
  rw [hE] at HQ
  clear hQ
  have S0 := hide (WSt.start h hb t 142)
  obtain ⟨a, c, rfl⟩ := h.form
  have hl := ht.left
  have hr := ht.right
  have hl0 : (0 : Int) ≤ (t.left : Int) := by omega
  have hl1 : (t.left : Int) < 256 := by omega
  have hr0 : (0 : Int) ≤ (t.right : Int) := by omega
  have hr1 : (t.right : Int) < 256 := by omega
  obtain ⟨n, hnl⟩ : ∃ n, l.length = n := ⟨_, rfl⟩
  have HNL := hide hnl
  rw [hnl] at S0 hn ⊢
  obtain ⟨g1, cap1, w1, hap1, S1⟩ := (unhide S0).app (UInt8.ofNat 10) 10 (by decide) (by omega) n hnl (W.heap.size + 1) (by simp)
  obtain ⟨tl1, a0, a1, a2, a3, a4, a5, af⟩ := (unhide S1).tm
  obtain ⟨g2, cap2, w2, hap2, S2⟩ := (unhide S1).app (UInt8.ofNat t.right) (t.right : Int) (u8_of hr) (by simp; omega) (n + 1) (by simp [hnl]) _ rfl
  obtain ⟨tl2, b0, b1, b2, b3, b4, b5, bf⟩ := (unhide S2).tm
  obtain ⟨g3, cap3, w3, hap3, S3⟩ := (unhide S2).app (UInt8.ofNat t.left) (t.left : Int) (u8_of hl) (by simp; omega) (n + 1 + 1) (by simp [hnl]) _ rfl
  unfold tmV
  have e0 : (t.op : Int) = 10 := by omega
  rw [e0] at a0 hap1 b0 ⊢
  clear hE ho h hl hr ht hnl hn hb e0 S0
  go_enter Tryz.func63, Tryz.ntmps63
  go_wp2_with fail
  exact unhide HQ _ _ ⟨_, rfl, by have := (unhide S3).ob; rw [List.append_assoc, List.append_assoc] at this; exact this, (unhide S3).bel⟩

set_option maxRecDepth 100000 in
set_option maxHeartbeats 800000 in
theorem write_11 (base : Nat) (v : Value) (l : List UInt8) (t : Tm) (W : World) (h : OB W base v l) (hb : base ≤ W.heap.size) (hn : l.length ≤ 800000) (ht : SmallT t) (ho : t.op = 11) (Q : Ending → World → Prop) (hQ : ∀ e w', WrEnds base W (l ++ encT t) e w' → Q e w') :
    Calls Tryz.prog 63 #[tmV t, v] W Q := by
  have hE : encT t = [UInt8.ofNat 11, UInt8.ofNat t.right, UInt8.ofNat t.left] := by simp [encT, ho, isPair]
  have HQ := hide hQ
  rw [hE] at HQ
  clear hQ
  have S0 := hide (WSt.start h hb t 142)
  obtain ⟨a, c, rfl⟩ := h.form
  have hl := ht.left
  have hr := ht.right
  have hl0 : (0 : Int) ≤ (t.left : Int) := by omega
  have hl1 : (t.left : Int) < 256 := by omega
  have hr0 : (0 : Int) ≤ (t.right : Int) := by omega
  have hr1 : (t.right : Int) < 256 := by omega
  obtain ⟨n, hnl⟩ : ∃ n, l.length = n := ⟨_, rfl⟩
  have HNL := hide hnl
  rw [hnl] at S0 hn ⊢
  obtain ⟨g1, cap1, w1, hap1, S1⟩ := (unhide S0).app (UInt8.ofNat 11) 11 (by decide) (by omega) n hnl (W.heap.size + 1) (by simp)
  obtain ⟨tl1, a0, a1, a2, a3, a4, a5, af⟩ := (unhide S1).tm
  obtain ⟨g2, cap2, w2, hap2, S2⟩ := (unhide S1).app (UInt8.ofNat t.right) (t.right : Int) (u8_of hr) (by simp; omega) (n + 1) (by simp [hnl]) _ rfl
  obtain ⟨tl2, b0, b1, b2, b3, b4, b5, bf⟩ := (unhide S2).tm
  obtain ⟨g3, cap3, w3, hap3, S3⟩ := (unhide S2).app (UInt8.ofNat t.left) (t.left : Int) (u8_of hl) (by simp; omega) (n + 1 + 1) (by simp [hnl]) _ rfl
  unfold tmV
  have e0 : (t.op : Int) = 11 := by omega
  rw [e0] at a0 hap1 b0 ⊢
  clear hE ho h hl hr ht hnl hn hb e0 S0
  go_enter Tryz.func63, Tryz.ntmps63
  go_wp2_with fail
  exact unhide HQ _ _ ⟨_, rfl, by have := (unhide S3).ob; rw [List.append_assoc, List.append_assoc] at this; exact this, (unhide S3).bel⟩

set_option maxRecDepth 100000 in
set_option maxHeartbeats 800000 in
theorem write_16 (base : Nat) (v : Value) (l : List UInt8) (t : Tm) (W : World) (h : OB W base v l) (hb : base ≤ W.heap.size) (hn : l.length ≤ 800000) (ht : SmallT t) (ho : t.op = 16) (Q : Ending → World → Prop) (hQ : ∀ e w', WrEnds base W (l ++ encT t) e w' → Q e w') :
    Calls Tryz.prog 63 #[tmV t, v] W Q := by
  have hE : encT t = [UInt8.ofNat 16, UInt8.ofNat t.right, UInt8.ofNat t.left] := by simp [encT, ho, isPair]
  have HQ := hide hQ
  rw [hE] at HQ
  clear hQ
  have S0 := hide (WSt.start h hb t 142)
  obtain ⟨a, c, rfl⟩ := h.form
  have hl := ht.left
  have hr := ht.right
  have hl0 : (0 : Int) ≤ (t.left : Int) := by omega
  have hl1 : (t.left : Int) < 256 := by omega
  have hr0 : (0 : Int) ≤ (t.right : Int) := by omega
  have hr1 : (t.right : Int) < 256 := by omega
  obtain ⟨n, hnl⟩ : ∃ n, l.length = n := ⟨_, rfl⟩
  have HNL := hide hnl
  rw [hnl] at S0 hn ⊢
  obtain ⟨g1, cap1, w1, hap1, S1⟩ := (unhide S0).app (UInt8.ofNat 16) 16 (by decide) (by omega) n hnl (W.heap.size + 1) (by simp)
  obtain ⟨tl1, a0, a1, a2, a3, a4, a5, af⟩ := (unhide S1).tm
  obtain ⟨g2, cap2, w2, hap2, S2⟩ := (unhide S1).app (UInt8.ofNat t.right) (t.right : Int) (u8_of hr) (by simp; omega) (n + 1) (by simp [hnl]) _ rfl
  obtain ⟨tl2, b0, b1, b2, b3, b4, b5, bf⟩ := (unhide S2).tm
  obtain ⟨g3, cap3, w3, hap3, S3⟩ := (unhide S2).app (UInt8.ofNat t.left) (t.left : Int) (u8_of hl) (by simp; omega) (n + 1 + 1) (by simp [hnl]) _ rfl
  unfold tmV
  have e0 : (t.op : Int) = 16 := by omega
  rw [e0] at a0 hap1 b0 ⊢
  clear hE ho h hl hr ht hnl hn hb e0 S0
  go_enter Tryz.func63, Tryz.ntmps63
  go_wp2_with fail
  exact unhide HQ _ _ ⟨_, rfl, by have := (unhide S3).ob; rw [List.append_assoc, List.append_assoc] at this; exact this, (unhide S3).bel⟩

set_option maxRecDepth 100000 in
set_option maxHeartbeats 800000 in
theorem write_17 (base : Nat) (v : Value) (l : List UInt8) (t : Tm) (W : World) (h : OB W base v l) (hb : base ≤ W.heap.size) (hn : l.length ≤ 800000) (ht : SmallT t) (ho : t.op = 17) (Q : Ending → World → Prop) (hQ : ∀ e w', WrEnds base W (l ++ encT t) e w' → Q e w') :
    Calls Tryz.prog 63 #[tmV t, v] W Q := by
  have hE : encT t = [UInt8.ofNat 17, UInt8.ofNat t.right, UInt8.ofNat t.left] := by simp [encT, ho, isPair]
  have HQ := hide hQ
  rw [hE] at HQ
  clear hQ
  have S0 := hide (WSt.start h hb t 142)
  obtain ⟨a, c, rfl⟩ := h.form
  have hl := ht.left
  have hr := ht.right
  have hl0 : (0 : Int) ≤ (t.left : Int) := by omega
  have hl1 : (t.left : Int) < 256 := by omega
  have hr0 : (0 : Int) ≤ (t.right : Int) := by omega
  have hr1 : (t.right : Int) < 256 := by omega
  obtain ⟨n, hnl⟩ : ∃ n, l.length = n := ⟨_, rfl⟩
  have HNL := hide hnl
  rw [hnl] at S0 hn ⊢
  obtain ⟨g1, cap1, w1, hap1, S1⟩ := (unhide S0).app (UInt8.ofNat 17) 17 (by decide) (by omega) n hnl (W.heap.size + 1) (by simp)
  obtain ⟨tl1, a0, a1, a2, a3, a4, a5, af⟩ := (unhide S1).tm
  obtain ⟨g2, cap2, w2, hap2, S2⟩ := (unhide S1).app (UInt8.ofNat t.right) (t.right : Int) (u8_of hr) (by simp; omega) (n + 1) (by simp [hnl]) _ rfl
  obtain ⟨tl2, b0, b1, b2, b3, b4, b5, bf⟩ := (unhide S2).tm
  obtain ⟨g3, cap3, w3, hap3, S3⟩ := (unhide S2).app (UInt8.ofNat t.left) (t.left : Int) (u8_of hl) (by simp; omega) (n + 1 + 1) (by simp [hnl]) _ rfl
  unfold tmV
  have e0 : (t.op : Int) = 17 := by omega
  rw [e0] at a0 hap1 b0 ⊢
  clear hE ho h hl hr ht hnl hn hb e0 S0
  go_enter Tryz.func63, Tryz.ntmps63
  go_wp2_with fail
  exact unhide HQ _ _ ⟨_, rfl, by have := (unhide S3).ob; rw [List.append_assoc, List.append_assoc] at this; exact this, (unhide S3).bel⟩

set_option maxRecDepth 100000 in
set_option maxHeartbeats 800000 in
theorem write_18 (base : Nat) (v : Value) (l : List UInt8) (t : Tm) (W : World) (h : OB W base v l) (hb : base ≤ W.heap.size) (hn : l.length ≤ 800000) (ht : SmallT t) (ho : t.op = 18) (Q : Ending → World → Prop) (hQ : ∀ e w', WrEnds base W (l ++ encT t) e w' → Q e w') :
    Calls Tryz.prog 63 #[tmV t, v] W Q := by
  have hE : encT t = [UInt8.ofNat 18, UInt8.ofNat t.right, UInt8.ofNat t.left] := by simp [encT, ho, isPair]
  have HQ := hide hQ
  rw [hE] at HQ
  clear hQ
  have S0 := hide (WSt.start h hb t 142)
  obtain ⟨a, c, rfl⟩ := h.form
  have hl := ht.left
  have hr := ht.right
  have hl0 : (0 : Int) ≤ (t.left : Int) := by omega
  have hl1 : (t.left : Int) < 256 := by omega
  have hr0 : (0 : Int) ≤ (t.right : Int) := by omega
  have hr1 : (t.right : Int) < 256 := by omega
  obtain ⟨n, hnl⟩ : ∃ n, l.length = n := ⟨_, rfl⟩
  have HNL := hide hnl
  rw [hnl] at S0 hn ⊢
  obtain ⟨g1, cap1, w1, hap1, S1⟩ := (unhide S0).app (UInt8.ofNat 18) 18 (by decide) (by omega) n hnl (W.heap.size + 1) (by simp)
  obtain ⟨tl1, a0, a1, a2, a3, a4, a5, af⟩ := (unhide S1).tm
  obtain ⟨g2, cap2, w2, hap2, S2⟩ := (unhide S1).app (UInt8.ofNat t.right) (t.right : Int) (u8_of hr) (by simp; omega) (n + 1) (by simp [hnl]) _ rfl
  obtain ⟨tl2, b0, b1, b2, b3, b4, b5, bf⟩ := (unhide S2).tm
  obtain ⟨g3, cap3, w3, hap3, S3⟩ := (unhide S2).app (UInt8.ofNat t.left) (t.left : Int) (u8_of hl) (by simp; omega) (n + 1 + 1) (by simp [hnl]) _ rfl
  unfold tmV
  have e0 : (t.op : Int) = 18 := by omega
  rw [e0] at a0 hap1 b0 ⊢
  clear hE ho h hl hr ht hnl hn hb e0 S0
  go_enter Tryz.func63, Tryz.ntmps63
  go_wp2_with fail
  exact unhide HQ _ _ ⟨_, rfl, by have := (unhide S3).ob; rw [List.append_assoc, List.append_assoc] at this; exact this, (unhide S3).bel⟩

set_option maxRecDepth 100000 in
set_option maxHeartbeats 800000 in
theorem write_19 (base : Nat) (v : Value) (l : List UInt8) (t : Tm) (W : World) (h : OB W base v l) (hb : base ≤ W.heap.size) (hn : l.length ≤ 800000) (ht : SmallT t) (ho : t.op = 19) (Q : Ending → World → Prop) (hQ : ∀ e w', WrEnds base W (l ++ encT t) e w' → Q e w') :
    Calls Tryz.prog 63 #[tmV t, v] W Q := by
  have hE : encT t = [UInt8.ofNat 19, UInt8.ofNat t.right, UInt8.ofNat t.left] := by simp [encT, ho, isPair]
  have HQ := hide hQ
  rw [hE] at HQ
  clear hQ
  have S0 := hide (WSt.start h hb t 142)
  obtain ⟨a, c, rfl⟩ := h.form
  have hl := ht.left
  have hr := ht.right
  have hl0 : (0 : Int) ≤ (t.left : Int) := by omega
  have hl1 : (t.left : Int) < 256 := by omega
  have hr0 : (0 : Int) ≤ (t.right : Int) := by omega
  have hr1 : (t.right : Int) < 256 := by omega
  obtain ⟨n, hnl⟩ : ∃ n, l.length = n := ⟨_, rfl⟩
  have HNL := hide hnl
  rw [hnl] at S0 hn ⊢
  obtain ⟨g1, cap1, w1, hap1, S1⟩ := (unhide S0).app (UInt8.ofNat 19) 19 (by decide) (by omega) n hnl (W.heap.size + 1) (by simp)
  obtain ⟨tl1, a0, a1, a2, a3, a4, a5, af⟩ := (unhide S1).tm
  obtain ⟨g2, cap2, w2, hap2, S2⟩ := (unhide S1).app (UInt8.ofNat t.right) (t.right : Int) (u8_of hr) (by simp; omega) (n + 1) (by simp [hnl]) _ rfl
  obtain ⟨tl2, b0, b1, b2, b3, b4, b5, bf⟩ := (unhide S2).tm
  obtain ⟨g3, cap3, w3, hap3, S3⟩ := (unhide S2).app (UInt8.ofNat t.left) (t.left : Int) (u8_of hl) (by simp; omega) (n + 1 + 1) (by simp [hnl]) _ rfl
  unfold tmV
  have e0 : (t.op : Int) = 19 := by omega
  rw [e0] at a0 hap1 b0 ⊢
  clear hE ho h hl hr ht hnl hn hb e0 S0
  go_enter Tryz.func63, Tryz.ntmps63
  go_wp2_with fail
  exact unhide HQ _ _ ⟨_, rfl, by have := (unhide S3).ob; rw [List.append_assoc, List.append_assoc] at this; exact this, (unhide S3).bel⟩

set_option maxRecDepth 100000 in
set_option maxHeartbeats 800000 in
theorem write_23 (base : Nat) (v : Value) (l : List UInt8) (t : Tm) (W : World) (h : OB W base v l) (hb : base ≤ W.heap.size) (hn : l.length ≤ 800000) (ht : SmallT t) (ho : t.op = 23) (Q : Ending → World → Prop) (hQ : ∀ e w', WrEnds base W (l ++ encT t) e w' → Q e w') :
    Calls Tryz.prog 63 #[tmV t, v] W Q := by
  have hE : encT t = [UInt8.ofNat 23, UInt8.ofNat t.left] := by simp [encT, ho, isPair]
  have HQ := hide hQ
  rw [hE] at HQ
  clear hQ
  have S0 := hide (WSt.start h hb t 142)
  obtain ⟨a, c, rfl⟩ := h.form
  have hl := ht.left
  have hr := ht.right
  have hl0 : (0 : Int) ≤ (t.left : Int) := by omega
  have hl1 : (t.left : Int) < 256 := by omega
  have hr0 : (0 : Int) ≤ (t.right : Int) := by omega
  have hr1 : (t.right : Int) < 256 := by omega
  obtain ⟨n, hnl⟩ : ∃ n, l.length = n := ⟨_, rfl⟩
  have HNL := hide hnl
  rw [hnl] at S0 hn ⊢
  obtain ⟨g1, cap1, w1, hap1, S1⟩ := (unhide S0).app (UInt8.ofNat 23) 23 (by decide) (by omega) n hnl (W.heap.size + 1) (by simp)
  obtain ⟨tl1, a0, a1, a2, a3, a4, a5, af⟩ := (unhide S1).tm
  obtain ⟨g2, cap2, w2, hap2, S2⟩ := (unhide S1).app (UInt8.ofNat t.left) (t.left : Int) (u8_of hl) (by simp; omega) (n + 1) (by simp [hnl]) _ rfl
  unfold tmV
  have e0 : (t.op : Int) = 23 := by omega
  rw [e0] at a0 hap1 ⊢
  clear hE ho h hl hr ht hnl hn hb e0 S0
  go_enter Tryz.func63, Tryz.ntmps63
  go_wp2_with fail
  exact unhide HQ _ _ ⟨_, rfl, by have := (unhide S2).ob; rw [List.append_assoc] at this; exact this, (unhide S2).bel⟩
end

section
attribute [local go_sem ↓] app_fold

theorem PsAt.new {w : World} {v : Value} {l : List UInt8} (h : BytesAt w w.heap.size v l) (ty : TypeId) : PsAt (w.alloc (.cells #[v, .bool false] ty)) w.heap.size ⟨l, false⟩ := by
  obtain ⟨a, c, rfl, hc, hx⟩ := h
  refine ⟨by simp, ⟨.slice a l.length c, by simp [go_sem], a, c, rfl, hc, fun i x hi => ?_⟩, by simp [go_sem], fun j => by simp [go_sem]⟩
  obtain ⟨b, o, ha, hb, hcell⟩ := hx i x hi
  exact ⟨b, o, ha, hb, ((((Below.refl w.heap.size w).alloc (Nat.le_refl _) _).cell (p := ⟨b, o + i, none⟩) hb)).trans hcell⟩

/-- The program's own block is made. -/
theorem RdL.start {w w2 : World} {rb : Nat} {s : Ps} (hp : PsAt w2 rb s) (hr : w.heap.size ≤ rb) (hb : Below w.heap.size w w2) (ty : TypeId) : RdL w (w2.alloc (.cells #[.slice none 0 0, .slice none 0 0] ty)) rb w2.heap.size s [] (.slice none 0 0) [] (.slice none 0 0) := by
  refine ⟨hp.alloc _, by simp [go_sem], by simp [go_sem], fun j => by simp [go_sem], hp.lt, by simp, TsAt.nil _ _, IsAt.nil _ _, fun g hg => by simp [Value.ownBlock] at hg, hr, hb.alloc hb.size _⟩
end

end Go.Proofs.YtfkcaldjphakpabGreatDoor
