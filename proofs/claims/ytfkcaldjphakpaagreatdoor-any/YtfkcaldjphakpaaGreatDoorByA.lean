/- Rows of bytes that grow: a byte, a text, a number. Rows of bytes: a number. A term as bytes. -/
import Derived.Test.YtfkcaldjphakpaaGreatDoorPmC
import Derived.Lib.AppendStr
import Derived.Deep.RegionWith
namespace Go.Proofs.YtfkcaldjphakpaaGreatDoor
open Go.RowKit

section
attribute [local go_sem ↓] app_fold

def byCells (l : List UInt8) : List Value := l.map fun x => .int .u8 (x.toNat : Int)
/-- A row of bytes that the call owns, from block base on. -/
def OB (w : World) (base : Nat) (v : Value) (l : List UInt8) : Prop := w.ownsRow base 5 1 v l.length (byCells l)

theorem OB.app {W : World} {base : Nat} {v : Value} {l : List UInt8} (h : OB W base v l) (hb : base ≤ W.heap.size) (x : UInt8) (xi : Int) (hx : xi = (x.toNat : Int)) (hn : l.length ≤ 1000000) (ty : TypeId) (H : Nat) (hH : W.heap.size = H) {W' : World} (hW : W' = W.alloc (.cells #[.int .u8 xi] 5)) :
    ∃ g cap w5, (appSem #[51, 51] ty #[v, .slice (some ⟨H, 0, none⟩) 1 1]).run Tryz.prog W' = .ok (.slice (some ⟨g, 0, none⟩) (l.length + 1) cap) w5 ∧
      Hid (OB w5 base (.slice (some ⟨g, 0, none⟩) (l.length + 1) cap) (l ++ [x])) ∧ Hid (Below base W w5) := by
  subst hH hW hx
  obtain ⟨i0, hi, hz0, hz1, hz2⟩ := info_parts info_byte
  have ha := World.ownsRow.alloc h (.cells #[.int .u8 (x.toNat : Int)] 5)
  obtain ⟨g, cap, w5, hr, hown, hgrow, hat, _⟩ := run_append_lies (P := Tryz.prog) (W.alloc (.cells #[.int .u8 (x.toNat : Int)] 5)) 51 ty base 5 i0 _ 1 1 Tryz.underlying51 hi hz0 hz1 hz2 rfl (by omega) v l.length (byCells l) ha
    ⟨W.heap.size, 0, none⟩ 1 1 [.int .u8 (x.toNat : Int)] rfl (World.news_of_block (cs := #[.int .u8 (x.toNat : Int)]) (t := 5) (fr := (0, 0)) (heap_alloc_new W _)) (by simp [Value.oneCell']) (by omega) (by unfold maxLen; omega) (by omega) (by simp; omega) _ rfl
  refine ⟨g, cap, w5, hr, hide ?_, hide ?_⟩
  · show World.ownsRow _ _ _ _ _ _ _
    rw [List.length_append, List.length_singleton, byCells, List.map_append]
    exact hown
  · exact Go.RowKit.Below.grown (((Below.refl base W).alloc hb _)) hgrow (by simp; omega) (fun k hk => (ha.lt k hk).1)

theorem OB.form {w : World} {base : Nat} {v : Value} {l : List UInt8} (h : OB w base v l) : ∃ a c, v = .slice a l.length c := by
  rcases h.2 with ⟨rfl, hn⟩ | ⟨g, cap, cur, rfl, _⟩
  · exact ⟨none, 0, by rw [hn]⟩
  · exact ⟨_, _, rfl⟩

theorem strCells_BS (l : List UInt8) : Lib.strCells (BS l) = byCells l := by
  simp [Lib.strCells, byCells, BS]

theorem OB.appText {W : World} {base : Nat} {v : Value} {l : List UInt8} (h : OB W base v l) (hb : base ≤ W.heap.size) (s : List UInt8) (hn : l.length + s.length ≤ 1000000) (ty : TypeId) :
    ∃ v' w5, (appSem #[51, 9] ty #[v, .string (BS s)]).run Tryz.prog W = .ok v' w5 ∧ Hid (OB w5 base v' (l ++ s)) ∧ Hid (Below base W w5) := by
  obtain ⟨i0, hi, hz0, hz1, hz2⟩ := info_parts info_byte
  have hs : (BS s).size = s.length := BS_size s
  obtain ⟨v', w5, hr, hown, hgrow, _⟩ := Lib.run_append_own_string (P := Tryz.prog) W base 51 9 ty 5 i0 Tryz.underlying51 Tryz.underlying9 hi hz0 hz1 hz2 v l.length (byCells l) h (BS s) (by rw [hs]; unfold maxLen; omega) (by rw [hs]; omega) hb
  rw [hs, strCells_BS] at hown
  refine ⟨v', w5, hr, hide ?_, hide ?_⟩
  · show World.ownsRow _ _ _ _ _ _ _
    rw [List.length_append, byCells, List.map_append]
    exact hown
  · exact Go.RowKit.Below.grown (Below.refl base W) hgrow hb (fun k hk => (World.ownsRow.lt h k hk).1)

/-- How a writer ends: the row has grown, nothing below it has turned. -/
def WrEnds (base : Nat) (W : World) (l : List UInt8) (e : Ending) (w' : World) : Prop := ∃ v, e = .returned v ∧ OB w' base v l ∧ Below base W w'

def lenB (s : List UInt8) : List UInt8 := UInt8.ofNat s.length :: s
set_option maxHeartbeats 400000 in
theorem writeText_any (base : Nat) (v : Value) (l s : List UInt8) (W : World) (h : OB W base v l) (hb : base ≤ W.heap.size) (hn : l.length + s.length ≤ 900000) (hs : s.length ≤ 255) (Q : Ending → World → Prop) (hQ : ∀ e w', WrEnds base W (l ++ lenB s) e w' → Q e w') :
    Calls Tryz.prog 170 #[v, .string (BS s)] W Q := by
  have HQ := hide hQ
  clear hQ
  have hz : (BS s).size = s.length := BS_size s
  obtain ⟨a, c, rfl⟩ := h.form
  obtain ⟨g, cap, w5, hap, HO, HB⟩ := h.app hb (UInt8.ofNat s.length) (s.length : Int) (by rw [UInt8.toNat_ofNat']; simp; omega) (by omega) 51 _ rfl rfl
  obtain ⟨v', w6, hap2, HO2, HB2⟩ := (unhide HO).appText (Nat.le_trans hb (unhide HB).size) s (by simp; omega) 51
  have hs0 : (0 : Int) ≤ (s.length : Int) := by omega
  have hs1 : (s.length : Int) < 256 := by omega
  go_enter Tryz.func170, Tryz.ntmps170
  go_wp2_with fail
  exact unhide HQ _ _ ⟨_, rfl, by have := unhide HO2; rw [List.append_assoc] at this; exact this, (unhide HB).trans (unhide HB2)⟩
end

section
attribute [local go_sem ↓] app_fold

def nByte (n : Int) (k : Nat) : UInt8 := UInt8.ofNat (n / 2 ^ (8 * k) % 256).toNat
def nBytes (n : Int) : Nat → List UInt8
  | 0 => []
  | k + 1 => nBytes n k ++ [nByte n k]
theorem nBytes_length (n : Int) (k : Nat) : (nBytes n k).length = k := by
  induction k with
  | zero => rfl
  | succ k ih => rw [nBytes, List.length_append, ih]; rfl
theorem nByte_toNat (n : Int) (k : Nat) : n / 2 ^ (8 * k) % 256 = ((nByte n k).toNat : Int) := by
  have h1 := Int.emod_nonneg (n / 2 ^ (8 * k)) (show (256 : Int) ≠ 0 by decide)
  have h2 := Int.emod_lt_of_pos (n / 2 ^ (8 * k)) (show (0 : Int) < 256 by decide)
  unfold nByte
  generalize n / 2 ^ (8 * k) % 256 = x at *
  rw [UInt8.toNat_ofNat']
  omega

set_option maxHeartbeats 800000 in
set_option maxRecDepth 100000 in
theorem writeNumber_any (base : Nat) (v : Value) (l : List UInt8) (n : Int) (W : World) (h : OB W base v l) (hb : base ≤ W.heap.size) (hn : l.length ≤ 900000) (Q : Ending → World → Prop) (hQ : ∀ e w', WrEnds base W (l ++ nBytes n 8) e w' → Q e w') :
    Calls Tryz.prog 169 #[v, .int .i64 n] W Q := by
  have HQ := hide hQ
  clear hQ
  have HO := hide h
  obtain ⟨a, c, rfl⟩ := h.form
  clear h
  go_enter Tryz.func169, Tryz.ntmps169
  go_wp2_with fail
  go_loopw [0, 6] (fun u i wr => ∃ (k : Nat), k ≤ 8 ∧ i = .int .i64 k ∧ Hid (OB wr base u (l ++ nBytes n k)) ∧ Hid (Below base W wr)) (fun _ i _ => 8 - (intOf i).toNat)
  case atStart => exact ⟨0, by decide, rfl, by rw [nBytes, List.append_nil]; exact HO, hide (Below.refl _ _)⟩
  case round =>
    obtain ⟨k, hk, rfl, HK, HB⟩ := hrel
    have hlen : (l ++ nBytes n k).length ≤ 1000000 := by rw [List.length_append, nBytes_length]; omega
    obtain ⟨L, hL⟩ : ∃ L, l ++ nBytes n k = L := ⟨_, rfl⟩
    rw [hL] at HK hlen
    have HL := hide hL
    clear hL
    obtain ⟨a', c', rfl⟩ := (unhide HK).form
    by_cases hk8 : k < 8
    · have hbz := (unhide HB).size
      obtain ⟨g, cap, w5, hap, HO5, HB5⟩ := (unhide HK).app (by omega) (nByte n k) _ (nByte_toNat n k) hlen 51 _ rfl rfl
      have HB6 := hide ((unhide HB).trans (unhide HB5))
      clear HB5
      go_wp2_with fail
      exact ⟨⟨k + 1, by omega, rfl, hide (by rw [nBytes, ← List.append_assoc, unhide HL]; exact unhide HO5), HB6⟩, by simp [intOf]; omega⟩
    · have : k = 8 := by omega
      subst this
      go_wp2_with fail
      exact unhide HQ _ _ ⟨_, rfl, by rw [unhide HL]; exact unhide HK, unhide HB⟩
end

section
set_option linter.unusedSimpArgs false
set_option linter.unusedVariables false
attribute [local go_sem ↓] app_fold

/-- A term as bytes; LIKE is written elsewhere. -/
def encT (t : Tm) : List UInt8 :=
  if t.op = 1 then UInt8.ofNat t.op :: nBytes t.num 8
  else if t.op = 22 then [UInt8.ofNat t.op, UInt8.ofNat t.left] ++ lenB t.esc ++ lenB t.str
  else if t.op = 0 ∨ t.op = 2 then UInt8.ofNat t.op :: lenB t.str
  else if isPair t.op then [UInt8.ofNat t.op, UInt8.ofNat t.right, UInt8.ofNat t.left]
  else if t.op = 5 ∨ t.op = 23 then [UInt8.ofNat t.op, UInt8.ofNat t.left]
  else [UInt8.ofNat t.op]

/-- While a term is written: the row, the term, and that they lie apart. -/
structure WSt (base : Nat) (W : World) (l : List UInt8) (tb : Nat) (t : Tm) (w' : World) (v' : Value) : Prop where
  ob : OB w' base v' l
  tm : TmAt w' tb t
  ne : v'.ownBlock ≠ some tb
  bel : Below base W w'
  ge : base ≤ w'.heap.size

theorem WSt.start {base : Nat} {W : World} {v : Value} {l : List UInt8} (h : OB W base v l) (hb : base ≤ W.heap.size) (t : Tm) (ty : TypeId) :
    WSt base W l W.heap.size t (W.alloc (.cells #[.int .i64 t.op, .int .i64 t.left, .int .i64 t.right, .int .i64 t.num, .string (BS t.str), .string (BS t.esc)] ty)) v := by
  refine ⟨World.ownsRow.alloc h _, ⟨by simp, ?_, ?_, ?_, ?_, ?_, ?_, fun j => ?_⟩, fun e => by have := (World.ownsRow.lt h _ e).2; omega, (Below.refl _ _).alloc hb _, by simp; omega⟩ <;> simp [go_sem]

theorem WSt.app {base : Nat} {W : World} {l : List UInt8} {tb : Nat} {t : Tm} {w' : World} {v' : Value} (h : WSt base W l tb t w' v') (x : UInt8) (xi : Int) (hx : xi = (x.toNat : Int)) (hn : l.length ≤ 1000000) (n : Nat) (hnl : l.length = n) (H : Nat) (hH : w'.heap.size = H) :
    ∃ g cap w5, (appSem #[51, 51] 51 #[v', .slice (some ⟨H, 0, none⟩) 1 1]).run Tryz.prog (w'.alloc (.cells #[.int .u8 xi] 5)) = .ok (.slice (some ⟨g, 0, none⟩) (n + 1) cap) w5 ∧
      Hid (WSt base W (l ++ [x]) tb t w5 (.slice (some ⟨g, 0, none⟩) (n + 1) cap)) := by
  subst hH hx hnl
  obtain ⟨i0, hi, hz0, hz1, hz2⟩ := info_parts info_byte
  have hge := h.ge
  have ha := World.ownsRow.alloc h.ob (.cells #[.int .u8 (x.toNat : Int)] 5)
  obtain ⟨g, cap, w5, hr, hown, hgrow, hat, _⟩ := run_append_lies (P := Tryz.prog) (w'.alloc (.cells #[.int .u8 (x.toNat : Int)] 5)) 51 51 base 5 i0 _ 1 1 Tryz.underlying51 hi hz0 hz1 hz2 rfl (by omega) v' l.length (byCells l) ha
    ⟨w'.heap.size, 0, none⟩ 1 1 [.int .u8 (x.toNat : Int)] rfl (World.news_of_block (cs := #[.int .u8 (x.toNat : Int)]) (t := 5) (fr := (0, 0)) (heap_alloc_new w' _)) (by simp [Value.oneCell']) (by omega) (by unfold maxLen; omega) (by omega) (by simp; omega) _ rfl
  have hz := hgrow.size
  simp at hz
  have htl := h.tm.lt
  have hb5 : Below base w' w5 := Go.RowKit.Below.grown (((Below.refl base w').alloc hge _)) hgrow (by simp; omega) (fun k hk => (ha.lt k hk).1)
  refine ⟨g, cap, w5, hr, hide ⟨?_, ?_, ?_, h.bel.trans hb5, by omega⟩⟩
  · show World.ownsRow _ _ _ _ _ _ _
    rw [List.length_append, List.length_singleton, byCells, List.map_append]
    exact hown
  · exact h.tm.same (by omega) ((hgrow.block tb (by simp; omega) (fun e => h.ne e.symm)).trans (Below.heap_alloc w' _ tb htl))
  · intro e
    have he : g = tb := by simpa [Value.ownBlock] using e
    subst he
    rcases hat with hat | hat
    · exact h.ne hat
    · simp at hat
      omega

structure SmallT (t : Tm) : Prop where
  left : t.left ≤ 255
  right : t.right ≤ 255
  str : t.str.length ≤ 255
  esc : t.esc.length ≤ 255

theorem u8_of {n : Nat} (h : n ≤ 255) : (n : Int) = ((UInt8.ofNat n).toNat : Int) := by rw [UInt8.toNat_ofNat']; omega

set_option maxRecDepth 100000 in
set_option maxHeartbeats 800000 in
theorem write_0 (base : Nat) (v : Value) (l : List UInt8) (t : Tm) (W : World) (h : OB W base v l) (hb : base ≤ W.heap.size) (hn : l.length ≤ 800000) (ht : SmallT t) (ho : t.op = 0) (Q : Ending → World → Prop) (hQ : ∀ e w', WrEnds base W (l ++ encT t) e w' → Q e w') :
    Calls Tryz.prog 117 #[tmV t, v] W Q := by
  have hE : encT t = UInt8.ofNat 0 :: lenB t.str := by simp [encT, ho, isPair]
  have HQ := hide hQ
  rw [hE] at HQ
  clear hQ
  have S0 := hide (WSt.start h hb t 125)
  obtain ⟨a, c, rfl⟩ := h.form
  have hl := ht.left
  have hr := ht.right
  have hl0 : (0 : Int) ≤ (t.left : Int) := by omega
  have hl1 : (t.left : Int) < 256 := by omega
  have hr0 : (0 : Int) ≤ (t.right : Int) := by omega
  have hr1 : (t.right : Int) < 256 := by omega
  obtain ⟨n, hnl⟩ : ∃ n, l.length = n := ⟨_, rfl⟩
  have HNL := hide hnl
  rw [hnl] at S0 hn ⊢
  obtain ⟨g1, cap1, w1, hap1, S1⟩ := (unhide S0).app (UInt8.ofNat 0) 0 (by decide) (by omega) n hnl (W.heap.size + 1) (by simp)
  obtain ⟨tl1, a0, a1, a2, a3, a4, a5, af⟩ := (unhide S1).tm
  have hs := ht.str
  have WN := hide (writeText_any base (.slice (some ⟨g1, 0, none⟩) (n + 1) cap1) (l ++ [UInt8.ofNat 0]) t.str w1 (unhide S1).ob (unhide S1).ge (by simp; omega) (by omega) _ (fun e w' h => h))
  unfold tmV
  have e0 : (t.op : Int) = 0 := by omega
  rw [e0] at a0 hap1 ⊢
  clear hE ho h hl hr ht hnl hn hb e0 S0
  go_enter Tryz.func117, Tryz.ntmps117
  go_wp2_with (go_at_call 170; refine (unhide WN).mono ?_; rintro e w2 ⟨v2, rfl, ho2, hb2⟩; have HO2 := hide ho2; have HB2 := hide hb2; clear ho2 hb2)
  exact unhide HQ _ _ ⟨_, rfl, by have := unhide HO2; rw [List.append_assoc] at this; exact this, (unhide S1).bel.trans (unhide HB2)⟩

set_option maxRecDepth 100000 in
set_option maxHeartbeats 800000 in
theorem write_1 (base : Nat) (v : Value) (l : List UInt8) (t : Tm) (W : World) (h : OB W base v l) (hb : base ≤ W.heap.size) (hn : l.length ≤ 800000) (ht : SmallT t) (ho : t.op = 1) (Q : Ending → World → Prop) (hQ : ∀ e w', WrEnds base W (l ++ encT t) e w' → Q e w') :
    Calls Tryz.prog 117 #[tmV t, v] W Q := by
  have hE : encT t = UInt8.ofNat 1 :: nBytes t.num 8 := by simp [encT, ho, isPair]
  have HQ := hide hQ
  rw [hE] at HQ
  clear hQ
  have S0 := hide (WSt.start h hb t 125)
  obtain ⟨a, c, rfl⟩ := h.form
  have hl := ht.left
  have hr := ht.right
  have hl0 : (0 : Int) ≤ (t.left : Int) := by omega
  have hl1 : (t.left : Int) < 256 := by omega
  have hr0 : (0 : Int) ≤ (t.right : Int) := by omega
  have hr1 : (t.right : Int) < 256 := by omega
  obtain ⟨n, hnl⟩ : ∃ n, l.length = n := ⟨_, rfl⟩
  have HNL := hide hnl
  rw [hnl] at S0 hn ⊢
  obtain ⟨g1, cap1, w1, hap1, S1⟩ := (unhide S0).app (UInt8.ofNat 1) 1 (by decide) (by omega) n hnl (W.heap.size + 1) (by simp)
  obtain ⟨tl1, a0, a1, a2, a3, a4, a5, af⟩ := (unhide S1).tm
  have WN := hide (writeNumber_any base (.slice (some ⟨g1, 0, none⟩) (n + 1) cap1) (l ++ [UInt8.ofNat 1]) t.num w1 (unhide S1).ob (unhide S1).ge (by simp; omega) _ (fun e w' h => h))
  unfold tmV
  have e0 : (t.op : Int) = 1 := by omega
  rw [e0] at a0 hap1 ⊢
  clear hE ho h hl hr ht hnl hn hb e0 S0
  go_enter Tryz.func117, Tryz.ntmps117
  go_wp2_with (go_at_call 169; refine (unhide WN).mono ?_; rintro e w2 ⟨v2, rfl, ho2, hb2⟩; have HO2 := hide ho2; have HB2 := hide hb2; clear ho2 hb2)
  exact unhide HQ _ _ ⟨_, rfl, by have := unhide HO2; rw [List.append_assoc] at this; exact this, (unhide S1).bel.trans (unhide HB2)⟩

set_option maxRecDepth 100000 in
set_option maxHeartbeats 800000 in
theorem write_2 (base : Nat) (v : Value) (l : List UInt8) (t : Tm) (W : World) (h : OB W base v l) (hb : base ≤ W.heap.size) (hn : l.length ≤ 800000) (ht : SmallT t) (ho : t.op = 2) (Q : Ending → World → Prop) (hQ : ∀ e w', WrEnds base W (l ++ encT t) e w' → Q e w') :
    Calls Tryz.prog 117 #[tmV t, v] W Q := by
  have hE : encT t = UInt8.ofNat 2 :: lenB t.str := by simp [encT, ho, isPair]
  have HQ := hide hQ
  rw [hE] at HQ
  clear hQ
  have S0 := hide (WSt.start h hb t 125)
  obtain ⟨a, c, rfl⟩ := h.form
  have hl := ht.left
  have hr := ht.right
  have hl0 : (0 : Int) ≤ (t.left : Int) := by omega
  have hl1 : (t.left : Int) < 256 := by omega
  have hr0 : (0 : Int) ≤ (t.right : Int) := by omega
  have hr1 : (t.right : Int) < 256 := by omega
  obtain ⟨n, hnl⟩ : ∃ n, l.length = n := ⟨_, rfl⟩
  have HNL := hide hnl
  rw [hnl] at S0 hn ⊢
  obtain ⟨g1, cap1, w1, hap1, S1⟩ := (unhide S0).app (UInt8.ofNat 2) 2 (by decide) (by omega) n hnl (W.heap.size + 1) (by simp)
  obtain ⟨tl1, a0, a1, a2, a3, a4, a5, af⟩ := (unhide S1).tm
  have hs := ht.str
  have WN := hide (writeText_any base (.slice (some ⟨g1, 0, none⟩) (n + 1) cap1) (l ++ [UInt8.ofNat 2]) t.str w1 (unhide S1).ob (unhide S1).ge (by simp; omega) (by omega) _ (fun e w' h => h))
  unfold tmV
  have e0 : (t.op : Int) = 2 := by omega
  rw [e0] at a0 hap1 ⊢
  clear hE ho h hl hr ht hnl hn hb e0 S0
  go_enter Tryz.func117, Tryz.ntmps117
  go_wp2_with (go_at_call 170; refine (unhide WN).mono ?_; rintro e w2 ⟨v2, rfl, ho2, hb2⟩; have HO2 := hide ho2; have HB2 := hide hb2; clear ho2 hb2)
  exact unhide HQ _ _ ⟨_, rfl, by have := unhide HO2; rw [List.append_assoc] at this; exact this, (unhide S1).bel.trans (unhide HB2)⟩

set_option maxRecDepth 100000 in
set_option maxHeartbeats 800000 in
theorem write_3 (base : Nat) (v : Value) (l : List UInt8) (t : Tm) (W : World) (h : OB W base v l) (hb : base ≤ W.heap.size) (hn : l.length ≤ 800000) (ht : SmallT t) (ho : t.op = 3) (Q : Ending → World → Prop) (hQ : ∀ e w', WrEnds base W (l ++ encT t) e w' → Q e w') :
    Calls Tryz.prog 117 #[tmV t, v] W Q := by
  have hE : encT t = [UInt8.ofNat 3] := by simp [encT, ho, isPair]
  have HQ := hide hQ
  rw [hE] at HQ
  clear hQ
  have S0 := hide (WSt.start h hb t 125)
  obtain ⟨a, c, rfl⟩ := h.form
  have hl := ht.left
  have hr := ht.right
  have hl0 : (0 : Int) ≤ (t.left : Int) := by omega
  have hl1 : (t.left : Int) < 256 := by omega
  have hr0 : (0 : Int) ≤ (t.right : Int) := by omega
  have hr1 : (t.right : Int) < 256 := by omega
  obtain ⟨n, hnl⟩ : ∃ n, l.length = n := ⟨_, rfl⟩
  have HNL := hide hnl
  rw [hnl] at S0 hn ⊢
  obtain ⟨g1, cap1, w1, hap1, S1⟩ := (unhide S0).app (UInt8.ofNat 3) 3 (by decide) (by omega) n hnl (W.heap.size + 1) (by simp)
  obtain ⟨tl1, a0, a1, a2, a3, a4, a5, af⟩ := (unhide S1).tm
  unfold tmV
  have e0 : (t.op : Int) = 3 := by omega
  rw [e0] at a0 hap1 ⊢
  clear hE ho h hl hr ht hnl hn hb e0 S0
  go_enter Tryz.func117, Tryz.ntmps117
  go_wp2_with fail
  exact unhide HQ _ _ ⟨_, rfl, (unhide S1).ob, (unhide S1).bel⟩

set_option maxRecDepth 100000 in
set_option maxHeartbeats 800000 in
theorem write_4 (base : Nat) (v : Value) (l : List UInt8) (t : Tm) (W : World) (h : OB W base v l) (hb : base ≤ W.heap.size) (hn : l.length ≤ 800000) (ht : SmallT t) (ho : t.op = 4) (Q : Ending → World → Prop) (hQ : ∀ e w', WrEnds base W (l ++ encT t) e w' → Q e w') :
    Calls Tryz.prog 117 #[tmV t, v] W Q := by
  have hE : encT t = [UInt8.ofNat 4] := by simp [encT, ho, isPair]
  have HQ := hide hQ
  rw [hE] at HQ
  clear hQ
  have S0 := hide (WSt.start h hb t 125)
  obtain ⟨a, c, rfl⟩ := h.form
  have hl := ht.left
  have hr := ht.right
  have hl0 : (0 : Int) ≤ (t.left : Int) := by omega
  have hl1 : (t.left : Int) < 256 := by omega
  have hr0 : (0 : Int) ≤ (t.right : Int) := by omega
  have hr1 : (t.right : Int) < 256 := by omega
  obtain ⟨n, hnl⟩ : ∃ n, l.length = n := ⟨_, rfl⟩
  have HNL := hide hnl
  rw [hnl] at S0 hn ⊢
  obtain ⟨g1, cap1, w1, hap1, S1⟩ := (unhide S0).app (UInt8.ofNat 4) 4 (by decide) (by omega) n hnl (W.heap.size + 1) (by simp)
  obtain ⟨tl1, a0, a1, a2, a3, a4, a5, af⟩ := (unhide S1).tm
  unfold tmV
  have e0 : (t.op : Int) = 4 := by omega
  rw [e0] at a0 hap1 ⊢
  clear hE ho h hl hr ht hnl hn hb e0 S0
  go_enter Tryz.func117, Tryz.ntmps117
  go_wp2_with fail
  exact unhide HQ _ _ ⟨_, rfl, (unhide S1).ob, (unhide S1).bel⟩

set_option maxRecDepth 100000 in
set_option maxHeartbeats 800000 in
theorem write_5 (base : Nat) (v : Value) (l : List UInt8) (t : Tm) (W : World) (h : OB W base v l) (hb : base ≤ W.heap.size) (hn : l.length ≤ 800000) (ht : SmallT t) (ho : t.op = 5) (Q : Ending → World → Prop) (hQ : ∀ e w', WrEnds base W (l ++ encT t) e w' → Q e w') :
    Calls Tryz.prog 117 #[tmV t, v] W Q := by
  have hE : encT t = [UInt8.ofNat 5, UInt8.ofNat t.left] := by simp [encT, ho, isPair]
  have HQ := hide hQ
  rw [hE] at HQ
  clear hQ
  have S0 := hide (WSt.start h hb t 125)
  obtain ⟨a, c, rfl⟩ := h.form
  have hl := ht.left
  have hr := ht.right
  have hl0 : (0 : Int) ≤ (t.left : Int) := by omega
  have hl1 : (t.left : Int) < 256 := by omega
  have hr0 : (0 : Int) ≤ (t.right : Int) := by omega
  have hr1 : (t.right : Int) < 256 := by omega
  obtain ⟨n, hnl⟩ : ∃ n, l.length = n := ⟨_, rfl⟩
  have HNL := hide hnl
  rw [hnl] at S0 hn ⊢
  obtain ⟨g1, cap1, w1, hap1, S1⟩ := (unhide S0).app (UInt8.ofNat 5) 5 (by decide) (by omega) n hnl (W.heap.size + 1) (by simp)
  obtain ⟨tl1, a0, a1, a2, a3, a4, a5, af⟩ := (unhide S1).tm
  obtain ⟨g2, cap2, w2, hap2, S2⟩ := (unhide S1).app (UInt8.ofNat t.left) (t.left : Int) (u8_of hl) (by simp; omega) (n + 1) (by simp [hnl]) _ rfl
  unfold tmV
  have e0 : (t.op : Int) = 5 := by omega
  rw [e0] at a0 hap1 ⊢
  clear hE ho h hl hr ht hnl hn hb e0 S0
  go_enter Tryz.func117, Tryz.ntmps117
  go_wp2_with fail
  exact unhide HQ _ _ ⟨_, rfl, by have := (unhide S2).ob; rw [List.append_assoc] at this; exact this, (unhide S2).bel⟩

set_option maxRecDepth 100000 in
set_option maxHeartbeats 800000 in
theorem write_6 (base : Nat) (v : Value) (l : List UInt8) (t : Tm) (W : World) (h : OB W base v l) (hb : base ≤ W.heap.size) (hn : l.length ≤ 800000) (ht : SmallT t) (ho : t.op = 6) (Q : Ending → World → Prop) (hQ : ∀ e w', WrEnds base W (l ++ encT t) e w' → Q e w') :
    Calls Tryz.prog 117 #[tmV t, v] W Q := by
  have hE : encT t = [UInt8.ofNat 6, UInt8.ofNat t.right, UInt8.ofNat t.left] := by simp [encT, ho, isPair]
  have HQ := hide hQ
  rw [hE] at HQ
  clear hQ
  have S0 := hide (WSt.start h hb t 125)
  obtain ⟨a, c, rfl⟩ := h.form
  have hl := ht.left
  have hr := ht.right
  have hl0 : (0 : Int) ≤ (t.left : Int) := by omega
  have hl1 : (t.left : Int) < 256 := by omega
  have hr0 : (0 : Int) ≤ (t.right : Int) := by omega
  have hr1 : (t.right : Int) < 256 := by omega
  obtain ⟨n, hnl⟩ : ∃ n, l.length = n := ⟨_, rfl⟩
  have HNL := hide hnl
  rw [hnl] at S0 hn ⊢
  obtain ⟨g1, cap1, w1, hap1, S1⟩ := (unhide S0).app (UInt8.ofNat 6) 6 (by decide) (by omega) n hnl (W.heap.size + 1) (by simp)
  obtain ⟨tl1, a0, a1, a2, a3, a4, a5, af⟩ := (unhide S1).tm
  obtain ⟨g2, cap2, w2, hap2, S2⟩ := (unhide S1).app (UInt8.ofNat t.right) (t.right : Int) (u8_of hr) (by simp; omega) (n + 1) (by simp [hnl]) _ rfl
  obtain ⟨tl2, b0, b1, b2, b3, b4, b5, bf⟩ := (unhide S2).tm
  obtain ⟨g3, cap3, w3, hap3, S3⟩ := (unhide S2).app (UInt8.ofNat t.left) (t.left : Int) (u8_of hl) (by simp; omega) (n + 1 + 1) (by simp [hnl]) _ rfl
  unfold tmV
  have e0 : (t.op : Int) = 6 := by omega
  rw [e0] at a0 hap1 b0 ⊢
  clear hE ho h hl hr ht hnl hn hb e0 S0
  go_enter Tryz.func117, Tryz.ntmps117
  go_wp2_with fail
  exact unhide HQ _ _ ⟨_, rfl, by have := (unhide S3).ob; rw [List.append_assoc, List.append_assoc] at this; exact this, (unhide S3).bel⟩

set_option maxRecDepth 100000 in
set_option maxHeartbeats 800000 in
theorem write_7 (base : Nat) (v : Value) (l : List UInt8) (t : Tm) (W : World) (h : OB W base v l) (hb : base ≤ W.heap.size) (hn : l.length ≤ 800000) (ht : SmallT t) (ho : t.op = 7) (Q : Ending → World → Prop) (hQ : ∀ e w', WrEnds base W (l ++ encT t) e w' → Q e w') :
    Calls Tryz.prog 117 #[tmV t, v] W Q := by
  have hE : encT t = [UInt8.ofNat 7, UInt8.ofNat t.right, UInt8.ofNat t.left] := by simp [encT, ho, isPair]
  have HQ := hide hQ
  rw [hE] at HQ
  clear hQ
  have S0 := hide (WSt.start h hb t 125)
  obtain ⟨a, c, rfl⟩ := h.form
  have hl := ht.left
  have hr := ht.right
  have hl0 : (0 : Int) ≤ (t.left : Int) := by omega
  have hl1 : (t.left : Int) < 256 := by omega
  have hr0 : (0 : Int) ≤ (t.right : Int) := by omega
  have hr1 : (t.right : Int) < 256 := by omega
  obtain ⟨n, hnl⟩ : ∃ n, l.length = n := ⟨_, rfl⟩
  have HNL := hide hnl
  rw [hnl] at S0 hn ⊢
  obtain ⟨g1, cap1, w1, hap1, S1⟩ := (unhide S0).app (UInt8.ofNat 7) 7 (by decide) (by omega) n hnl (W.heap.size + 1) (by simp)
  obtain ⟨tl1, a0, a1, a2, a3, a4, a5, af⟩ := (unhide S1).tm
  obtain ⟨g2, cap2, w2, hap2, S2⟩ := (unhide S1).app (UInt8.ofNat t.right) (t.right : Int) (u8_of hr) (by simp; omega) (n + 1) (by simp [hnl]) _ rfl
  obtain ⟨tl2, b0, b1, b2, b3, b4, b5, bf⟩ := (unhide S2).tm
  obtain ⟨g3, cap3, w3, hap3, S3⟩ := (unhide S2).app (UInt8.ofNat t.left) (t.left : Int) (u8_of hl) (by simp; omega) (n + 1 + 1) (by simp [hnl]) _ rfl
  unfold tmV
  have e0 : (t.op : Int) = 7 := by omega
  rw [e0] at a0 hap1 b0 ⊢
  clear hE ho h hl hr ht hnl hn hb e0 S0
  go_enter Tryz.func117, Tryz.ntmps117
  go_wp2_with fail
  exact unhide HQ _ _ ⟨_, rfl, by have := (unhide S3).ob; rw [List.append_assoc, List.append_assoc] at this; exact this, (unhide S3).bel⟩

set_option maxRecDepth 100000 in
set_option maxHeartbeats 800000 in
theorem write_8 (base : Nat) (v : Value) (l : List UInt8) (t : Tm) (W : World) (h : OB W base v l) (hb : base ≤ W.heap.size) (hn : l.length ≤ 800000) (ht : SmallT t) (ho : t.op = 8) (Q : Ending → World → Prop) (hQ : ∀ e w', WrEnds base W (l ++ encT t) e w' → Q e w') :
    Calls Tryz.prog 117 #[tmV t, v] W Q := by
  have hE : encT t = [UInt8.ofNat 8, UInt8.ofNat t.right, UInt8.ofNat t.left] := by simp [encT, ho, isPair]
  have HQ := hide hQ
  rw [hE] at HQ
  clear hQ
  have S0 := hide (WSt.start h hb t 125)
  obtain ⟨a, c, rfl⟩ := h.form
  have hl := ht.left
  have hr := ht.right
  have hl0 : (0 : Int) ≤ (t.left : Int) := by omega
  have hl1 : (t.left : Int) < 256 := by omega
  have hr0 : (0 : Int) ≤ (t.right : Int) := by omega
  have hr1 : (t.right : Int) < 256 := by omega
  obtain ⟨n, hnl⟩ : ∃ n, l.length = n := ⟨_, rfl⟩
  have HNL := hide hnl
  rw [hnl] at S0 hn ⊢
  obtain ⟨g1, cap1, w1, hap1, S1⟩ := (unhide S0).app (UInt8.ofNat 8) 8 (by decide) (by omega) n hnl (W.heap.size + 1) (by simp)
  obtain ⟨tl1, a0, a1, a2, a3, a4, a5, af⟩ := (unhide S1).tm
  obtain ⟨g2, cap2, w2, hap2, S2⟩ := (unhide S1).app (UInt8.ofNat t.right) (t.right : Int) (u8_of hr) (by simp; omega) (n + 1) (by simp [hnl]) _ rfl
  obtain ⟨tl2, b0, b1, b2, b3, b4, b5, bf⟩ := (unhide S2).tm
  obtain ⟨g3, cap3, w3, hap3, S3⟩ := (unhide S2).app (UInt8.ofNat t.left) (t.left : Int) (u8_of hl) (by simp; omega) (n + 1 + 1) (by simp [hnl]) _ rfl
  unfold tmV
  have e0 : (t.op : Int) = 8 := by omega
  rw [e0] at a0 hap1 b0 ⊢
  clear hE ho h hl hr ht hnl hn hb e0 S0
  go_enter Tryz.func117, Tryz.ntmps117
  go_wp2_with fail
  exact unhide HQ _ _ ⟨_, rfl, by have := (unhide S3).ob; rw [List.append_assoc, List.append_assoc] at this; exact this, (unhide S3).bel⟩

set_option maxRecDepth 100000 in
set_option maxHeartbeats 800000 in
theorem write_10 (base : Nat) (v : Value) (l : List UInt8) (t : Tm) (W : World) (h : OB W base v l) (hb : base ≤ W.heap.size) (hn : l.length ≤ 800000) (ht : SmallT t) (ho : t.op = 10) (Q : Ending → World → Prop) (hQ : ∀ e w', WrEnds base W (l ++ encT t) e w' → Q e w') :
    Calls Tryz.prog 117 #[tmV t, v] W Q := by
  have hE : encT t = [UInt8.ofNat 10, UInt8.ofNat t.right, UInt8.ofNat t.left] := by simp [encT, ho, isPair]
  have HQ := hide hQ
  rw [hE] at HQ
  clear hQ
  have S0 := hide (WSt.start h hb t 125)
  obtain ⟨a, c, rfl⟩ := h.form
  have hl := ht.left
  have hr := ht.right
  have hl0 : (0 : Int) ≤ (t.left : Int) := by omega
  have hl1 : (t.left : Int) < 256 := by omega
  have hr0 : (0 : Int) ≤ (t.right : Int) := by omega
  have hr1 : (t.right : Int) < 256 := by omega
  obtain ⟨n, hnl⟩ : ∃ n, l.length = n := ⟨_, rfl⟩
  have HNL := hide hnl
  rw [hnl] at S0 hn ⊢
  obtain ⟨g1, cap1, w1, hap1, S1⟩ := (unhide S0).app (UInt8.ofNat 10) 10 (by decide) (by omega) n hnl (W.heap.size + 1) (by simp)
  obtain ⟨tl1, a0, a1, a2, a3, a4, a5, af⟩ := (unhide S1).tm
  obtain ⟨g2, cap2, w2, hap2, S2⟩ := (unhide S1).app (UInt8.ofNat t.right) (t.right : Int) (u8_of hr) (by simp; omega) (n + 1) (by simp [hnl]) _ rfl
  obtain ⟨tl2, b0, b1, b2, b3, b4, b5, bf⟩ := (unhide S2).tm
  obtain ⟨g3, cap3, w3, hap3, S3⟩ := (unhide S2).app (UInt8.ofNat t.left) (t.left : Int) (u8_of hl) (by simp; omega) (n + 1 + 1) (by simp [hnl]) _ rfl
  unfold tmV
  have e0 : (t.op : Int) = 10 := by omega
  rw [e0] at a0 hap1 b0 ⊢
  clear hE ho h hl hr ht hnl hn hb e0 S0
  go_enter Tryz.func117, Tryz.ntmps117
  go_wp2_with fail
  exact unhide HQ _ _ ⟨_, rfl, by have := (unhide S3).ob; rw [List.append_assoc, List.append_assoc] at this; exact this, (unhide S3).bel⟩

set_option maxRecDepth 100000 in
set_option maxHeartbeats 800000 in
theorem write_11 (base : Nat) (v : Value) (l : List UInt8) (t : Tm) (W : World) (h : OB W base v l) (hb : base ≤ W.heap.size) (hn : l.length ≤ 800000) (ht : SmallT t) (ho : t.op = 11) (Q : Ending → World → Prop) (hQ : ∀ e w', WrEnds base W (l ++ encT t) e w' → Q e w') :
    Calls Tryz.prog 117 #[tmV t, v] W Q := by
  have hE : encT t = [UInt8.ofNat 11, UInt8.ofNat t.right, UInt8.ofNat t.left] := by simp [encT, ho, isPair]
  have HQ := hide hQ
  rw [hE] at HQ
  clear hQ
  have S0 := hide (WSt.start h hb t 125)
  obtain ⟨a, c, rfl⟩ := h.form
  have hl := ht.left
  have hr := ht.right
  have hl0 : (0 : Int) ≤ (t.left : Int) := by omega
  have hl1 : (t.left : Int) < 256 := by omega
  have hr0 : (0 : Int) ≤ (t.right : Int) := by omega
  have hr1 : (t.right : Int) < 256 := by omega
  obtain ⟨n, hnl⟩ : ∃ n, l.length = n := ⟨_, rfl⟩
  have HNL := hide hnl
  rw [hnl] at S0 hn ⊢
  obtain ⟨g1, cap1, w1, hap1, S1⟩ := (unhide S0).app (UInt8.ofNat 11) 11 (by decide) (by omega) n hnl (W.heap.size + 1) (by simp)
  obtain ⟨tl1, a0, a1, a2, a3, a4, a5, af⟩ := (unhide S1).tm
  obtain ⟨g2, cap2, w2, hap2, S2⟩ := (unhide S1).app (UInt8.ofNat t.right) (t.right : Int) (u8_of hr) (by simp; omega) (n + 1) (by simp [hnl]) _ rfl
  obtain ⟨tl2, b0, b1, b2, b3, b4, b5, bf⟩ := (unhide S2).tm
  obtain ⟨g3, cap3, w3, hap3, S3⟩ := (unhide S2).app (UInt8.ofNat t.left) (t.left : Int) (u8_of hl) (by simp; omega) (n + 1 + 1) (by simp [hnl]) _ rfl
  unfold tmV
  have e0 : (t.op : Int) = 11 := by omega
  rw [e0] at a0 hap1 b0 ⊢
  clear hE ho h hl hr ht hnl hn hb e0 S0
  go_enter Tryz.func117, Tryz.ntmps117
  go_wp2_with fail
  exact unhide HQ _ _ ⟨_, rfl, by have := (unhide S3).ob; rw [List.append_assoc, List.append_assoc] at this; exact this, (unhide S3).bel⟩

set_option maxRecDepth 100000 in
set_option maxHeartbeats 800000 in
theorem write_16 (base : Nat) (v : Value) (l : List UInt8) (t : Tm) (W : World) (h : OB W base v l) (hb : base ≤ W.heap.size) (hn : l.length ≤ 800000) (ht : SmallT t) (ho : t.op = 16) (Q : Ending → World → Prop) (hQ : ∀ e w', WrEnds base W (l ++ encT t) e w' → Q e w') :
    Calls Tryz.prog 117 #[tmV t, v] W Q := by
  have hE : encT t = [UInt8.ofNat 16, UInt8.ofNat t.right, UInt8.ofNat t.left] := by simp [encT, ho, isPair]
  have HQ := hide hQ
  rw [hE] at HQ
  clear hQ
  have S0 := hide (WSt.start h hb t 125)
  obtain ⟨a, c, rfl⟩ := h.form
  have hl := ht.left
  have hr := ht.right
  have hl0 : (0 : Int) ≤ (t.left : Int) := by omega
  have hl1 : (t.left : Int) < 256 := by omega
  have hr0 : (0 : Int) ≤ (t.right : Int) := by omega
  have hr1 : (t.right : Int) < 256 := by omega
  obtain ⟨n, hnl⟩ : ∃ n, l.length = n := ⟨_, rfl⟩
  have HNL := hide hnl
  rw [hnl] at S0 hn ⊢
  obtain ⟨g1, cap1, w1, hap1, S1⟩ := (unhide S0).app (UInt8.ofNat 16) 16 (by decide) (by omega) n hnl (W.heap.size + 1) (by simp)
  obtain ⟨tl1, a0, a1, a2, a3, a4, a5, af⟩ := (unhide S1).tm
  obtain ⟨g2, cap2, w2, hap2, S2⟩ := (unhide S1).app (UInt8.ofNat t.right) (t.right : Int) (u8_of hr) (by simp; omega) (n + 1) (by simp [hnl]) _ rfl
  obtain ⟨tl2, b0, b1, b2, b3, b4, b5, bf⟩ := (unhide S2).tm
  obtain ⟨g3, cap3, w3, hap3, S3⟩ := (unhide S2).app (UInt8.ofNat t.left) (t.left : Int) (u8_of hl) (by simp; omega) (n + 1 + 1) (by simp [hnl]) _ rfl
  unfold tmV
  have e0 : (t.op : Int) = 16 := by omega
  rw [e0] at a0 hap1 b0 ⊢
  clear hE ho h hl hr ht hnl hn hb e0 S0
  go_enter Tryz.func117, Tryz.ntmps117
  go_wp2_with fail
  exact unhide HQ _ _ ⟨_, rfl, by have := (unhide S3).ob; rw [List.append_assoc, List.append_assoc] at this; exact this, (unhide S3).bel⟩

set_option maxRecDepth 100000 in
set_option maxHeartbeats 800000 in
theorem write_17 (base : Nat) (v : Value) (l : List UInt8) (t : Tm) (W : World) (h : OB W base v l) (hb : base ≤ W.heap.size) (hn : l.length ≤ 800000) (ht : SmallT t) (ho : t.op = 17) (Q : Ending → World → Prop) (hQ : ∀ e w', WrEnds base W (l ++ encT t) e w' → Q e w') :
    Calls Tryz.prog 117 #[tmV t, v] W Q := by
  have hE : encT t = [UInt8.ofNat 17, UInt8.ofNat t.right, UInt8.ofNat t.left] := by simp [encT, ho, isPair]
  have HQ := hide hQ
  rw [hE] at HQ
  clear hQ
  have S0 := hide (WSt.start h hb t 125)
  obtain ⟨a, c, rfl⟩ := h.form
  have hl := ht.left
  have hr := ht.right
  have hl0 : (0 : Int) ≤ (t.left : Int) := by omega
  have hl1 : (t.left : Int) < 256 := by omega
  have hr0 : (0 : Int) ≤ (t.right : Int) := by omega
  have hr1 : (t.right : Int) < 256 := by omega
  obtain ⟨n, hnl⟩ : ∃ n, l.length = n := ⟨_, rfl⟩
  have HNL := hide hnl
  rw [hnl] at S0 hn ⊢
  obtain ⟨g1, cap1, w1, hap1, S1⟩ := (unhide S0).app (UInt8.ofNat 17) 17 (by decide) (by omega) n hnl (W.heap.size + 1) (by simp)
  obtain ⟨tl1, a0, a1, a2, a3, a4, a5, af⟩ := (unhide S1).tm
  obtain ⟨g2, cap2, w2, hap2, S2⟩ := (unhide S1).app (UInt8.ofNat t.right) (t.right : Int) (u8_of hr) (by simp; omega) (n + 1) (by simp [hnl]) _ rfl
  obtain ⟨tl2, b0, b1, b2, b3, b4, b5, bf⟩ := (unhide S2).tm
  obtain ⟨g3, cap3, w3, hap3, S3⟩ := (unhide S2).app (UInt8.ofNat t.left) (t.left : Int) (u8_of hl) (by simp; omega) (n + 1 + 1) (by simp [hnl]) _ rfl
  unfold tmV
  have e0 : (t.op : Int) = 17 := by omega
  rw [e0] at a0 hap1 b0 ⊢
  clear hE ho h hl hr ht hnl hn hb e0 S0
  go_enter Tryz.func117, Tryz.ntmps117
  go_wp2_with fail
  exact unhide HQ _ _ ⟨_, rfl, by have := (unhide S3).ob; rw [List.append_assoc, List.append_assoc] at this; exact this, (unhide S3).bel⟩

set_option maxRecDepth 100000 in
set_option maxHeartbeats 800000 in
theorem write_18 (base : Nat) (v : Value) (l : List UInt8) (t : Tm) (W : World) (h : OB W base v l) (hb : base ≤ W.heap.size) (hn : l.length ≤ 800000) (ht : SmallT t) (ho : t.op = 18) (Q : Ending → World → Prop) (hQ : ∀ e w', WrEnds base W (l ++ encT t) e w' → Q e w') :
    Calls Tryz.prog 117 #[tmV t, v] W Q := by
  have hE : encT t = [UInt8.ofNat 18, UInt8.ofNat t.right, UInt8.ofNat t.left] := by simp [encT, ho, isPair]
  have HQ := hide hQ
  rw [hE] at HQ
  clear hQ
  have S0 := hide (WSt.start h hb t 125)
  obtain ⟨a, c, rfl⟩ := h.form
  have hl := ht.left
  have hr := ht.right
  have hl0 : (0 : Int) ≤ (t.left : Int) := by omega
  have hl1 : (t.left : Int) < 256 := by omega
  have hr0 : (0 : Int) ≤ (t.right : Int) := by omega
  have hr1 : (t.right : Int) < 256 := by omega
  obtain ⟨n, hnl⟩ : ∃ n, l.length = n := ⟨_, rfl⟩
  have HNL := hide hnl
  rw [hnl] at S0 hn ⊢
  obtain ⟨g1, cap1, w1, hap1, S1⟩ := (unhide S0).app (UInt8.ofNat 18) 18 (by decide) (by omega) n hnl (W.heap.size + 1) (by simp)
  obtain ⟨tl1, a0, a1, a2, a3, a4, a5, af⟩ := (unhide S1).tm
  obtain ⟨g2, cap2, w2, hap2, S2⟩ := (unhide S1).app (UInt8.ofNat t.right) (t.right : Int) (u8_of hr) (by simp; omega) (n + 1) (by simp [hnl]) _ rfl
  obtain ⟨tl2, b0, b1, b2, b3, b4, b5, bf⟩ := (unhide S2).tm
  obtain ⟨g3, cap3, w3, hap3, S3⟩ := (unhide S2).app (UInt8.ofNat t.left) (t.left : Int) (u8_of hl) (by simp; omega) (n + 1 + 1) (by simp [hnl]) _ rfl
  unfold tmV
  have e0 : (t.op : Int) = 18 := by omega
  rw [e0] at a0 hap1 b0 ⊢
  clear hE ho h hl hr ht hnl hn hb e0 S0
  go_enter Tryz.func117, Tryz.ntmps117
  go_wp2_with fail
  exact unhide HQ _ _ ⟨_, rfl, by have := (unhide S3).ob; rw [List.append_assoc, List.append_assoc] at this; exact this, (unhide S3).bel⟩

set_option maxRecDepth 100000 in
set_option maxHeartbeats 800000 in
theorem write_19 (base : Nat) (v : Value) (l : List UInt8) (t : Tm) (W : World) (h : OB W base v l) (hb : base ≤ W.heap.size) (hn : l.length ≤ 800000) (ht : SmallT t) (ho : t.op = 19) (Q : Ending → World → Prop) (hQ : ∀ e w', WrEnds base W (l ++ encT t) e w' → Q e w') :
    Calls Tryz.prog 117 #[tmV t, v] W Q := by
  have hE : encT t = [UInt8.ofNat 19, UInt8.ofNat t.right, UInt8.ofNat t.left] := by simp [encT, ho, isPair]
  have HQ := hide hQ
  rw [hE] at HQ
  clear hQ
  have S0 := hide (WSt.start h hb t 125)
  obtain ⟨a, c, rfl⟩ := h.form
  have hl := ht.left
  have hr := ht.right
  have hl0 : (0 : Int) ≤ (t.left : Int) := by omega
  have hl1 : (t.left : Int) < 256 := by omega
  have hr0 : (0 : Int) ≤ (t.right : Int) := by omega
  have hr1 : (t.right : Int) < 256 := by omega
  obtain ⟨n, hnl⟩ : ∃ n, l.length = n := ⟨_, rfl⟩
  have HNL := hide hnl
  rw [hnl] at S0 hn ⊢
  obtain ⟨g1, cap1, w1, hap1, S1⟩ := (unhide S0).app (UInt8.ofNat 19) 19 (by decide) (by omega) n hnl (W.heap.size + 1) (by simp)
  obtain ⟨tl1, a0, a1, a2, a3, a4, a5, af⟩ := (unhide S1).tm
  obtain ⟨g2, cap2, w2, hap2, S2⟩ := (unhide S1).app (UInt8.ofNat t.right) (t.right : Int) (u8_of hr) (by simp; omega) (n + 1) (by simp [hnl]) _ rfl
  obtain ⟨tl2, b0, b1, b2, b3, b4, b5, bf⟩ := (unhide S2).tm
  obtain ⟨g3, cap3, w3, hap3, S3⟩ := (unhide S2).app (UInt8.ofNat t.left) (t.left : Int) (u8_of hl) (by simp; omega) (n + 1 + 1) (by simp [hnl]) _ rfl
  unfold tmV
  have e0 : (t.op : Int) = 19 := by omega
  rw [e0] at a0 hap1 b0 ⊢
  clear hE ho h hl hr ht hnl hn hb e0 S0
  go_enter Tryz.func117, Tryz.ntmps117
  go_wp2_with fail
  exact unhide HQ _ _ ⟨_, rfl, by have := (unhide S3).ob; rw [List.append_assoc, List.append_assoc] at this; exact this, (unhide S3).bel⟩

set_option maxRecDepth 100000 in
set_option maxHeartbeats 800000 in
theorem write_23 (base : Nat) (v : Value) (l : List UInt8) (t : Tm) (W : World) (h : OB W base v l) (hb : base ≤ W.heap.size) (hn : l.length ≤ 800000) (ht : SmallT t) (ho : t.op = 23) (Q : Ending → World → Prop) (hQ : ∀ e w', WrEnds base W (l ++ encT t) e w' → Q e w') :
    Calls Tryz.prog 117 #[tmV t, v] W Q := by
  have hE : encT t = [UInt8.ofNat 23, UInt8.ofNat t.left] := by simp [encT, ho, isPair]
  have HQ := hide hQ
  rw [hE] at HQ
  clear hQ
  have S0 := hide (WSt.start h hb t 125)
  obtain ⟨a, c, rfl⟩ := h.form
  have hl := ht.left
  have hr := ht.right
  have hl0 : (0 : Int) ≤ (t.left : Int) := by omega
  have hl1 : (t.left : Int) < 256 := by omega
  have hr0 : (0 : Int) ≤ (t.right : Int) := by omega
  have hr1 : (t.right : Int) < 256 := by omega
  obtain ⟨n, hnl⟩ : ∃ n, l.length = n := ⟨_, rfl⟩
  have HNL := hide hnl
  rw [hnl] at S0 hn ⊢
  obtain ⟨g1, cap1, w1, hap1, S1⟩ := (unhide S0).app (UInt8.ofNat 23) 23 (by decide) (by omega) n hnl (W.heap.size + 1) (by simp)
  obtain ⟨tl1, a0, a1, a2, a3, a4, a5, af⟩ := (unhide S1).tm
  obtain ⟨g2, cap2, w2, hap2, S2⟩ := (unhide S1).app (UInt8.ofNat t.left) (t.left : Int) (u8_of hl) (by simp; omega) (n + 1) (by simp [hnl]) _ rfl
  unfold tmV
  have e0 : (t.op : Int) = 23 := by omega
  rw [e0] at a0 hap1 ⊢
  clear hE ho h hl hr ht hnl hn hb e0 S0
  go_enter Tryz.func117, Tryz.ntmps117
  go_wp2_with fail
  exact unhide HQ _ _ ⟨_, rfl, by have := (unhide S2).ob; rw [List.append_assoc] at this; exact this, (unhide S2).bel⟩
end

end Go.Proofs.YtfkcaldjphakpaaGreatDoor
