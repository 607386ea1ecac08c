/- Rows of bytes: a number. A term as bytes. number, join. join, whatever the term. -/
import Derived.Test.YtfkcaldjphakpabGreatDoorT24
import Derived.Test.YtfkcaldjphakpabGreatDoorT09
namespace Go.Proofs.YtfkcaldjphakpabGreatDoor
open Go.RowKit
section
attribute [local go_sem ↓] qc8
def nByte (n : Int) (k : Nat) : UInt8 := UInt8.ofNat (n / 2 ^ (8 * k) % 256).toNat
def qw1 (n : Int) : Nat → List UInt8
  | 0 => []
  | k + 1 => qw1 n k ++ [nByte n k]
theorem va8 (n : Int) (k : Nat) : (qw1 n k).length = k := by
  induction k with
  | zero => rfl
  | succ k ih => rw [qw1, List.length_append, ih]; rfl
theorem jg9 (n : Int) (k : Nat) : n / 2 ^ (8 * k) % 256 = ((nByte n k).toNat : Int) := by
  have h1 := Int.emod_nonneg (n / 2 ^ (8 * k)) (show (256 : Int) ≠ 0 by decide)
  have h2 := Int.emod_lt_of_pos (n / 2 ^ (8 * k)) (show (0 : Int) < 256 by decide)
  unfold nByte
  generalize n / 2 ^ (8 * k) % 256 = x at *
  rw [UInt8.toNat_ofNat']
  omega
set_option maxHeartbeats 800000 in
set_option maxRecDepth 100000 in
theorem vn0 (base : Nat) (v : Value) (l : List UInt8) (n : Int) (W : World) (h : OB W base v l) (hb : base ≤ W.heap.size) (hn : l.length ≤ 900000) (Q : Ending → World → Prop) (hQ : ∀ e w', ve4 base W (l ++ qw1 n 8) e w' → Q e w') :
    Calls Tryz.prog 95 #[v, .int .i64 n] W Q := by
  have HQ := v6 hQ
  clear hQ
  have HO := v6 h
  obtain ⟨a, c, rfl⟩ := h.form
  clear h
  go_enter Tryz.func95, Tryz.ntmps95
  go_wp2_with fail
  go_loopw [0, 6] (fun u i wr => ∃ (k : Nat), k ≤ 8 ∧ i = .int .i64 k ∧ Hid (OB wr base u (l ++ qw1 n k)) ∧ Hid (Below base W wr)) (fun _ i _ => 8 - (intOf i).toNat)
  case atStart => exact ⟨0, by decide, rfl, by rw [qw1, List.append_nil]; exact HO, v6 (Below.refl _ _)⟩
  case round =>
    obtain ⟨k, hk, rfl, HK, HB⟩ := hrel
    have hlen : (l ++ qw1 n k).length ≤ 1000000 := by rw [List.length_append, va8]; omega
    obtain ⟨L, hL⟩ : ∃ L, l ++ qw1 n k = L := ⟨_, rfl⟩
    rw [hL] at HK hlen
    have HL := v6 hL
    clear hL
    obtain ⟨a', c', rfl⟩ := (q9 HK).form
    by_cases hk8 : k < 8
    · have hbz := (q9 HB).size
      obtain ⟨g, cap, w5, hap, HO5, HB5⟩ := (q9 HK).app (by omega) (nByte n k) _ (jg9 n k) hlen 36 _ rfl rfl
      have HB6 := v6 ((q9 HB).trans (q9 HB5))
      clear HB5
      go_wp2_with fail
      exact ⟨⟨k + 1, by omega, rfl, v6 (by rw [qw1, ← List.append_assoc, q9 HL]; exact q9 HO5), HB6⟩, by simp [intOf]; omega⟩
    · have : k = 8 := by omega
      subst this
      go_wp2_with fail
      exact q9 HQ _ _ ⟨_, rfl, by rw [q9 HL]; exact q9 HK, q9 HB⟩
end
section
set_option linter.unusedSimpArgs false
set_option linter.unusedVariables false
attribute [local go_sem ↓] qc8
def jc2 (t : Tm) : List UInt8 :=
  if t.op = 1 then UInt8.ofNat t.op :: qw1 t.num 8
  else if t.op = 22 then [UInt8.ofNat t.op, UInt8.ofNat t.left] ++ lenB t.esc ++ lenB t.str
  else if t.op = 0 ∨ t.op = 2 then UInt8.ofNat t.op :: lenB t.str
  else if qy8 t.op then [UInt8.ofNat t.op, UInt8.ofNat t.right, UInt8.ofNat t.left]
  else if t.op = 5 ∨ t.op = 23 then [UInt8.ofNat t.op, UInt8.ofNat t.left]
  else [UInt8.ofNat t.op]
structure WSt (base : Nat) (W : World) (l : List UInt8) (tb : Nat) (t : Tm) (w' : World) (v' : Value) : Prop where
  ob : OB w' base v' l
  tm : TmAt w' tb t
  ne : v'.ownBlock ≠ some tb
  bel : Below base W w'
  ge : base ≤ w'.heap.size
theorem WSt.start {base : Nat} {W : World} {v : Value} {l : List UInt8} (h : OB W base v l) (hb : base ≤ W.heap.size) (t : Tm) (ty : TypeId) :
    WSt base W l W.heap.size t (W.alloc (.cells #[.int .i64 t.op, .int .i64 t.left, .int .i64 t.right, .int .i64 t.num, .string (BS t.str), .string (BS t.esc)] ty)) v := by
  refine ⟨World.ownsRow.alloc h _, ⟨by simp, ?_, ?_, ?_, ?_, ?_, ?_, fun j => ?_⟩, fun e => by have := (World.ownsRow.lt h _ e).2; omega, (Below.refl _ _).alloc hb _, by simp; omega⟩ <;> simp [go_sem]
theorem WSt.app {base : Nat} {W : World} {l : List UInt8} {tb : Nat} {t : Tm} {w' : World} {v' : Value} (h : WSt base W l tb t w' v') (x : UInt8) (xi : Int) (hx : xi = (x.toNat : Int)) (hn : l.length ≤ 1000000) (n : Nat) (hnl : l.length = n) (H : Nat) (hH : w'.heap.size = H) :
    ∃ g cap w5, (qm1 #[36, 36] 36 #[v', .slice (some ⟨H, 0, none⟩) 1 1]).run Tryz.prog (w'.alloc (.cells #[.int .u8 xi] 5)) = .ok (.slice (some ⟨g, 0, none⟩) (n + 1) cap) w5 ∧
      Hid (WSt base W (l ++ [x]) tb t w5 (.slice (some ⟨g, 0, none⟩) (n + 1) cap)) := by
  subst hH hx hnl
  obtain ⟨i0, hi, hz0, hz1, hz2⟩ := info_parts va4
  have hge := h.ge
  have ha := World.ownsRow.alloc h.ob (.cells #[.int .u8 (x.toNat : Int)] 5)
  obtain ⟨g, cap, w5, hr, hown, hgrow, hat, _⟩ := run_append_lies (P := Tryz.prog) (w'.alloc (.cells #[.int .u8 (x.toNat : Int)] 5)) 36 36 base 5 i0 _ 1 1 Tryz.underlying36 hi hz0 hz1 hz2 rfl (by omega) v' l.length (qr6 l) ha
    ⟨w'.heap.size, 0, none⟩ 1 1 [.int .u8 (x.toNat : Int)] rfl (World.news_of_block (cs := #[.int .u8 (x.toNat : Int)]) (t := 5) (fr := (0, 0)) (heap_alloc_new w' _)) (by simp [Value.oneCell']) (by omega) (by unfold maxLen; omega) (by omega) (by simp; omega) _ rfl
  have hz := hgrow.size
  simp at hz
  have htl := h.tm.lt
  have hb5 : Below base w' w5 := Go.RowKit.Below.grown (((Below.refl base w').alloc hge _)) hgrow (by simp; omega) (fun k hk => (ha.lt k hk).1)
  refine ⟨g, cap, w5, hr, v6 ⟨?_, ?_, ?_, h.bel.trans hb5, by omega⟩⟩
  · show World.ownsRow _ _ _ _ _ _ _
    rw [List.length_append, List.length_singleton, qr6, List.map_append]
    exact hown
  · exact h.tm.same (by omega) ((hgrow.block tb (by simp; omega) (fun e => h.ne e.symm)).trans (Below.heap_alloc w' _ tb htl))
  · intro e
    have he : g = tb := by simpa [Value.ownBlock] using e
    subst he
    rcases hat with hat | hat
    · exact h.ne hat
    · simp at hat
      omega
structure SmallT (t : Tm) : Prop where
  left : t.left ≤ 255
  right : t.right ≤ 255
  str : t.str.length ≤ 255
  esc : t.esc.length ≤ 255
theorem u8_of {n : Nat} (h : n ≤ 255) : (n : Int) = ((UInt8.ofNat n).toNat : Int) := by rw [UInt8.toNat_ofNat']; omega
set_option maxRecDepth 100000 in
set_option maxHeartbeats 800000 in
theorem write_0 (base : Nat) (v : Value) (l : List UInt8) (t : Tm) (W : World) (h : OB W base v l) (hb : base ≤ W.heap.size) (hn : l.length ≤ 800000) (ht : SmallT t) (ho : t.op = 0) (Q : Ending → World → Prop) (hQ : ∀ e w', ve4 base W (l ++ jc2 t) e w' → Q e w') :
    Calls Tryz.prog 63 #[tmV t, v] W Q := by
  have hE : jc2 t = UInt8.ofNat 0 :: lenB t.str := by simp [jc2, ho, qy8]
  have HQ := v6 hQ
  rw [hE] at HQ
  clear hQ
  have S0 := v6 (WSt.start h hb t 142)
  obtain ⟨a, c, rfl⟩ := h.form
  have hl := ht.left
  have hr := ht.right
  have hl0 : (0 : Int) ≤ (t.left : Int) := by omega
  have hl1 : (t.left : Int) < 256 := by omega
  have hr0 : (0 : Int) ≤ (t.right : Int) := by omega
  have hr1 : (t.right : Int) < 256 := by omega
  obtain ⟨n, hnl⟩ : ∃ n, l.length = n := ⟨_, rfl⟩
  have HNL := v6 hnl
  rw [hnl] at S0 hn ⊢
  obtain ⟨g1, cap1, w1, hap1, S1⟩ := (q9 S0).app (UInt8.ofNat 0) 0 (by decide) (by omega) n hnl (W.heap.size + 1) (by simp)
  obtain ⟨tl1, a0, a1, a2, a3, a4, a5, af⟩ := (q9 S1).tm
  have hs := ht.str
  have WN := v6 (vw1 base (.slice (some ⟨g1, 0, none⟩) (n + 1) cap1) (l ++ [UInt8.ofNat 0]) t.str w1 (q9 S1).ob (q9 S1).ge (by simp; omega) (by omega) _ (fun e w' h => h))
  unfold tmV
  have e0 : (t.op : Int) = 0 := by omega
  rw [e0] at a0 hap1 ⊢
  clear hE ho h hl hr ht hnl hn hb e0 S0
  go_enter Tryz.func63, Tryz.ntmps63
  go_wp2_with (go_at_call 96; refine (q9 WN).mono ?_; rintro e w2 ⟨v2, rfl, ho2, hb2⟩; have HO2 := v6 ho2; have HB2 := v6 hb2; clear ho2 hb2)
  exact q9 HQ _ _ ⟨_, rfl, by have := q9 HO2; rw [List.append_assoc] at this; exact this, (q9 S1).bel.trans (q9 HB2)⟩
set_option maxRecDepth 100000 in
set_option maxHeartbeats 800000 in
theorem write_1 (base : Nat) (v : Value) (l : List UInt8) (t : Tm) (W : World) (h : OB W base v l) (hb : base ≤ W.heap.size) (hn : l.length ≤ 800000) (ht : SmallT t) (ho : t.op = 1) (Q : Ending → World → Prop) (hQ : ∀ e w', ve4 base W (l ++ jc2 t) e w' → Q e w') :
    Calls Tryz.prog 63 #[tmV t, v] W Q := by
  have hE : jc2 t = UInt8.ofNat 1 :: qw1 t.num 8 := by simp [jc2, ho, qy8]
  have HQ := v6 hQ
  rw [hE] at HQ
  clear hQ
  have S0 := v6 (WSt.start h hb t 142)
  obtain ⟨a, c, rfl⟩ := h.form
  have hl := ht.left
  have hr := ht.right
  have hl0 : (0 : Int) ≤ (t.left : Int) := by omega
  have hl1 : (t.left : Int) < 256 := by omega
  have hr0 : (0 : Int) ≤ (t.right : Int) := by omega
  have hr1 : (t.right : Int) < 256 := by omega
  obtain ⟨n, hnl⟩ : ∃ n, l.length = n := ⟨_, rfl⟩
  have HNL := v6 hnl
  rw [hnl] at S0 hn ⊢
  obtain ⟨g1, cap1, w1, hap1, S1⟩ := (q9 S0).app (UInt8.ofNat 1) 1 (by decide) (by omega) n hnl (W.heap.size + 1) (by simp)
  obtain ⟨tl1, a0, a1, a2, a3, a4, a5, af⟩ := (q9 S1).tm
  have WN := v6 (vn0 base (.slice (some ⟨g1, 0, none⟩) (n + 1) cap1) (l ++ [UInt8.ofNat 1]) t.num w1 (q9 S1).ob (q9 S1).ge (by simp; omega) _ (fun e w' h => h))
  unfold tmV
  have e0 : (t.op : Int) = 1 := by omega
  rw [e0] at a0 hap1 ⊢
  clear hE ho h hl hr ht hnl hn hb e0 S0
  go_enter Tryz.func63, Tryz.ntmps63
  go_wp2_with (go_at_call 95; refine (q9 WN).mono ?_; rintro e w2 ⟨v2, rfl, ho2, hb2⟩; have HO2 := v6 ho2; have HB2 := v6 hb2; clear ho2 hb2)
  exact q9 HQ _ _ ⟨_, rfl, by have := q9 HO2; rw [List.append_assoc] at this; exact this, (q9 S1).bel.trans (q9 HB2)⟩
set_option maxRecDepth 100000 in
set_option maxHeartbeats 800000 in
theorem write_10 (base : Nat) (v : Value) (l : List UInt8) (t : Tm) (W : World) (h : OB W base v l) (hb : base ≤ W.heap.size) (hn : l.length ≤ 800000) (ht : SmallT t) (ho : t.op = 10) (Q : Ending → World → Prop) (hQ : ∀ e w', ve4 base W (l ++ jc2 t) e w' → Q e w') :
    Calls Tryz.prog 63 #[tmV t, v] W Q := by
  have hE : jc2 t = [UInt8.ofNat 10, UInt8.ofNat t.right, UInt8.ofNat t.left] := by simp [jc2, ho, qy8]
  have HQ := v6 hQ
  rw [hE] at HQ
  clear hQ
  have S0 := v6 (WSt.start h hb t 142)
  obtain ⟨a, c, rfl⟩ := h.form
  have hl := ht.left
  have hr := ht.right
  have hl0 : (0 : Int) ≤ (t.left : Int) := by omega
  have hl1 : (t.left : Int) < 256 := by omega
  have hr0 : (0 : Int) ≤ (t.right : Int) := by omega
  have hr1 : (t.right : Int) < 256 := by omega
  obtain ⟨n, hnl⟩ : ∃ n, l.length = n := ⟨_, rfl⟩
  have HNL := v6 hnl
  rw [hnl] at S0 hn ⊢
  obtain ⟨g1, cap1, w1, hap1, S1⟩ := (q9 S0).app (UInt8.ofNat 10) 10 (by decide) (by omega) n hnl (W.heap.size + 1) (by simp)
  obtain ⟨tl1, a0, a1, a2, a3, a4, a5, af⟩ := (q9 S1).tm
  obtain ⟨g2, cap2, w2, hap2, S2⟩ := (q9 S1).app (UInt8.ofNat t.right) (t.right : Int) (u8_of hr) (by simp; omega) (n + 1) (by simp [hnl]) _ rfl
  obtain ⟨tl2, b0, b1, b2, b3, b4, b5, bf⟩ := (q9 S2).tm
  obtain ⟨g3, cap3, w3, hap3, S3⟩ := (q9 S2).app (UInt8.ofNat t.left) (t.left : Int) (u8_of hl) (by simp; omega) (n + 1 + 1) (by simp [hnl]) _ rfl
  unfold tmV
  have e0 : (t.op : Int) = 10 := by omega
  rw [e0] at a0 hap1 b0 ⊢
  clear hE ho h hl hr ht hnl hn hb e0 S0
  go_enter Tryz.func63, Tryz.ntmps63
  go_wp2_with fail
  exact q9 HQ _ _ ⟨_, rfl, by have := (q9 S3).ob; rw [List.append_assoc, List.append_assoc] at this; exact this, (q9 S3).bel⟩
end
section
def qv5 (B : Nat) (w : World) (c : Co) (e : Ending) (w' : World) : Prop := ∃ b, e = .returned (.pointer (some ⟨b, 0, none⟩)) ∧ CoAt B w'.heap.size w' (.pointer (some ⟨b, 0, none⟩)) c ∧ Below w.heap.size w w'
set_option maxHeartbeats 400000 in
theorem vh4 (n : Int) (hn : Rng n) {B : Nat} {w : World} (hB : B ≤ w.heap.size) (hL : LibOk w) : Calls Tryz.prog 91 #[.int .i64 n] w (qv5 B w (vn6 n)) := by
  have S : Hid (Calls Tryz.prog 94 #[.agg #[.int .i64 1, .pointer none, .pointer none, .int .i64 n, .string ⟨#[]⟩, .string ⟨#[]⟩, .string ⟨#[]⟩]] w (qv5 B w (vn6 n))) := v6 (qm7 ⟨1, n, [], []⟩ rfl hn (Nat.zero_le _) (Nat.zero_le _) hB hL)
  clear hB hL hn
  go_enter Tryz.func91, Tryz.ntmps91
  go_wp2_with (go_at_call 94; refine (q9 S).mono ?_; rintro e w1 ⟨b1, rfl, hc1, hb1⟩)
  go_ret
  exact ⟨b1, rfl, hc1, hb1⟩
def Lm (c : Co) : Prop := (z8 c).length ≤ 200000000 ∧ uC c ≤ 1000 ∧ WfC c
theorem Gd.lm {t : Ast} (h : Gd t) (hn : ndA t ≤ 200) : Lm (j6 t) := by
  have h1 := h.len
  have h2 := h.un
  have : ndA t * ndA t ≤ 200 * 200 := Nat.mul_le_mul hn hn
  exact ⟨by omega, by omega, h.wf⟩
set_option maxHeartbeats 1000000 in
theorem cjoin_14 (lo : Nat) (p : Pay) (sv : Value) {B : Nat} {w : World} {b : Nat} (hB : B ≤ w.heap.size) (hL : LibOk w) (hN : NodeAt lo w b p sv) (ho : p.op = 14) {x : Co} {vx : Value} (hx : CoAt B w.heap.size w vx x) (zx : Lm x) :
    Calls Tryz.prog 61 #[.pointer (some ⟨b, 0, none⟩), vx, .pointer none, .pointer none] w (qv5 B w (z7 16 (vn6 0) x)) := by
  obtain ⟨bx, rfl⟩ := hx.ptr
  have c0 := hN.c0
  have NB : Hid (Calls Tryz.prog 91 #[.int .i64 0] w (qv5 B w (vn6 0))) := v6 (vh4 0 ⟨by decide, by decide⟩ hB hL)
  have PR : Hid (∀ w1 v1, Below w.heap.size w w1 → CoAt B w1.heap.size w1 v1 (vn6 0) → Calls Tryz.prog 90 #[.int .i64 16, v1, .pointer (some ⟨bx, 0, none⟩)] w1 (qv5 B w1 (z7 16 (vn6 0) x))) :=
    v6 (fun w1 v1 hb h1 => qf9 16 (Nat.le_trans hB hb.size) (hL.below hb (Nat.le_refl _)) h1 (hx.below hb) (Nat.le_trans vg6 (by decide)) (Nat.le_trans zx.1 (by decide)))
  have e14 : (p.op == 14) = true := by rw [ho]; rfl
  clear hN hB hL hx zx ho
  go_enter Tryz.func61, Tryz.ntmps61
  go_wp2_with (first | (go_at_call 91; refine (q9 NB).mono ?_; rintro e w1 ⟨b1, rfl, k1, hb1⟩; have HB1 := v6 hb1; have K1 := v6 k1; clear hb1 k1) | (go_at_call 90; refine (q9 PR _ _ (q9 HB1) (q9 K1)).mono ?_; rintro e w2 ⟨b2, rfl, k2, hb2⟩; have HB2 := v6 (v7 (q9 HB1) hb2); have K2 := v6 k2; clear hb2 k2))
  go_ret
  exact ⟨b2, rfl, q9 K2, q9 HB2⟩
set_option maxHeartbeats 1000000 in
theorem cjoin_15 (lo : Nat) (p : Pay) (sv : Value) {B : Nat} {w : World} {b : Nat} (hB : B ≤ w.heap.size) (hL : LibOk w) (hN : NodeAt lo w b p sv) (ho : p.op = 15) {x : Co} {vx : Value} (hx : CoAt B w.heap.size w vx x) (zx : Lm x) :
    Calls Tryz.prog 61 #[.pointer (some ⟨b, 0, none⟩), vx, .pointer none, .pointer none] w (qv5 B w (z7 17 (vn6 0) x)) := by
  obtain ⟨bx, rfl⟩ := hx.ptr
  have c0 := hN.c0
  have NB : Hid (Calls Tryz.prog 91 #[.int .i64 0] w (qv5 B w (vn6 0))) := v6 (vh4 0 ⟨by decide, by decide⟩ hB hL)
  have PR : Hid (∀ w1 v1, Below w.heap.size w w1 → CoAt B w1.heap.size w1 v1 (vn6 0) → Calls Tryz.prog 90 #[.int .i64 17, v1, .pointer (some ⟨bx, 0, none⟩)] w1 (qv5 B w1 (z7 17 (vn6 0) x))) :=
    v6 (fun w1 v1 hb h1 => qf9 17 (Nat.le_trans hB hb.size) (hL.below hb (Nat.le_refl _)) h1 (hx.below hb) (Nat.le_trans vg6 (by decide)) (Nat.le_trans zx.1 (by decide)))
  have e14 : (p.op == 14) = false := by rw [ho]; rfl
  have e15 : (p.op == 15) = true := by rw [ho]; rfl
  clear hN hB hL hx zx ho
  go_enter Tryz.func61, Tryz.ntmps61
  go_wp2_with (first | (go_at_call 91; refine (q9 NB).mono ?_; rintro e w1 ⟨b1, rfl, k1, hb1⟩; have HB1 := v6 hb1; have K1 := v6 k1; clear hb1 k1) | (go_at_call 90; refine (q9 PR _ _ (q9 HB1) (q9 K1)).mono ?_; rintro e w2 ⟨b2, rfl, k2, hb2⟩; have HB2 := v6 (v7 (q9 HB1) hb2); have K2 := v6 k2; clear hb2 k2))
  go_ret
  exact ⟨b2, rfl, q9 K2, q9 HB2⟩
set_option maxHeartbeats 1000000 in
theorem cjoin_12 (lo : Nat) (p : Pay) (sv : Value) {B : Nat} {w : World} {b : Nat} (hB : B ≤ w.heap.size) (hL : LibOk w) (hN : NodeAt lo w b p sv) (ho : p.op = 12) {x y : Co} {vx vy : Value} (hx : CoAt B w.heap.size w vx x) (hy : CoAt B w.heap.size w vy y) (zx : Lm x) (zy : Lm y) :
    Calls Tryz.prog 61 #[.pointer (some ⟨b, 0, none⟩), vx, vy, .pointer none] w (qv5 B w (z7 10 y x)) := by
  obtain ⟨bx, rfl⟩ := hx.ptr
  obtain ⟨by', rfl⟩ := hy.ptr
  have c0 := hN.c0
  have PR : Hid (Calls Tryz.prog 90 #[.int .i64 10, .pointer (some ⟨by', 0, none⟩), .pointer (some ⟨bx, 0, none⟩)] w (qv5 B w (z7 10 y x))) :=
    v6 (qf9 10 hB hL hy hx (Nat.le_trans zy.1 (by decide)) (Nat.le_trans zx.1 (by decide)))
  have e14 : (p.op == 14) = false := by rw [ho]; rfl
  have e15 : (p.op == 15) = false := by rw [ho]; rfl
  have e12 : (p.op == 12) = true := by rw [ho]; rfl
  clear hN hB hL hx hy zx zy ho
  go_enter Tryz.func61, Tryz.ntmps61
  go_wp2_with (go_at_call 90; refine (q9 PR).mono ?_; rintro e w2 ⟨b2, rfl, k2, hb2⟩)
  go_ret
  exact ⟨b2, rfl, k2, hb2⟩
set_option maxHeartbeats 1000000 in
theorem cjoin_13 (lo : Nat) (p : Pay) (sv : Value) {B : Nat} {w : World} {b : Nat} (hB : B ≤ w.heap.size) (hL : LibOk w) (hN : NodeAt lo w b p sv) (ho : p.op = 13) {x y : Co} {vx vy : Value} (hx : CoAt B w.heap.size w vx x) (hy : CoAt B w.heap.size w vy y) (zx : Lm x) (zy : Lm y) :
    Calls Tryz.prog 61 #[.pointer (some ⟨b, 0, none⟩), vx, vy, .pointer none] w (qv5 B w (z7 11 y x)) := by
  obtain ⟨bx, rfl⟩ := hx.ptr
  obtain ⟨by', rfl⟩ := hy.ptr
  have c0 := hN.c0
  have PR : Hid (Calls Tryz.prog 90 #[.int .i64 11, .pointer (some ⟨by', 0, none⟩), .pointer (some ⟨bx, 0, none⟩)] w (qv5 B w (z7 11 y x))) :=
    v6 (qf9 11 hB hL hy hx (Nat.le_trans zy.1 (by decide)) (Nat.le_trans zx.1 (by decide)))
  have e14 : (p.op == 14) = false := by rw [ho]; rfl
  have e15 : (p.op == 15) = false := by rw [ho]; rfl
  have e12 : (p.op == 12) = false := by rw [ho]; rfl
  have e13 : (p.op == 13) = true := by rw [ho]; rfl
  clear hN hB hL hx hy zx zy ho
  go_enter Tryz.func61, Tryz.ntmps61
  go_wp2_with (go_at_call 90; refine (q9 PR).mono ?_; rintro e w2 ⟨b2, rfl, k2, hb2⟩)
  go_ret
  exact ⟨b2, rfl, k2, hb2⟩
set_option maxHeartbeats 1000000 in
theorem cjoin_9 (lo : Nat) (p : Pay) (sv : Value) {B : Nat} {w : World} {b : Nat} (hB : B ≤ w.heap.size) (hL : LibOk w) (hN : NodeAt lo w b p sv) (ho : p.op = 9) {x y : Co} {vx vy : Value} (hx : CoAt B w.heap.size w vx x) (hy : CoAt B w.heap.size w vy y) (zx : Lm x) (zy : Lm y) :
    Calls Tryz.prog 61 #[.pointer (some ⟨b, 0, none⟩), vx, vy, .pointer none] w (qv5 B w (qh2 (z7 8 x y))) := by
  obtain ⟨bx, rfl⟩ := hx.ptr
  obtain ⟨by', rfl⟩ := hy.ptr
  have c0 := hN.c0
  have z1 := zx.1
  have z2 := zy.1
  have PR : Hid (Calls Tryz.prog 90 #[.int .i64 8, .pointer (some ⟨bx, 0, none⟩), .pointer (some ⟨by', 0, none⟩)] w (qv5 B w (z7 8 x y))) :=
    v6 (qf9 8 hB hL hx hy (Nat.le_trans zx.1 (by decide)) (Nat.le_trans zy.1 (by decide)))
  have NT : Hid (∀ w1 v1, Below w.heap.size w w1 → CoAt B w1.heap.size w1 v1 (z7 8 x y) → Calls Tryz.prog 92 #[v1] w1 (qv5 B w1 (qh2 (z7 8 x y)))) :=
    v6 (fun w1 v1 hb h1 => vz4 _ (qg2 rfl zx.2.2 zy.2.2) (by rw [y8 8 rfl rfl, qi9]; have e8 : (qk3 8).length = 1 := rfl; show _ + 7 * 1 ≤ _; omega) B w1 v1 (Nat.le_trans hB hb.size) (hL.below hb (Nat.le_refl _)) h1)
  have e14 : (p.op == 14) = false := by rw [ho]; rfl
  have e15 : (p.op == 15) = false := by rw [ho]; rfl
  have e12 : (p.op == 12) = false := by rw [ho]; rfl
  have e13 : (p.op == 13) = false := by rw [ho]; rfl
  have e9 : (p.op == 9) = true := by rw [ho]; rfl
  clear hN hB hL hx hy zx zy ho z1 z2
  go_enter Tryz.func61, Tryz.ntmps61
  go_wp2_with (first | (go_at_call 90; refine (q9 PR).mono ?_; rintro e w1 ⟨b1, rfl, k1, hb1⟩; have HB1 := v6 hb1; have K1 := v6 k1; clear hb1 k1) | (go_at_call 92; refine (q9 NT _ _ (q9 HB1) (q9 K1)).mono ?_; rintro e w2 ⟨b2, rfl, k2, hb2⟩; have HB2 := v6 (v7 (q9 HB1) hb2); have K2 := v6 k2; clear hb2 k2))
  go_ret
  exact ⟨b2, rfl, q9 K2, q9 HB2⟩
set_option maxHeartbeats 1000000 in
theorem cjoin_5 (lo : Nat) (p : Pay) (sv : Value) {B : Nat} {w : World} {b : Nat} (hB : B ≤ w.heap.size) (hL : LibOk w) (hN : NodeAt lo w b p sv) (ho : p.op = 5) {x : Co} {vx : Value} (hx : CoAt B w.heap.size w vx x) (zx : Lm x) :
    Calls Tryz.prog 61 #[.pointer (some ⟨b, 0, none⟩), vx, .pointer none, .pointer none] w (qv5 B w (qh2 x)) := by
  obtain ⟨bx, rfl⟩ := hx.ptr
  have c0 := hN.c0
  have z1 := zx.1
  have z2 := zx.2.1
  have NT : Hid (Calls Tryz.prog 92 #[.pointer (some ⟨bx, 0, none⟩)] w (qv5 B w (qh2 x))) := v6 (vz4 x zx.2.2 (by omega) B w _ hB hL hx)
  have e14 : (p.op == 14) = false := by rw [ho]; rfl
  have e15 : (p.op == 15) = false := by rw [ho]; rfl
  have e12 : (p.op == 12) = false := by rw [ho]; rfl
  have e13 : (p.op == 13) = false := by rw [ho]; rfl
  have e9 : (p.op == 9) = false := by rw [ho]; rfl
  have e5 : (p.op == 5) = true := by rw [ho]; rfl
  clear hN hB hL hx zx ho z1 z2
  go_enter Tryz.func61, Tryz.ntmps61
  go_wp2_with (go_at_call 92; refine (q9 NT).mono ?_; rintro e w2 ⟨b2, rfl, k2, hb2⟩)
  go_ret
  exact ⟨b2, rfl, k2, hb2⟩
set_option maxHeartbeats 1000000 in
theorem cjoin_20 (lo : Nat) (p : Pay) (sv : Value) {B : Nat} {w : World} {b : Nat} (hB : B ≤ w.heap.size) (hL : LibOk w) (hN : NodeAt lo w b p sv) (ho : p.op = 20) {x y z : Co} {vx vy vz : Value} (hx : CoAt B w.heap.size w vx x) (hy : CoAt B w.heap.size w vy y) (hz : CoAt B w.heap.size w vz z) (zx : Lm x) (zy : Lm y) (zz : Lm z) :
    Calls Tryz.prog 61 #[.pointer (some ⟨b, 0, none⟩), vx, vy, vz] w (qv5 B w (z7 6 (z7 11 y x) (z7 11 x z))) := by
  obtain ⟨bx, rfl⟩ := hx.ptr
  obtain ⟨by', rfl⟩ := hy.ptr
  obtain ⟨bz, rfl⟩ := hz.ptr
  have c0 := hN.c0
  have z1 := zx.1
  have z2 := zy.1
  have z3 := zz.1
  have P1 : Hid (Calls Tryz.prog 90 #[.int .i64 11, .pointer (some ⟨by', 0, none⟩), .pointer (some ⟨bx, 0, none⟩)] w (qv5 B w (z7 11 y x))) :=
    v6 (qf9 11 hB hL hy hx (by omega) (by omega))
  have P2 : Hid (∀ w1, Below w.heap.size w w1 → Calls Tryz.prog 90 #[.int .i64 11, .pointer (some ⟨bx, 0, none⟩), .pointer (some ⟨bz, 0, none⟩)] w1 (qv5 B w1 (z7 11 x z))) :=
    v6 (fun w1 hb => qf9 11 (Nat.le_trans hB hb.size) (hL.below hb (Nat.le_refl _)) (hx.below hb) (hz.below hb) (by omega) (by omega))
  have e11 : (qk3 11).length = 2 := rfl
  have P3 : Hid (∀ w1 v1 v2, Below w.heap.size w w1 → CoAt B w1.heap.size w1 v1 (z7 11 y x) → CoAt B w1.heap.size w1 v2 (z7 11 x z) → Calls Tryz.prog 90 #[.int .i64 6, v1, v2] w1 (qv5 B w1 (z7 6 (z7 11 y x) (z7 11 x z)))) :=
    v6 (fun w1 v1 v2 hb h1 h2 => qf9 6 (Nat.le_trans hB hb.size) (hL.below hb (Nat.le_refl _)) h1 h2 (by rw [y8 11 rfl rfl]; omega) (by rw [y8 11 rfl rfl]; omega))
  have e14 : (p.op == 14) = false := by rw [ho]; rfl
  have e15 : (p.op == 15) = false := by rw [ho]; rfl
  have e12 : (p.op == 12) = false := by rw [ho]; rfl
  have e13 : (p.op == 13) = false := by rw [ho]; rfl
  have e9 : (p.op == 9) = false := by rw [ho]; rfl
  have e5 : (p.op == 5) = false := by rw [ho]; rfl
  have e20 : (p.op == 20) = true := by rw [ho]; rfl
  clear hN hB hL hx hy hz zx zy zz ho z1 z2 z3 e11
  go_enter Tryz.func61, Tryz.ntmps61
  go_wp2_with fail
  refine (q9 P1).mono ?_
  rintro e w1 ⟨b1, rfl, k1, hb1⟩
  have HB1 := v6 hb1
  have K1 := v6 k1
  clear hb1 k1
  go_wp2_with fail
  refine (q9 P2 _ (q9 HB1)).mono ?_
  rintro e w2 ⟨b2, rfl, k2, hb2⟩
  have HB2 := v6 (v7 (q9 HB1) hb2)
  have K1' := v6 ((q9 K1).below hb2)
  have K2 := v6 k2
  clear hb2 k2
  go_wp2_with fail
  refine (q9 P3 _ _ _ (q9 HB2) (q9 K1') (q9 K2)).mono ?_
  rintro e w3 ⟨b3, rfl, k3, hb3⟩
  have HB3 := v6 (v7 (q9 HB2) hb3)
  have K3 := v6 k3
  clear hb3 k3
  go_wp2_with fail
  go_ret
  exact ⟨b3, rfl, q9 K3, q9 HB3⟩
set_option maxHeartbeats 1000000 in
theorem cjoin_two (lo : Nat) (p : Pay) (sv : Value) {B : Nat} {w : World} {b : Nat} (hB : B ≤ w.heap.size) (hL : LibOk w) (hN : NodeAt lo w b p sv) (h14 : ¬ p.op = 14) (h15 : ¬ p.op = 15) (h12 : ¬ p.op = 12) (h13 : ¬ p.op = 13) (h9 : ¬ p.op = 9) (h5 : ¬ p.op = 5) (h20 : ¬ p.op = 20) (h21 : ¬ p.op = 21) {x y : Co} {vx vy : Value} (hx : CoAt B w.heap.size w vx x) (hy : CoAt B w.heap.size w vy y) (zx : Lm x) (zy : Lm y) :
    Calls Tryz.prog 61 #[.pointer (some ⟨b, 0, none⟩), vx, vy, .pointer none] w (qv5 B w (z7 p.op x y)) := by
  obtain ⟨bx, rfl⟩ := hx.ptr
  obtain ⟨by', rfl⟩ := hy.ptr
  have c0 := hN.c0
  have PR : Hid (Calls Tryz.prog 90 #[.int .i64 p.op, .pointer (some ⟨bx, 0, none⟩), .pointer (some ⟨by', 0, none⟩)] w (qv5 B w (z7 p.op x y))) :=
    v6 (qf9 p.op hB hL hx hy (Nat.le_trans zx.1 (by decide)) (Nat.le_trans zy.1 (by decide)))
  have e14 : (p.op == 14) = false := beq_eq_false_iff_ne.2 h14
  have e15 : (p.op == 15) = false := beq_eq_false_iff_ne.2 h15
  have e12 : (p.op == 12) = false := beq_eq_false_iff_ne.2 h12
  have e13 : (p.op == 13) = false := beq_eq_false_iff_ne.2 h13
  have e9 : (p.op == 9) = false := beq_eq_false_iff_ne.2 h9
  have e5 : (p.op == 5) = false := beq_eq_false_iff_ne.2 h5
  have e20 : (p.op == 20) = false := beq_eq_false_iff_ne.2 h20
  have e21 : (p.op == 21) = false := beq_eq_false_iff_ne.2 h21
  clear hN hB hL hx hy zx zy h14 h15 h12 h13 h9 h5 h20 h21
  go_enter Tryz.func61, Tryz.ntmps61
  go_wp2_with (go_at_call 90; refine (q9 PR).mono ?_; rintro e w2 ⟨b2, rfl, k2, hb2⟩)
  go_ret
  exact ⟨b2, rfl, k2, hb2⟩
set_option maxHeartbeats 1000000 in
set_option maxRecDepth 100000 in
theorem vp6 (lo : Nat) (p : Pay) (sv : Value) {B : Nat} {w : World} {b : Nat} (hN : NodeAt lo w b p sv) (h14 : ¬ p.op = 14) (h15 : ¬ p.op = 15) (h12 : ¬ p.op = 12) (h13 : ¬ p.op = 13) (h9 : ¬ p.op = 9) (h5 : ¬ p.op = 5) (h20 : ¬ p.op = 20) (h21 : ¬ p.op = 21) (c : Co) (la : Option Addr)
    (hS : ∀ w1, Below w.heap.size w w1 → Calls Tryz.prog 94 #[.agg #[.int .i64 p.op, .pointer la, .pointer none, .int .i64 p.num, .string (BS p.str), .string (BS p.esc), .string ⟨#[]⟩]] w1 (qv5 B w1 c)) :
    Calls Tryz.prog 61 #[.pointer (some ⟨b, 0, none⟩), .pointer la, .pointer none, .pointer none] w (qv5 B w c) := by
  have c0 := hN.c0
  have c3 := hN.c3
  have c4 := hN.c4
  have c5 := hN.c5
  have hbw := hN.within
  have S := v6 hS
  have HB : Hid (Below w.heap.size w w.drew) := v6 (Below.refl _ _).drew
  have e14 : (p.op == 14) = false := beq_eq_false_iff_ne.2 h14
  have e15 : (p.op == 15) = false := beq_eq_false_iff_ne.2 h15
  have e12 : (p.op == 12) = false := beq_eq_false_iff_ne.2 h12
  have e13 : (p.op == 13) = false := beq_eq_false_iff_ne.2 h13
  have e9 : (p.op == 9) = false := beq_eq_false_iff_ne.2 h9
  have e5 : (p.op == 5) = false := beq_eq_false_iff_ne.2 h5
  have e20 : (p.op == 20) = false := beq_eq_false_iff_ne.2 h20
  have e21 : (p.op == 21) = false := beq_eq_false_iff_ne.2 h21
  clear hN hS h14 h15 h12 h13 h9 h5 h20 h21
  go_enter Tryz.func61, Tryz.ntmps61
  go_wp2_with fail
  go_region_held3 (fun W => W.cell? ⟨b, 0, none⟩ = some (.int .i64 p.op) ∧ W.cell? ⟨b, 3, none⟩ = some (.int .i64 p.num) ∧ W.cell? ⟨b, 4, none⟩ = some (.string (BS p.str)) ∧ W.cell? ⟨b, 5, none⟩ = some (.string (BS p.esc))) (go_keep) (first | (go_at_call 94; refine (q9 S _ (q9 HB)).mono ?_; rintro e w3 ⟨b3, rfl, k3, hb3⟩; have HB3 := v6 (v7 (q9 HB) hb3); have d0 := ((q9 HB3).cell (p := ⟨b, 0, none⟩) hbw).trans c0; have d3 := ((q9 HB3).cell (p := ⟨b, 3, none⟩) hbw).trans c3; have d4 := ((q9 HB3).cell (p := ⟨b, 4, none⟩) hbw).trans c4; have d5 := ((q9 HB3).cell (p := ⟨b, 5, none⟩) hbw).trans c5; have K3 := v6 k3; clear k3 hb3))
  all_goals (go_wp2_with fail; go_ret; exact ⟨b3, rfl, q9 K3, q9 HB3⟩)
end
section
def vc8 : Prop := ∀ (lo B : Nat) (w : World) (x : Co) (vx tv : Value) (ts : List (List UInt8)), B ≤ w.heap.size → LibOk w → CoAt B w.heap.size w vx x → TextsAt lo w tv ts → ts ≠ [] → ts.length ≤ 200 → (∀ t ∈ ts, t.length ≤ 200) → (z8 x).length ≤ 402 →
  Calls Tryz.prog 93 #[vx, tv] w (qv5 B w (qu7 x ts))
def vf4 : Ast → Prop
  | .leaf _ => False
  | .un p x => p.op = 21 ∨ vf4 x
  | .bin _ x y => vf4 x ∨ vf4 y
  | .tri _ x y z => vf4 x ∨ vf4 y ∨ vf4 z
set_option maxHeartbeats 1000000 in
theorem cjoin_21 (hA : vc8) (lo : Nat) (p : Pay) (sv : Value) {B : Nat} {w : World} {b : Nat} (hB : B ≤ w.heap.size) (hL : LibOk w) (hN : NodeAt lo w b p sv) (ho : p.op = 21) {x : Co} {vx : Value} (hx : CoAt B w.heap.size w vx x) (hne : p.texts ≠ []) (hz : p.texts.length ≤ 200) (ht : ∀ t ∈ p.texts, t.length ≤ 200) (zx : (z8 x).length ≤ 402) :
    Calls Tryz.prog 61 #[.pointer (some ⟨b, 0, none⟩), vx, .pointer none, .pointer none] w (qv5 B w (qu7 x p.texts)) := by
  obtain ⟨bx, rfl⟩ := hx.ptr
  have c0 := hN.c0
  obtain ⟨tv, c6, htv⟩ := hN.c6
  have AM : Hid (Calls Tryz.prog 93 #[.pointer (some ⟨bx, 0, none⟩), tv] w (qv5 B w (qu7 x p.texts))) := v6 (hA lo B w x _ tv _ hB hL hx htv hne hz ht zx)
  obtain ⟨ta, tn, tc, rfl⟩ : ∃ a n c, tv = .slice a n c := by
    rcases htv with ⟨_, rfl⟩ | ⟨g, cap, rfl, _⟩
    · exact ⟨_, _, _, rfl⟩
    · exact ⟨_, _, _, rfl⟩
  have e14 : (p.op == 14) = false := by rw [ho]; rfl
  have e15 : (p.op == 15) = false := by rw [ho]; rfl
  have e12 : (p.op == 12) = false := by rw [ho]; rfl
  have e13 : (p.op == 13) = false := by rw [ho]; rfl
  have e9 : (p.op == 9) = false := by rw [ho]; rfl
  have e5 : (p.op == 5) = false := by rw [ho]; rfl
  have e20 : (p.op == 20) = false := by rw [ho]; rfl
  have e21 : (p.op == 21) = true := by rw [ho]; rfl
  clear hN hB hL hx zx ho hne hz ht htv hA
  go_enter Tryz.func61, Tryz.ntmps61
  go_wp2_with (go_at_call 93; refine (q9 AM).mono ?_; rintro e w2 ⟨b2, rfl, k2, hb2⟩)
  go_ret
  exact ⟨b2, rfl, k2, hb2⟩
structure Ok (t : Ast) : Prop where
  gd : GdA t
  nd : ndA t ≤ 200
  sh : ShA t
  num : vf5 t
  bnd : vf2 t
  bq : BqA t
theorem vd4 {s : ByteArray} {t : Ast} (h : qm5 s = .ok t) : Ok t := by
  obtain ⟨a, b, c, d, e, f⟩ := vq0 h
  exact ⟨a, b, c, d, e, f⟩
theorem Ok.side {t x : Ast} (h : Ok t) (hx : x ∈ j3 t) : Ok x := by
  obtain ⟨g, n, s, u, b, q⟩ := h
  cases t with
  | leaf p => simp [j3] at hx
  | un p y =>
    simp [j3] at hx; subst hx
    have : ndA (.un p x) = 1 + p.texts.length + ndA x := rfl
    exact ⟨g.2, by omega, s.2.2.2, u.2, b.2, q.2⟩
  | bin p y z =>
    have : ndA (.bin p y z) = 1 + ndA y + ndA z := rfl
    simp [j3] at hx
    rcases hx with rfl | rfl
    · exact ⟨g.2.1, by omega, s.2.1, u.2.1, b.2.1, q.2.1⟩
    · exact ⟨g.2.2, by omega, s.2.2, u.2.2, b.2.2, q.2.2⟩
  | tri p y z v =>
    have : ndA (.tri p y z v) = 1 + ndA y + ndA z + ndA v := rfl
    simp [j3] at hx
    rcases hx with rfl | rfl | rfl
    · exact ⟨g.2.1, by omega, s.2.1, u.2.1, b.2.1, q.2.1⟩
    · exact ⟨g.2.2.1, by omega, s.2.2.1, u.2.2.1, b.2.2.1, q.2.2.1⟩
    · exact ⟨g.2.2.2, by omega, s.2.2.2, u.2.2.2, b.2.2.2, q.2.2.2⟩
theorem Ok.lm {t : Ast} (h : Ok t) : Lm (j6 t) := h.gd.gd.lm h.nd
def SideIs (B : Nat) (w : World) (t : Ast) (j : Nat) (v : Value) : Prop := match (j3 t)[j]? with
  | some x => CoAt B w.heap.size w v (j6 x)
  | none => v = .pointer none
theorem cjoin_all (t : Ast) (hA : vf4 t → vc8) (hok : Ok t) (lo : Nat) (sv : Value) {B : Nat} {w : World} {b : Nat} (hB : B ≤ w.heap.size) (hL : LibOk w) (hN : NodeAt lo w b (y7 t) sv) {v0 v1 v2 : Value} (h0 : SideIs B w t 0 v0) (h1 : SideIs B w t 1 v1) (h2 : SideIs B w t 2 v2) :
    Calls Tryz.prog 61 #[.pointer (some ⟨b, 0, none⟩), v0, v1, v2] w (qv5 B w (j6 t)) := by
  cases t with
  | leaf p =>
    have h0 : v0 = .pointer none := h0
    have h1 : v1 = .pointer none := h1
    have h2 : v2 = .pointer none := h2
    subst h0 h1 h2
    have hs : 0 ≤ p.op ∧ p.op ≤ 4 := hok.sh
    exact vp6 lo p sv hN (by omega) (by omega) (by omega) (by omega) (by omega) (by omega) (by omega) (by omega) (.leaf (qz9 p)) none
      (fun w1 hb => qm7 (qz9 p) (by unfold qi3 qz9; simp only [Bool.or_eq_true, beq_iff_eq]; omega) hok.num (Nat.le_trans hok.bnd.1 (by decide)) (Nat.le_trans hok.bq.1 (by decide)) (Nat.le_trans hB hb.size) (hL.below hb (Nat.le_refl _)))
  | un p x =>
    have h0 : CoAt B w.heap.size w v0 (j6 x) := h0
    have h1 : v1 = .pointer none := h1
    have h2 : v2 = .pointer none := h2
    subst h1 h2
    have hx := hok.side (x := x) (by simp [j3])
    have zx := hx.lm
    have hnd : 1 + p.texts.length + ndA x ≤ 200 := hok.nd
    rcases hok.sh.1 with e | e | e | e | e | e
    · rw [show j6 (.un p x) = qh2 (j6 x) by rw [j6, e]; rfl]
      exact cjoin_5 lo p sv hB hL hN e h0 zx
    · rw [show j6 (.un p x) = z7 16 (vn6 0) (j6 x) by rw [j6, e]; rfl]
      exact cjoin_14 lo p sv hB hL hN e h0 zx
    · rw [show j6 (.un p x) = z7 17 (vn6 0) (j6 x) by rw [j6, e]; rfl]
      exact cjoin_15 lo p sv hB hL hN e h0 zx
    · rw [show j6 (.un p x) = qu7 (j6 x) p.texts by rw [j6, e]; rfl]
      obtain ⟨q, rfl, hq0⟩ := qv9 hok.sh.2.2.2 (hok.sh.2.2.1 (by omega))
      exact cjoin_21 (hA (.inl e)) lo p sv hB hL hN e h0 (hok.sh.2.1 e) (by omega) hok.bq.1.2 (vg5 (qz9 q) hok.bnd.2.1 hok.num.2 (by unfold qi3; simp [qz9, hq0]))
    all_goals
      obtain ⟨bx, rfl⟩ := h0.ptr
      rw [show j6 (.un p x) = .un (qz9 p) (j6 x) by rw [j6, e]; rfl]
      exact vp6 lo p sv hN (by omega) (by omega) (by omega) (by omega) (by omega) (by omega) (by omega) (by omega) (.un (qz9 p) (j6 x)) (some ⟨bx, 0, none⟩)
        (fun w1 hb => qz7 (qz9 p) (by unfold unB; simp [qz9, e]) hok.num.1 (Nat.le_trans hok.bnd.1.1 (by decide)) (Nat.le_trans hok.bq.1.1 (by decide)) (Nat.le_trans hB hb.size) (hL.below hb (Nat.le_refl _)) (h0.below hb) (Nat.le_trans zx.1 (by decide)))
  | bin p x y =>
    have h0 : CoAt B w.heap.size w v0 (j6 x) := h0
    have h1 : CoAt B w.heap.size w v1 (j6 y) := h1
    have h2 : v2 = .pointer none := h2
    subst h2
    have zx := (hok.side (x := x) (by simp [j3])).lm
    have zy := (hok.side (x := y) (by simp [j3])).lm
    by_cases h12 : p.op = 12
    · rw [show j6 (.bin p x y) = z7 10 (j6 y) (j6 x) by rw [j6, h12]; rfl]
      exact cjoin_12 lo p sv hB hL hN h12 h0 h1 zx zy
    by_cases h13 : p.op = 13
    · rw [show j6 (.bin p x y) = z7 11 (j6 y) (j6 x) by rw [j6, h13]; rfl]
      exact cjoin_13 lo p sv hB hL hN h13 h0 h1 zx zy
    by_cases h9 : p.op = 9
    · rw [show j6 (.bin p x y) = qh2 (z7 8 (j6 x) (j6 y)) by rw [j6, h9]; rfl]
      exact cjoin_9 lo p sv hB hL hN h9 h0 h1 zx zy
    rw [show j6 (.bin p x y) = z7 p.op (j6 x) (j6 y) by rw [j6, if_neg (by simpa using h12), if_neg (by simpa using h13), if_neg (by simpa using h9)]]
    have := hok.sh.1
    exact cjoin_two lo p sv hB hL hN (by omega) (by omega) h12 h13 h9 (by omega) (by omega) (by omega) h0 h1 zx zy
  | tri p x y z =>
    have h0 : CoAt B w.heap.size w v0 (j6 x) := h0
    have h1 : CoAt B w.heap.size w v1 (j6 y) := h1
    have h2 : CoAt B w.heap.size w v2 (j6 z) := h2
    exact cjoin_20 lo p sv hB hL hN hok.sh.1 h0 h1 h2 (hok.side (x := x) (by simp [j3])).lm (hok.side (x := y) (by simp [j3])).lm (hok.side (x := z) (by simp [j3])).lm
end
end Go.Proofs.YtfkcaldjphakpabGreatDoor
