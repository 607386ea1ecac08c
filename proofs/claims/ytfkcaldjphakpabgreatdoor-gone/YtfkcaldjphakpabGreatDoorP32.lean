/- A term as bytes. Eval of any text and any list of properties. program.Read of any bytes. small, is of any text and list, reads. A list of properties as an argument of a law. -/
import Derived.Test.YtfkcaldjphakpabGreatDoorP22
import Derived.Test.YtfkcaldjphakpabGreatDoorP16
import Derived.Test.YtfkcaldjphakpabGreatDoorP27
import Derived.Test.YtfkcaldjphakpabGreatDoorP17
import Derived.Test.YtfkcaldjphakpabGreatDoorP34
import Derived.Test.YtfkcaldjphakpabGreatDoorP20
import Derived.Deep.RegionWith
import Derived.WalkKit
import Derived.ProofKit
import Derived.Deep.Slices
import Derived.Deep.Strs
import Derived.SizedLaws
import Derived.WideKeyArgs
import Derived.Laws.Rows
namespace Go.Proofs.YtfkcaldjphakpabGreatDoor
open Go.RowKit
section
set_option linter.unusedSimpArgs false
set_option linter.unusedVariables false
attribute [local go_sem ↓] qd6
def jd6 (t : Tm) : List UInt8 :=
  if t.op = 1 then UInt8.ofNat t.op :: qw6 t.num 8
  else if t.op = 22 then [UInt8.ofNat t.op, UInt8.ofNat t.left] ++ lenB t.esc ++ lenB t.str
  else if t.op = 0 ∨ t.op = 2 then UInt8.ofNat t.op :: lenB t.str
  else if qz5 t.op then [UInt8.ofNat t.op, UInt8.ofNat t.right, UInt8.ofNat t.left]
  else if t.op = 5 ∨ t.op = 23 then [UInt8.ofNat t.op, UInt8.ofNat t.left]
  else [UInt8.ofNat t.op]
structure WSt (base : Nat) (W : World) (l : List UInt8) (tb : Nat) (t : Tm) (w' : World) (v' : Value) : Prop where
  ob : OB w' base v' l
  tm : TmAt w' tb t
  ne : v'.ownBlock ≠ some tb
  bel : Below base W w'
  ge : base ≤ w'.heap.size
theorem WSt.start {base : Nat} {W : World} {v : Value} {l : List UInt8} (h : OB W base v l) (hb : base ≤ W.heap.size) (t : Tm) (ty : TypeId) :
    WSt base W l W.heap.size t (W.alloc (.cells #[.int .i64 t.op, .int .i64 t.left, .int .i64 t.right, .int .i64 t.num, .string (BS t.str), .string (BS t.esc)] ty)) v := by
  refine ⟨World.ownsRow.alloc h _, ⟨by simp, ?_, ?_, ?_, ?_, ?_, ?_, fun j => ?_⟩, fun e => by have := (World.ownsRow.lt h _ e).2; omega, (Below.refl _ _).alloc hb _, by simp; omega⟩ <;> simp [go_sem]
theorem WSt.app {base : Nat} {W : World} {l : List UInt8} {tb : Nat} {t : Tm} {w' : World} {v' : Value} (h : WSt base W l tb t w' v') (x : UInt8) (xi : Int) (hx : xi = (x.toNat : Int)) (hn : l.length ≤ 1000000) (n : Nat) (hnl : l.length = n) (H : Nat) (hH : w'.heap.size = H) :
    ∃ g cap w5, (qn1 #[36, 36] 36 #[v', .slice (some ⟨H, 0, none⟩) 1 1]).run Tryz.prog (w'.alloc (.cells #[.int .u8 xi] 5)) = .ok (.slice (some ⟨g, 0, none⟩) (n + 1) cap) w5 ∧
      Hid (WSt base W (l ++ [x]) tb t w5 (.slice (some ⟨g, 0, none⟩) (n + 1) cap)) := by
  subst hH hx hnl
  obtain ⟨i0, hi, hz0, hz1, hz2⟩ := info_parts vc1
  have hge := h.ge
  have ha := World.ownsRow.alloc h.ob (.cells #[.int .u8 (x.toNat : Int)] 5)
  obtain ⟨g, cap, w5, hr, hown, hgrow, hat, _⟩ := run_append_lies (P := Tryz.prog) (w'.alloc (.cells #[.int .u8 (x.toNat : Int)] 5)) 36 36 base 5 i0 _ 1 1 Tryz.underlying36 hi hz0 hz1 hz2 rfl (by omega) v' l.length (qs4 l) ha
    ⟨w'.heap.size, 0, none⟩ 1 1 [.int .u8 (x.toNat : Int)] rfl (World.news_of_block (cs := #[.int .u8 (x.toNat : Int)]) (t := 5) (fr := (0, 0)) (heap_alloc_new w' _)) (by simp [Value.oneCell']) (by omega) (by unfold maxLen; omega) (by omega) (by simp; omega) _ rfl
  have hz := hgrow.size
  simp at hz
  have htl := h.tm.lt
  have hb5 : Below base w' w5 := Go.RowKit.Below.grown (((Below.refl base w').alloc hge _)) hgrow (by simp; omega) (fun k hk => (ha.lt k hk).1)
  refine ⟨g, cap, w5, hr, v6 ⟨?_, ?_, ?_, h.bel.trans hb5, by omega⟩⟩
  · show World.ownsRow _ _ _ _ _ _ _
    rw [List.length_append, List.length_singleton, qs4, List.map_append]
    exact hown
  · exact h.tm.same (by omega) ((hgrow.block tb (by simp; omega) (fun e => h.ne e.symm)).trans (Below.heap_alloc w' _ tb htl))
  · intro e
    have he : g = tb := by simpa [Value.ownBlock] using e
    subst he
    rcases hat with hat | hat
    · exact h.ne hat
    · simp at hat
      omega
structure SmallT (t : Tm) : Prop where
  left : t.left ≤ 255
  right : t.right ≤ 255
  str : t.str.length ≤ 255
  esc : t.esc.length ≤ 255
theorem u8_of {n : Nat} (h : n ≤ 255) : (n : Int) = ((UInt8.ofNat n).toNat : Int) := by rw [UInt8.toNat_ofNat']; omega
set_option maxRecDepth 100000 in
set_option maxHeartbeats 800000 in
theorem write_0 (base : Nat) (v : Value) (l : List UInt8) (t : Tm) (W : World) (h : OB W base v l) (hb : base ≤ W.heap.size) (hn : l.length ≤ 800000) (ht : SmallT t) (ho : t.op = 0) (Q : Ending → World → Prop) (hQ : ∀ e w', vg0 base W (l ++ jd6 t) e w' → Q e w') :
    Calls Tryz.prog 63 #[tmV t, v] W Q := by
  have hE : jd6 t = UInt8.ofNat 0 :: lenB t.str := by simp [jd6, ho, qz5]
  have HQ := v6 hQ
  rw [hE] at HQ
  clear hQ
  have S0 := v6 (WSt.start h hb t 142)
  obtain ⟨a, c, rfl⟩ := h.form
  have hl := ht.left
  have hr := ht.right
  have hl0 : (0 : Int) ≤ (t.left : Int) := by omega
  have hl1 : (t.left : Int) < 256 := by omega
  have hr0 : (0 : Int) ≤ (t.right : Int) := by omega
  have hr1 : (t.right : Int) < 256 := by omega
  obtain ⟨n, hnl⟩ : ∃ n, l.length = n := ⟨_, rfl⟩
  have HNL := v6 hnl
  rw [hnl] at S0 hn ⊢
  obtain ⟨g1, cap1, w1, hap1, S1⟩ := (q9 S0).app (UInt8.ofNat 0) 0 (by decide) (by omega) n hnl (W.heap.size + 1) (by simp)
  obtain ⟨tl1, a0, a1, a2, a3, a4, a5, af⟩ := (q9 S1).tm
  have hs := ht.str
  have WN := v6 (vv1 base (.slice (some ⟨g1, 0, none⟩) (n + 1) cap1) (l ++ [UInt8.ofNat 0]) t.str w1 (q9 S1).ob (q9 S1).ge (by simp; omega) (by omega) _ (fun e w' h => h))
  unfold tmV
  have e0 : (t.op : Int) = 0 := by omega
  rw [e0] at a0 hap1 ⊢
  clear hE ho h hl hr ht hnl hn hb e0 S0
  go_enter Tryz.func63, Tryz.ntmps63
  go_wp2_with (go_at_call 96; refine (q9 WN).mono ?_; rintro e w2 ⟨v2, rfl, ho2, hb2⟩; have HO2 := v6 ho2; have HB2 := v6 hb2; clear ho2 hb2)
  exact q9 HQ _ _ ⟨_, rfl, by have := q9 HO2; rw [List.append_assoc] at this; exact this, (q9 S1).bel.trans (q9 HB2)⟩
set_option maxRecDepth 100000 in
set_option maxHeartbeats 800000 in
theorem write_1 (base : Nat) (v : Value) (l : List UInt8) (t : Tm) (W : World) (h : OB W base v l) (hb : base ≤ W.heap.size) (hn : l.length ≤ 800000) (ht : SmallT t) (ho : t.op = 1) (Q : Ending → World → Prop) (hQ : ∀ e w', vg0 base W (l ++ jd6 t) e w' → Q e w') :
    Calls Tryz.prog 63 #[tmV t, v] W Q := by
  have hE : jd6 t = UInt8.ofNat 1 :: qw6 t.num 8 := by simp [jd6, ho, qz5]
  have HQ := v6 hQ
  rw [hE] at HQ
  clear hQ
  have S0 := v6 (WSt.start h hb t 142)
  obtain ⟨a, c, rfl⟩ := h.form
  have hl := ht.left
  have hr := ht.right
  have hl0 : (0 : Int) ≤ (t.left : Int) := by omega
  have hl1 : (t.left : Int) < 256 := by omega
  have hr0 : (0 : Int) ≤ (t.right : Int) := by omega
  have hr1 : (t.right : Int) < 256 := by omega
  obtain ⟨n, hnl⟩ : ∃ n, l.length = n := ⟨_, rfl⟩
  have HNL := v6 hnl
  rw [hnl] at S0 hn ⊢
  obtain ⟨g1, cap1, w1, hap1, S1⟩ := (q9 S0).app (UInt8.ofNat 1) 1 (by decide) (by omega) n hnl (W.heap.size + 1) (by simp)
  obtain ⟨tl1, a0, a1, a2, a3, a4, a5, af⟩ := (q9 S1).tm
  have WN := v6 (vi4 base (.slice (some ⟨g1, 0, none⟩) (n + 1) cap1) (l ++ [UInt8.ofNat 1]) t.num w1 (q9 S1).ob (q9 S1).ge (by simp; omega) _ (fun e w' h => h))
  unfold tmV
  have e0 : (t.op : Int) = 1 := by omega
  rw [e0] at a0 hap1 ⊢
  clear hE ho h hl hr ht hnl hn hb e0 S0
  go_enter Tryz.func63, Tryz.ntmps63
  go_wp2_with (go_at_call 95; refine (q9 WN).mono ?_; rintro e w2 ⟨v2, rfl, ho2, hb2⟩; have HO2 := v6 ho2; have HB2 := v6 hb2; clear ho2 hb2)
  exact q9 HQ _ _ ⟨_, rfl, by have := q9 HO2; rw [List.append_assoc] at this; exact this, (q9 S1).bel.trans (q9 HB2)⟩
set_option maxRecDepth 100000 in
set_option maxHeartbeats 800000 in
theorem write_10 (base : Nat) (v : Value) (l : List UInt8) (t : Tm) (W : World) (h : OB W base v l) (hb : base ≤ W.heap.size) (hn : l.length ≤ 800000) (ht : SmallT t) (ho : t.op = 10) (Q : Ending → World → Prop) (hQ : ∀ e w', vg0 base W (l ++ jd6 t) e w' → Q e w') :
    Calls Tryz.prog 63 #[tmV t, v] W Q := by
  have hE : jd6 t = [UInt8.ofNat 10, UInt8.ofNat t.right, UInt8.ofNat t.left] := by simp [jd6, ho, qz5]
  have HQ := v6 hQ
  rw [hE] at HQ
  clear hQ
  have S0 := v6 (WSt.start h hb t 142)
  obtain ⟨a, c, rfl⟩ := h.form
  have hl := ht.left
  have hr := ht.right
  have hl0 : (0 : Int) ≤ (t.left : Int) := by omega
  have hl1 : (t.left : Int) < 256 := by omega
  have hr0 : (0 : Int) ≤ (t.right : Int) := by omega
  have hr1 : (t.right : Int) < 256 := by omega
  obtain ⟨n, hnl⟩ : ∃ n, l.length = n := ⟨_, rfl⟩
  have HNL := v6 hnl
  rw [hnl] at S0 hn ⊢
  obtain ⟨g1, cap1, w1, hap1, S1⟩ := (q9 S0).app (UInt8.ofNat 10) 10 (by decide) (by omega) n hnl (W.heap.size + 1) (by simp)
  obtain ⟨tl1, a0, a1, a2, a3, a4, a5, af⟩ := (q9 S1).tm
  obtain ⟨g2, cap2, w2, hap2, S2⟩ := (q9 S1).app (UInt8.ofNat t.right) (t.right : Int) (u8_of hr) (by simp; omega) (n + 1) (by simp [hnl]) _ rfl
  obtain ⟨tl2, b0, b1, b2, b3, b4, b5, bf⟩ := (q9 S2).tm
  obtain ⟨g3, cap3, w3, hap3, S3⟩ := (q9 S2).app (UInt8.ofNat t.left) (t.left : Int) (u8_of hl) (by simp; omega) (n + 1 + 1) (by simp [hnl]) _ rfl
  unfold tmV
  have e0 : (t.op : Int) = 10 := by omega
  rw [e0] at a0 hap1 b0 ⊢
  clear hE ho h hl hr ht hnl hn hb e0 S0
  go_enter Tryz.func63, Tryz.ntmps63
  go_wp2_with fail
  exact q9 HQ _ _ ⟨_, rfl, by have := (q9 S3).ob; rw [List.append_assoc, List.append_assoc] at this; exact this, (q9 S3).bel⟩
end
section
def EvIn (w : World) (ev : Value) (ps : List Pr) : Prop :=
  (ps = [] ∧ ∃ a cap, ev = .slice a 0 cap) ∨ ∃ b off cap, ev = .slice (some ⟨b, off, none⟩) ps.length cap ∧ ps.length ≤ cap ∧ EvAt w b off ps ∧ b < w.heap.size
theorem EvIn.below {w w' : World} {ev : Value} {ps : List Pr} (h : EvIn w ev ps) (hb : Below w.heap.size w w') : EvIn w' ev ps := by
  rcases h with h | ⟨b, off, cap, rfl, hc, he, hlt⟩
  · exact .inl h
  · exact .inr ⟨b, off, cap, rfl, hc, he.below hb hlt, Nat.lt_of_lt_of_le hlt hb.size⟩
theorem EvIn.slice {w : World} {ev : Value} {ps : List Pr} (h : EvIn w ev ps) : ∃ a n c, ev = .slice a n c := by
  rcases h with ⟨_, a, cap, rfl⟩ | ⟨b, off, cap, rfl, _⟩
  · exact ⟨_, _, _, rfl⟩
  · exact ⟨_, _, _, rfl⟩
theorem EvIn.arg {w : World} {ev : Value} {ps : List Pr} (h : EvIn w ev ps) (h8 : ps.length ≤ 8) : EvArg w ev ps := by
  refine ⟨h8, ?_⟩
  rcases h with h | ⟨b, off, cap, rfl, hc, he, hlt⟩
  · exact .inl h
  · exact .inr ⟨b, off, cap, rfl, he, hlt⟩
structure EvGood (ps : List Pr) : Prop where
  short : Short ps
  rng : jb9 ps
  len : ps.length ≤ 140737488355328
theorem vd1 {w : World} {ev : Value} {ps : List Pr} (h : EvIn w ev ps) (hg : EvGood ps) :
    Calls Tryz.prog 40 #[ev] w fun e w' => e = .returned (.bool (vf9 ps)) ∧ Below w.heap.size w w' := by
  rcases h with ⟨rfl, a, cap, rfl⟩ | ⟨b, off, cap, rfl, hc, he, hlt⟩
  · exact jh0 a cap w
  · exact jh3 b off cap ps w hc hg.len hg.short he hlt
theorem evOk_8 {ps : List Pr} (h : vf9 ps = true) : ps.length ≤ 8 := by
  apply Decidable.byContradiction
  intro hn
  rw [evOk_long hn] at h
  cases h
theorem evOk_at {ps : List Pr} (h : vf9 ps = true) {p : Pr} (hp : p ∈ ps) : qv1 p.name = true ∧ vv9 p.val = true := by
  obtain ⟨k, hk⟩ := List.getElem?_of_mem hp
  unfold vf9 at h
  rw [Bool.and_eq_true, List.all_eq_true] at h
  obtain ⟨hlt, _⟩ := List.getElem?_eq_some_iff.1 hk
  have := h.2 k (List.mem_range.2 hlt)
  unfold za7 at this
  rw [hk] at this
  simp only [Bool.and_eq_true] at this
  exact this.1
theorem valOk_str {v : V} (h : vv9 v = true) : v.str.length ≤ 20 := by
  apply Decidable.byContradiction
  intro hn
  have he : v.str.isEmpty = false := by cases hs : v.str with
    | nil => rw [hs] at hn; simp at hn
    | cons c t => rfl
  have hd : decide (v.str.length ≤ 20) = false := decide_eq_false hn
  simp only [vv9, he, hd, Bool.and_false, Bool.false_eq_true, ite_self] at h
theorem vt3 {ps : List Pr} (h : vf9 ps = true) : EvSh ps := fun p hp => Nat.le_trans (valOk_str (evOk_at h hp).2) (by decide)
theorem vi5 {s : ByteArray} {t : Ast} (h : qh5 s = .ok t) : ve4 t ∧ vd8 t := by
  unfold qh5 at h
  by_cases hs : s.size ≤ 200
  · rw [if_pos hs] at h
    cases he : (lvl s 12).E (v8 s st0) with
    | err en pl => rw [he] at h; cases h
    | ok t1 st =>
      rw [he] at h
      change jy3 t1 st = _ at h
      have : t1 = t := by
        unfold jy3 at h
        split at h
        · split at h
          · injection h
          · cases h
        · cases h
      subst this
      exact ⟨((jh7 s 12).E _ _ _ (qc0 s st0) he).1, ((jm2 s hs 12).E _ _ _ (j7 hs st0) he).1⟩
  · rw [if_neg hs] at h; cases h
set_option maxHeartbeats 1000000 in
set_option maxRecDepth 100000 in
theorem ju6 (s : ByteArray) (hs : s.size ≤ 140737488355328) (t : Ast) (hrd : qh5 s = .ok t) (ps : List Pr) (ev : Value) (w : World) (hE : ErrOk w)
    (hev : EvIn w ev ps) (hg : EvGood ps) (hok : vf9 ps = true) :
    Calls Tryz.prog 112 #[.string s, ev] w fun e w' => e = .returned (.tuple #[vV (ofA ps t), .int .i64 0, .int .i64 0]) ∧ Below w.heap.size w w' := by
  have hof : ∀ lo, OfOk lo ps ev t := fun lo => of_every lo ps ev hg.rng (vt3 hok) t (vi5 hrd).2 (vi5 hrd).1
  have hlen : (ofA ps t).str.length ≤ 281474976710656 := Nat.le_trans (vj3 (vt3 hok) t (vi5 hrd).2) (by decide)
  have RD := v6 (qr7 s (w.alloc (.cells #[.int .i64 0, .int .i64 0, .string ⟨#[]⟩] 118)) (hE.alloc _) hs)
  rw [hrd] at RD
  have hbl := (Below.refl w.heap.size w).alloc (Nat.le_refl _) (.cells #[.int .i64 0, .int .i64 0, .string ⟨#[]⟩] 118)
  have EVA := v6 (hev.below hbl)
  obtain ⟨a, n, c, rfl⟩ := hev.slice
  have HV := v6 (fun w1 (h : EvIn w1 (.slice a n c) ps) => vd1 h hg)
  rw [hok] at HV
  have HOF := v6 hof
  have HB8 := v6 (evOk_8 hok)
  obtain ⟨r, hr⟩ : ∃ r, ofA ps t = r := ⟨_, rfl⟩
  rw [hr] at hlen ⊢
  have HR := v6 hr
  have hzs := qc1 r.str
  have hcl : (BS r.str).size ≤ 281474976710656 := by omega
  clear hrd hE hg hev hok hof hr hlen hzs
  go_enter Tryz.func112, Tryz.ntmps112
  go_wp2_with (first | (go_at_call 31; refine (q9 RD).mono ?_; rintro e w1 ⟨hb1, v1, rfl, hn1⟩; obtain ⟨vb, rfl⟩ := hn1.ptr; have hz1 : w.heap.size < w1.heap.size := (by have := hb1.size; simp at this; omega); have EV1 := v6 ((q9 EVA).below hb1); have g0 : w1.cell? ⟨w.heap.size, 0, none⟩ = some (.int .i64 0) := ((j6 hb1).1 _ 0 (by simp)).trans (by simp); have g1 : w1.cell? ⟨w.heap.size, 1, none⟩ = some (.int .i64 0) := ((j6 hb1).1 _ 1 (by simp)).trans (by simp); have g2 : w1.cell? ⟨w.heap.size, 2, none⟩ = some (.string ⟨#[]⟩) := ((j6 hb1).1 _ 2 (by simp)).trans (by simp); have z0 : ∀ j, w1.frozen? ⟨w.heap.size, j, none⟩ = false := (fun j => ((j6 hb1).2 _ j (by simp)).trans (by simp)); have hB1 := v6 (v7 hbl hb1); have hN1 := v6 hn1; clear hb1 hn1) | (go_at_call 40; refine (q9 HV _ (q9 EV1)).mono ?_; rintro e w2 ⟨rfl, hb2⟩; have hz2 : w.heap.size < w2.heap.size := (by have := hb2.size; omega); have EV2 := v6 ((q9 EV1).below hb2); have k0 : w2.cell? ⟨w.heap.size, 0, none⟩ = some (.int .i64 0) := ((j6 hb2).1 _ 0 hz1).trans g0; have k1 : w2.cell? ⟨w.heap.size, 1, none⟩ = some (.int .i64 0) := ((j6 hb2).1 _ 1 hz1).trans g1; have k2 : w2.cell? ⟨w.heap.size, 2, none⟩ = some (.string ⟨#[]⟩) := ((j6 hb2).1 _ 2 hz1).trans g2; have z2 : ∀ j, w2.frozen? ⟨w.heap.size, j, none⟩ = false := (fun j => ((j6 hb2).2 _ j hz1).trans (z0 j)); have hN2 := v6 ((q9 hN1).kept (Kept.of_below hb2)); have hB2 := v6 (v7 (q9 hB1) hb2); clear hb2 g0 g1 g2 z0) | (go_at_call 161; refine (q9 HOF _ _ _ (q9 hN2) ((q9 EV2).arg (q9 HB8))).mono ?_; rw [q9 HR]; rintro e w3 ⟨rfl, hb3⟩; have hz3 : w.heap.size < w3.heap.size := (by have := hb3.size; omega); have m0 : w3.cell? ⟨w.heap.size, 0, none⟩ = some (.int .i64 0) := ((j6 hb3).1 _ 0 hz2).trans k0; have m1 : w3.cell? ⟨w.heap.size, 1, none⟩ = some (.int .i64 0) := ((j6 hb3).1 _ 1 hz2).trans k1; have m2 : w3.cell? ⟨w.heap.size, 2, none⟩ = some (.string ⟨#[]⟩) := ((j6 hb3).1 _ 2 hz2).trans k2; have z3 : ∀ j, w3.frozen? ⟨w.heap.size, j, none⟩ = false := (fun j => ((j6 hb3).2 _ j hz2).trans (z2 j)); have hB3 := v6 (v7 (q9 hB2) hb3); clear hb3 k0 k1 k2 z2; simp only [vV]) | (go_at_call 162; refine (vz1 (BS r.str) _ hcl).mono ?_; rintro e w4 ⟨rfl, hb4⟩; have hz4 : w3.heap.size < w4.heap.size := (by have := hb4.size; simp at this; omega); have n0 : w4.cell? ⟨w.heap.size, 0, none⟩ = some (.int .i64 0) := ((j6 hb4).1 _ 0 (by simp; omega)).trans (by rw [World.cell?_alloc_past _ _ _ hz3]; exact m0); have n1 : w4.cell? ⟨w.heap.size, 1, none⟩ = some (.int .i64 0) := ((j6 hb4).1 _ 1 (by simp; omega)).trans (by rw [World.cell?_alloc_past _ _ _ hz3]; exact m1); have n2 : w4.cell? ⟨w.heap.size, 2, none⟩ = some (.string ⟨#[]⟩) := ((j6 hb4).1 _ 2 (by simp; omega)).trans (by rw [World.cell?_alloc_past _ _ _ hz3]; exact m2); have z4 : ∀ j, w4.frozen? ⟨w.heap.size, j, none⟩ = false := (fun j => ((j6 hb4).2 _ j (by simp; omega)).trans (by rw [World.frozen?_alloc_past _ _ _ hz3]; exact z3 j)); have a0 : w4.cell? ⟨w3.heap.size, 0, none⟩ = some (.int .i64 r.kind) := ((j6 hb4).1 _ 0 (by simp)).trans (by simp); have a1 : w4.cell? ⟨w3.heap.size, 1, none⟩ = some (.int .i64 r.num) := ((j6 hb4).1 _ 1 (by simp)).trans (by simp); have a2 : w4.cell? ⟨w3.heap.size, 2, none⟩ = some (.string (BS r.str)) := ((j6 hb4).1 _ 2 (by simp)).trans (by simp); have z5 : ∀ j, w4.frozen? ⟨w3.heap.size, j, none⟩ = false := (fun j => ((j6 hb4).2 _ j (by simp)).trans (by simp)); have hne : ¬ w3.heap.size = w.heap.size := (by omega); have hB4 := v6 (v7 (x3 (q9 hB3) _) hb4); clear hb4 m0 m1 m2 z3))
  refine bodyPost_ret (by simp [results, Tryz.results112, go_sem, n0, n1, n2] <;> rfl) rfl ⟨rfl, ?_⟩
  exact ((((q9 hB4).setCell (by simp; omega) _).setCell (by simp) _).setCell (by simp) _).setCell (by simp) _
set_option maxHeartbeats 1000000 in
set_option maxRecDepth 100000 in
theorem je4 (s : ByteArray) (hs : s.size ≤ 140737488355328) (t : Ast) (hrd : qh5 s = .ok t) (ps : List Pr) (ev : Value) (w : World) (hE : ErrOk w)
    (hev : EvIn w ev ps) (hg : EvGood ps) (hok : vf9 ps = false) :
    Calls Tryz.prog 112 #[.string s, ev] w fun e w' => e = .returned (.tuple #[vV nV, .int .i64 7, .int .i64 0]) ∧ Below w.heap.size w w' := by
  have RD := v6 (qr7 s (w.alloc (.cells #[.int .i64 0, .int .i64 0, .string ⟨#[]⟩] 118)) (hE.alloc _) hs)
  rw [hrd] at RD
  have hbl := (Below.refl w.heap.size w).alloc (Nat.le_refl _) (.cells #[.int .i64 0, .int .i64 0, .string ⟨#[]⟩] 118)
  have EVA := v6 (hev.below hbl)
  obtain ⟨a, n, c, rfl⟩ := hev.slice
  have HV := v6 (fun w1 (h : EvIn w1 (.slice a n c) ps) => vd1 h hg)
  rw [hok] at HV
  clear hrd hE hg hev hok
  go_enter Tryz.func112, Tryz.ntmps112
  go_wp2_with (first | (go_at_call 31; refine (q9 RD).mono ?_; rintro e w1 ⟨hb1, v1, rfl, hn1⟩; obtain ⟨vb, rfl⟩ := hn1.ptr; have hz1 : w.heap.size < w1.heap.size := (by have := hb1.size; simp at this; omega); have EV1 := v6 ((q9 EVA).below hb1); have g0 : w1.cell? ⟨w.heap.size, 0, none⟩ = some (.int .i64 0) := ((j6 hb1).1 _ 0 (by simp)).trans (by simp); have g1 : w1.cell? ⟨w.heap.size, 1, none⟩ = some (.int .i64 0) := ((j6 hb1).1 _ 1 (by simp)).trans (by simp); have g2 : w1.cell? ⟨w.heap.size, 2, none⟩ = some (.string ⟨#[]⟩) := ((j6 hb1).1 _ 2 (by simp)).trans (by simp); have z0 : ∀ j, w1.frozen? ⟨w.heap.size, j, none⟩ = false := (fun j => ((j6 hb1).2 _ j (by simp)).trans (by simp)); have hB1 := v6 (v7 hbl hb1); clear hb1 hn1) | (go_at_call 40; refine (q9 HV _ (q9 EV1)).mono ?_; rintro e w2 ⟨rfl, hb2⟩; have hz2 : w.heap.size < w2.heap.size := (by have := hb2.size; omega); have k0 : w2.cell? ⟨w.heap.size, 0, none⟩ = some (.int .i64 0) := ((j6 hb2).1 _ 0 hz1).trans g0; have k1 : w2.cell? ⟨w.heap.size, 1, none⟩ = some (.int .i64 0) := ((j6 hb2).1 _ 1 hz1).trans g1; have k2 : w2.cell? ⟨w.heap.size, 2, none⟩ = some (.string ⟨#[]⟩) := ((j6 hb2).1 _ 2 hz1).trans g2; have z2 : ∀ j, w2.frozen? ⟨w.heap.size, j, none⟩ = false := (fun j => ((j6 hb2).2 _ j hz1).trans (z0 j)); have hB2 := v6 (v7 (q9 hB1) hb2); clear hb2 g0 g1 g2 z0))
  refine bodyPost_ret (by simp [results, Tryz.results112, go_sem, k0, k1, k2] <;> rfl) rfl ⟨rfl, ?_⟩
  exact (((q9 hB2).setCell (by simp) _).setCell (by simp) _).setCell (by simp) _
set_option maxHeartbeats 1000000 in
set_option maxRecDepth 100000 in
theorem ji7 (s : ByteArray) (hs : s.size ≤ 140737488355328) (en pl : Int) (hrd : qh5 s = .err en pl) (ev : Value) (w : World) (hE : ErrOk w) (hev : ∃ a n c, ev = .slice a n c) :
    Calls Tryz.prog 112 #[.string s, ev] w fun e w' => e = .returned (.tuple #[vV nV, .int .i64 en, .int .i64 pl]) ∧ Below w.heap.size w w' := by
  have RD := v6 (qr7 s (w.alloc (.cells #[.int .i64 0, .int .i64 0, .string ⟨#[]⟩] 118)) (hE.alloc _) hs)
  rw [hrd] at RD
  have hbl := (Below.refl w.heap.size w).alloc (Nat.le_refl _) (.cells #[.int .i64 0, .int .i64 0, .string ⟨#[]⟩] 118)
  obtain ⟨a, n, c, rfl⟩ := hev
  have hen : (en != 0) = true := by rcases qn5 hrd with h | h | h | h <;> rw [h] <;> rfl
  have hen' : (en == 0) = false := by rcases qn5 hrd with h | h | h | h <;> rw [h] <;> rfl
  clear hrd hE
  go_enter Tryz.func112, Tryz.ntmps112
  go_wp2_with (first | (go_at_call 31; refine (q9 RD).mono ?_; rintro e w1 ⟨hb1, rfl⟩; have hz1 : w.heap.size < w1.heap.size := (by have := hb1.size; simp at this; omega); have g0 : w1.cell? ⟨w.heap.size, 0, none⟩ = some (.int .i64 0) := ((j6 hb1).1 _ 0 (by simp)).trans (by simp); have g1 : w1.cell? ⟨w.heap.size, 1, none⟩ = some (.int .i64 0) := ((j6 hb1).1 _ 1 (by simp)).trans (by simp); have g2 : w1.cell? ⟨w.heap.size, 2, none⟩ = some (.string ⟨#[]⟩) := ((j6 hb1).1 _ 2 (by simp)).trans (by simp); have z0 : ∀ j, w1.frozen? ⟨w.heap.size, j, none⟩ = false := (fun j => ((j6 hb1).2 _ j (by simp)).trans (by simp)); have hB1 := v6 (v7 hbl hb1); clear hb1))
  refine bodyPost_ret (by simp [results, Tryz.results112, go_sem, g0, g1, g2] <;> rfl) rfl ⟨rfl, ?_⟩
  exact (((q9 hB1).setCell (by simp) _).setCell (by simp) _).setCell (by simp) _
structure Ans where
  val : V
  errno : Int
  place : Int
def jk5 (s : ByteArray) (ps : List Pr) : Ans := match qh5 s with
  | .err en pl => ⟨nV, en, pl⟩
  | .ok t => if vf9 ps then ⟨ofA ps t, 0, 0⟩ else ⟨nV, 7, 0⟩
theorem eval_any (s : ByteArray) (hs : s.size ≤ 140737488355328) (ps : List Pr) (ev : Value) (w : World) (hE : ErrOk w) (hev : EvIn w ev ps) (hg : EvGood ps) :
    Calls Tryz.prog 112 #[.string s, ev] w fun e w' => e = .returned (.tuple #[vV (jk5 s ps).val, .int .i64 (jk5 s ps).errno, .int .i64 (jk5 s ps).place]) ∧ Below w.heap.size w w' := by
  unfold jk5
  cases hrd : qh5 s with
  | err en pl => exact ji7 s hs en pl hrd ev w hE hev.slice
  | ok t =>
    cases hok : vf9 ps with
    | true => exact ju6 s hs t hrd ps ev w hE hev hg hok
    | false => exact je4 s hs t hrd ps ev w hE hev hg hok
end
section
attribute [local go_sem ↓] qd6
theorem PsAt.new {w : World} {v : Value} {l : List UInt8} (h : BytesAt w w.heap.size v l) (ty : TypeId) : PsAt (w.alloc (.cells #[v, .bool false] ty)) w.heap.size ⟨l, false⟩ := by
  obtain ⟨a, c, rfl, hc, hx⟩ := h
  refine ⟨by simp, ⟨.slice a l.length c, by simp [go_sem], a, c, rfl, hc, fun i x hi => ?_⟩, by simp [go_sem], fun j => by simp [go_sem]⟩
  obtain ⟨b, o, ha, hb, hcell⟩ := hx i x hi
  exact ⟨b, o, ha, hb, ((((Below.refl w.heap.size w).alloc (Nat.le_refl _) _).cell (p := ⟨b, o + i, none⟩) hb)).trans hcell⟩
theorem RdL.start {w w2 : World} {rb : Nat} {s : Ps} (hp : PsAt w2 rb s) (hr : w.heap.size ≤ rb) (hb : Below w.heap.size w w2) (ty : TypeId) : RdL w (w2.alloc (.cells #[.slice none 0 0, .slice none 0 0] ty)) rb w2.heap.size s [] (.slice none 0 0) [] (.slice none 0 0) := by
  refine ⟨hp.alloc _, by simp [go_sem], by simp [go_sem], fun j => by simp [go_sem], hp.lt, by simp, TsAt.nil _ _, IsAt.nil _ _, fun g hg => by simp [Value.ownBlock] at hg, hr, hb.alloc hb.size _⟩
def vw3 (w : World) (r : List Tm × List Nat × Bool) (e : Ending) (w' : World) : Prop :=
  ∃ pb, e = .returned (.tuple #[.pointer (some ⟨pb, 0, none⟩), .bool r.2.2]) ∧ ProgAt w' pb 0 r.1 r.2.1 ∧ Below w.heap.size w w'
set_option maxHeartbeats 2000000 in
set_option maxRecDepth 100000 in
theorem pread_ok (code : List UInt8) (hT : ∀ k, k < (vn2 code).1 → jc2 (qe2 (vc9 code).2 k).2 k) (cv : Value) (w : World) (h : BytesAt w w.heap.size cv code) :
    Calls Tryz.prog 41 #[cv] w (vw3 w (qt9 code)) := by
  obtain ⟨i0, hi, hz0, hz1, hz2⟩ := info_parts vn3
  obtain ⟨i1, hj, hy0, hy1, hy2⟩ := info_parts qs9
  have HP : Hid (∀ ty, PsAt (w.alloc (.cells #[cv, .bool false] ty)) w.heap.size ⟨code, false⟩) := v6 fun ty => PsAt.new h ty
  obtain ⟨a, c, rfl, hc, hx⟩ := h
  clear hx hc
  obtain ⟨HH, eH⟩ : ∃ x, Ps.upTo ⟨code, false⟩ 80 = x := ⟨_, rfl⟩
  have T1 := v6 (fun w1 h1 => qs8 w.heap.size ⟨code, false⟩ 80 w1 h1)
  have hN := Ps.upTo_le ⟨code, false⟩ 80
  rw [eH] at T1 hN
  obtain ⟨N, s1⟩ := HH
  obtain ⟨II, eI⟩ : ∃ x, Ps.upTo s1 8 = x := ⟨_, rfl⟩
  have T2 := v6 (fun w1 h1 => qs8 w.heap.size s1 8 w1 h1)
  have hM := Ps.upTo_le s1 8
  rw [eI] at T2 hM
  obtain ⟨M, s2⟩ := II
  have ER : Hid (qt9 code = ((qe2 s2 N).1, (qi5 ((N : Int) - 1) (qe2 s2 N).2 M).1, !(qi5 ((N : Int) - 1) (qe2 s2 N).2 M).2.bad && ((qi5 ((N : Int) - 1) (qe2 s2 N).2 M).2.rest.length == 0))) := v6 (by
    have e1 : vn2 code = (N, s1) := eH
    have e2 : vc9 code = (M, s2) := by rw [vc9, e1]; exact eI
    have e3 : readT code = qe2 s2 N := by rw [readT, e1, e2]
    have e4 : jr4 code = qi5 ((N : Int) - 1) (qe2 s2 N).2 M := by rw [jr4, e1, e2, e3]
    rw [qt9, e3, e4])
  have HT : Hid (∀ k, k < N → jc2 (qe2 s2 k).2 k) := v6 (by
    have e1 : vn2 code = (N, s1) := eH
    have e2 : vc9 code = (M, s2) := by rw [vc9, e1]; exact eI
    rw [e1, e2] at hT
    exact hT)
  generalize qt9 code = RR at ER ⊢
  clear hT
  clear eH eI
  simp only at T1 T2 hN hM
  go_enter Tryz.func41, Tryz.ntmps41
  go_wp2_with (first | (go_at_call 67; refine (q9 T2 _ (q9 hp1)).mono ?_; rintro e w2 ⟨rfl, hp2, hk2⟩; have K2 : Hid (Below w.heap.size w w2) := v6 (vf3 (q9 K1) hk2 (Nat.le_refl _)); have R0 : Hid (∀ ty, RdL w (w2.alloc (.cells #[.slice none 0 0, .slice none 0 0] ty)) w.heap.size w2.heap.size s2 [] (.slice none 0 0) [] (.slice none 0 0)) := v6 (fun ty => RdL.start hp2 (Nat.le_refl _) (q9 K2) ty); clear hk2 hp2) | (go_at_call 67; refine (q9 T1 _ (q9 HP _)).mono ?_; rintro e w1 ⟨rfl, hp1, hk1⟩; have hp1 := v6 hp1; have K1 : Hid (Below w.heap.size w w1) := v6 (vf3 ((Below.refl _ _).alloc (Nat.le_refl _) _) hk1 (Nat.le_refl _)); clear hk1))
  go_loopw [16] (fun i wr => ∃ (k : Nat) (tv : Value), k ≤ N ∧ i = .int .i64 k ∧ Hid (RdL w wr w.heap.size w2.heap.size (qe2 s2 k).2 (qe2 s2 k).1 tv [] (.slice none 0 0))) (fun i _ => N - (intOf i).toNat)
  case atStart => exact ⟨0, _, Nat.zero_le _, rfl, q9 R0 _⟩
  case round =>
    obtain ⟨k, tv, hk, rfl, HL⟩ := hrel
    by_cases hlt : k < N
    · have hS : Hid (qe2 s2 (k + 1) = ((qe2 s2 k).1 ++ [((qe2 s2 k).2.term k).1], ((qe2 s2 k).2.term k).2)) := v6 rfl
      have hL : (qe2 s2 k).1.length = k := qu6 _ _
      obtain ⟨X, hX⟩ : ∃ x, qe2 s2 k = x := ⟨_, rfl⟩
      have hTk := q9 HT k hlt
      rw [hX] at HL hS hL hTk
      obtain ⟨ts, s3⟩ := X
      obtain ⟨t, ht⟩ : ∃ t, s3.term k = t := ⟨_, rfl⟩
      simp only at HL hS hL
      rw [ht] at hS
      have TM : Hid (∀ w1, PsAt w1 w.heap.size s3 → Calls Tryz.prog 68 #[.pointer (some ⟨w.heap.size, 0, none⟩), .int .i64 k] w1 (qy2 w.heap.size w1 t)) := v6 (fun w1 h1 => ht ▸ hTk _ w1 h1)
      clear ht hX hTk
      obtain ⟨t, s4⟩ := t
      have c0 := (q9 HL).c0
      have fz := (q9 HL).fz
      have lt0 := (q9 HL).lt
      go_wp2_with fail
      go_region_with (go_at_call 68; refine (q9 TM _ (q9 HL).ps.drew).mono ?_; rintro e w4 ⟨rfl, hp4, hk4⟩; have HL4 := v6 ((q9 HL).kept hk4.drew' hp4); have c4 := (q9 HL4).c0; have f4 := (q9 HL4).fz; have lt4 := (q9 HL4).lt; clear hk4 hp4; obtain ⟨g, cap, w5, hap, c5, f5, lt5, HL5⟩ := (q9 HL4).appT t (by omega) 63; rw [hL] at hap HL5; simp only [tmV])
      all_goals go_wp2_with fail
      all_goals exact ⟨⟨k + 1, _, by omega, rfl, v6 (by rw [q9 hS]; exact q9 HL5)⟩, by simp [intOf]; omega⟩
    · have : k = N := by omega
      subst this
      obtain ⟨X, hX⟩ : ∃ x, qe2 s2 k = x := ⟨_, rfl⟩
      rw [hX] at HL ER
      obtain ⟨ts, s3⟩ := X
      simp only at HL ER
      clear hX
      go_wp2_with fail
      go_loopw [32] (fun i wr => ∃ (j : Nat) (rv : Value), j ≤ M ∧ i = .int .i64 j ∧ Hid (RdL w wr w.heap.size w2.heap.size (qi5 ((k : Int) - 1) s3 j).2 ts tv (qi5 ((k : Int) - 1) s3 j).1 rv)) (fun i _ => M - (intOf i).toNat)
      case atStart => exact ⟨0, _, Nat.zero_le _, rfl, HL⟩
      case round =>
        obtain ⟨j, rv, hj', rfl, HR⟩ := hrel
        by_cases hlt2 : j < M
        · have hS : Hid (qi5 ((k : Int) - 1) s3 (j + 1) = ((qi5 ((k : Int) - 1) s3 j).1 ++ [((qi5 ((k : Int) - 1) s3 j).2.upTo ((k : Int) - 1)).1], ((qi5 ((k : Int) - 1) s3 j).2.upTo ((k : Int) - 1)).2)) := v6 rfl
          have hL : (qi5 ((k : Int) - 1) s3 j).1.length = j := va9 _ _ _
          obtain ⟨X, hX⟩ : ∃ x, qi5 ((k : Int) - 1) s3 j = x := ⟨_, rfl⟩
          rw [hX] at HR hS hL
          obtain ⟨rs, s4⟩ := X
          simp only at HR hS hL
          obtain ⟨Y, hY⟩ : ∃ x, s4.upTo ((k : Int) - 1) = x := ⟨_, rfl⟩
          have TU := v6 (fun w1 h1 => qs8 w.heap.size s4 ((k : Int) - 1) w1 h1)
          rw [hY] at hS TU
          obtain ⟨r, s5⟩ := Y
          simp only at hS TU
          clear hX hY
          have hwr : IntKind.i64.wrap ((k : Int) - 1) = (k : Int) - 1 := by rw [IntKind.wrap_i64]; omega
          have c1 := (q9 HR).c1
          have fz := (q9 HR).fz
          have lt0 := (q9 HR).lt
          go_wp2_with fail
          go_region_with (go_at_call 67; refine (q9 TU _ (q9 HR).ps.drew).mono ?_; rintro e w4 ⟨rfl, hp4, hk4⟩; have HR4 := v6 ((q9 HR).kept hk4.drew' hp4); have c4 := (q9 HR4).c1; have f4 := (q9 HR4).fz; have lt4 := (q9 HR4).lt; clear hk4 hp4; obtain ⟨g, cap, w5, hap, c5, f5, lt5, HR5⟩ := (q9 HR4).appR r (by omega) 29; rw [hL] at hap HR5)
          all_goals go_wp2_with fail
          all_goals exact ⟨⟨j + 1, _, by omega, rfl, v6 (by rw [q9 hS]; exact q9 HR5)⟩, by simp [intOf]; omega⟩
        · have : j = M := by omega
          subst this
          obtain ⟨X, hX⟩ : ∃ x, qi5 ((k : Int) - 1) s3 j = x := ⟨_, rfl⟩
          rw [hX] at HR ER
          obtain ⟨rs, s4⟩ := X
          simp only at HR ER
          clear hX
          obtain ⟨v0, p0, hv0⟩ := (q9 HR).ps.c0
          have p1 := (q9 HR).ps.c1
          obtain ⟨a', c', rfl, hc', _⟩ := hv0
          have HP' := v6 (q9 HR).prog
          have HB' := v6 (q9 HR).bel
          clear HR HL HP T1 T2 R0 K1 K2
          cases hb : s4.bad with
          | true =>
            rw [hb] at p1 ER
            go_wp2_with fail
            go_region
            all_goals go_wp2_with fail
            all_goals go_ret2
            all_goals exact ⟨_, by rw [q9 ER]; rfl, by rw [q9 ER]; exact (q9 HP').below (Below.refl _ _).drew, (q9 HB').drew⟩
          | false =>
            rw [hb] at p1 ER
            by_cases hz : s4.rest.length = 0
            · rw [hz] at p0 ER
              go_wp2_with fail
              go_region
              all_goals go_wp2_with fail
              all_goals go_ret2
              all_goals exact ⟨_, by rw [q9 ER]; rfl, by rw [q9 ER]; exact (q9 HP').below (Below.refl _ _).drew, (q9 HB').drew⟩
            · have hz' : ((s4.rest.length : Int) == 0) = false := beq_eq_false_iff_ne.2 (by omega)
              have hz'' : (s4.rest.length == 0) = false := beq_eq_false_iff_ne.2 hz
              rw [hz''] at ER
              go_wp2_with fail
              go_region
              all_goals go_wp2_with fail
              all_goals go_ret2
              all_goals exact ⟨_, by rw [q9 ER]; rfl, by rw [q9 ER]; exact (q9 HP').below (Below.refl _ _).drew, (q9 HB').drew⟩
end
section
def evs : List Pr := [⟨[97], iV 5⟩]
def qc5 (w : World) : World := w.alloc (.cells #[.string ⟨#[97]⟩, .int .i64 2, .int .i64 5, .string ⟨#[]⟩] 120)
set_option maxHeartbeats 400000 in
theorem vj8 (w : World) :
    Calls Tryz.prog 27 #[] w fun e w' => e = .returned (.slice (some ⟨w.heap.size, 0, none⟩) 1 1) ∧ w' = qc5 w := by
  go_enter Tryz.func27, Tryz.ntmps27
  go_wp2_with fail
  go_ret
  exact ⟨rfl, rfl⟩
theorem jf4 (w : World) : EvAt (qc5 w) w.heap.size 0 evs := by
  intro k p hk
  unfold qc5
  match k, hk with
  | 0, hk =>
    have : p = ⟨[97], iV 5⟩ := by simpa [evs] using hk.symm
    subst this
    refine ⟨?_, ?_, ?_, ?_⟩
    all_goals (rw [World.cell?_alloc_at _ _ _ _ rfl]; rfl)
  | k + 1, hk => simp [evs] at hk
theorem vh7 : EvGood evs := by
  refine ⟨fun p hp => ?_, fun p hp => ?_, by simp [evs]⟩
  · simp [evs] at hp; subst hp; exact ⟨by decide, by decide⟩
  · simp [evs] at hp; subst hp; exact ⟨by decide, by decide⟩
theorem jp4 {w w1 : World} (hb : Below (qc5 w).heap.size (qc5 w) w1) : EvIn w1 (.slice (some ⟨w.heap.size, 0, none⟩) 1 1) evs := by
  have hz : (qc5 w).heap.size = w.heap.size + 1 := by simp [qc5]
  exact .inr ⟨w.heap.size, 0, 1, rfl, by simp [evs], (jf4 w).below hb (by omega), by have := hb.size; omega⟩
theorem is_in (s : ByteArray) (hs : s.size ≤ 140737488355328) (ps : List Pr) (ev : Value) (want : V) (w : World) (hE : ErrOk w) (hev : EvIn w ev ps) (hg : EvGood ps) (hr : jk5 s ps = ⟨want, 0, 0⟩) :
    Calls Tryz.prog 81 #[.string s, ev, vV want] w fun e w' => e = .returned (.bool true) ∧ Below w.heap.size w w' := by
  refine (is_any s ev want want hev.slice w (fun w1 hb _ => ?_)).mono ?_
  · have := eval_any s hs ps ev w1 (hE.below hb (Nat.le_refl _)) (hev.below hb) hg
    rw [hr] at this
    exact this
  · rintro e w' ⟨rfl, h⟩
    exact ⟨by simp, h⟩
def textR1 : ByteArray := ⟨#[97, 32, 43, 32, 49, 32, 61, 32, 54, 32, 65, 78, 68, 32, 78, 79, 84, 32, 98, 32, 73, 83, 32, 78, 85, 76, 76, 32, 79, 82, 32, 97, 32, 62, 32, 52]⟩
def textR2 : ByteArray := ⟨#[97, 32, 60, 32, 53]⟩
set_option maxRecDepth 100000 in
theorem evalR1 : jk5 textR1 evs = ⟨bV true, 0, 0⟩ := by kernel_rfl
set_option maxRecDepth 100000 in
theorem evalR2 : jk5 textR2 evs = ⟨bV false, 0, 0⟩ := by kernel_rfl
set_option maxHeartbeats 1000000 in
theorem reads_any (w : World) (hE : ErrOk w) :
    Calls Tryz.prog 50 #[] w fun e w' => e = .returned (.bool true) ∧ Below w.heap.size w w' := by
  have hz : (qc5 w).heap.size = w.heap.size + 1 := by simp [qc5]
  have hE0 : ErrOk (qc5 w) := hE.alloc _
  have I1 : Hid (∀ w1, Below (qc5 w).heap.size (qc5 w) w1 → Calls Tryz.prog 81 #[.string textR1, .slice (some ⟨w.heap.size, 0, none⟩) 1 1, vV (bV true)] w1 fun e w' => e = .returned (.bool true) ∧ Below w1.heap.size w1 w') :=
    v6 (fun w1 hb => is_in textR1 (by decide) evs _ _ w1 (hE0.below hb (Nat.le_refl _)) (jp4 hb) vh7 evalR1)
  have I2 : Hid (∀ w1, Below (qc5 w).heap.size (qc5 w) w1 → Calls Tryz.prog 81 #[.string textR2, .slice (some ⟨w.heap.size, 0, none⟩) 1 1, vV (bV false)] w1 fun e w' => e = .returned (.bool true) ∧ Below w1.heap.size w1 w') :=
    v6 (fun w1 hb => is_in textR2 (by decide) evs _ _ w1 (hE0.below hb (Nat.le_refl _)) (jp4 hb) vh7 evalR2)
  have HB : Hid (Below (qc5 w).heap.size (qc5 w) (qc5 w)) := v6 (Below.refl _ _)
  have BW : Hid (∀ w1, Below (qc5 w).heap.size (qc5 w) w1 → Below w.heap.size w w1) := v6 (fun w1 h => v7 ((Below.refl _ _).alloc (Nat.le_refl _) _) h)
  clear hE hE0 hz
  go_enter Tryz.func50, Tryz.ntmps50
  go_wp2_with fail
  refine (vj8 _).mono ?_
  rintro e w1 ⟨rfl, rfl⟩
  go_wp2_with fail
  refine (vz2 _ _).mono ?_
  rintro e w1 ⟨rfl, hb⟩
  replace HB := v6 (v7 (q9 HB) hb)
  clear hb
  go_wp2_with fail
  refine (q9 I1 _ (q9 HB)).mono ?_
  rintro e w2 ⟨rfl, hb⟩
  replace HB := v6 (v7 (q9 HB) hb)
  clear hb
  go_wp2_with fail
  refine (vz2 _ _).mono ?_
  rintro e w3 ⟨rfl, hb⟩
  replace HB := v6 (v7 (q9 HB) hb)
  clear hb
  go_wp2_with fail
  refine (q9 I2 _ (q9 HB)).mono ?_
  rintro e w4 ⟨rfl, hb⟩
  replace HB := v6 (v7 (q9 HB) hb)
  clear hb
  go_wp2_with fail
  go_ret
  exact ⟨rfl, q9 BW _ (q9 HB)⟩
end
section
open Go.ChangeShapes Go.WideShapes Go.ChangeAt Go.RowKit Go.Deep
theorem jd3 : Tryz.prog.cellsOf 120 = 4 := by kernel_rfl
theorem cellsVal : Tryz.prog.cellsOf 118 = 3 := by kernel_rfl
theorem vx2 : Tryz.prog.cellsOf 9 = 1 := by kernel_rfl
theorem jp8 : Tryz.prog.cellsOf 3 = 1 := by kernel_rfl
theorem cellsI64 : Tryz.prog.cellsOf 2 = 1 := by kernel_rfl
theorem bytesProp : Tryz.prog.bytesOf 120 = 48 := by kernel_rfl
section
variable {H : Type} {enc : TypeId × Value → H}
theorem wf_rng {n : Int} (h : (Lit.int .i64 n).wf = true) : Rng n := by
  simp only [Lit.wf, Bool.and_eq_true, decide_eq_true_eq] at h
  exact ⟨h.1, h.2⟩
set_option maxRecDepth 100000 in
theorem open_prop {W : World} {base : Nat} {sp : Nat → Bool} {n : Nat} {cs : List Value} {x : DataW H × List MemPlace} (h : DataW.trod enc Tryz.prog W base sp true n 120 cs = some x) :
    ∃ (nm st : ByteArray) (k m : Int), cs = [.string nm, .int .i64 k, .int .i64 m, .string st] ∧ x = (.agg [.lit (.string nm.data.toList), .agg [.lit (.int .i64 k), .lit (.int .i64 m), .lit (.string st.data.toList)]], []) ∧ Rng m := by
  obtain ⟨y0, y1, n1, rfl, hl, t0, t1⟩ := trod_struct2 Tryz.underlying120 h
  rw [jd3] at hl
  match cs, hl with
  | [c0, c1, c2, c3], _ =>
    simp only [vx2, cellsVal, List.drop, List.take] at t0 t1
    obtain ⟨nm, h0, rfl, _⟩ := DataW.trod_string Tryz.underlying9 t0
    obtain ⟨z0, z1, z2, n2, rfl, _, u0, u1, u2⟩ := trod_struct3 Tryz.underlying118 t1
    simp only [jp8, cellsI64, vx2, List.drop, List.take] at u0 u1 u2
    obtain ⟨k, h1, rfl, _⟩ := DataW.trod_int Tryz.underlying3 u0
    obtain ⟨m, h2, rfl, wm⟩ := DataW.trod_int Tryz.underlying2 u1
    obtain ⟨st, h3, rfl, _⟩ := DataW.trod_string Tryz.underlying9 u2
    simp only [List.cons.injEq, and_true] at h0 h1 h2 h3
    subst h0 h1 h2 h3
    exact ⟨nm, st, k, m, rfl, rfl, wf_rng wm⟩
theorem vm0 {P : Program} {e : TypeId} {d : DataW H} : ∀ {l : List (DataW H)}, d ∈ l → ∀ n ∈ d.weights P e, n ∈ DataW.weightsAll P e l := by
  intro l
  induction l with
  | nil => intro h; cases h
  | cons a r ih =>
    intro h n hn
    rw [DataW.weightsAll]
    rcases List.mem_cons.1 h with rfl | h
    · exact List.mem_append_left _ hn
    · exact List.mem_append_right _ (ih h n hn)
set_option maxRecDepth 100000 in
theorem jc3 (nm st : List UInt8) (k m : Int) : (DataW.agg [.lit (.string nm), .agg [.lit (.int .i64 k), .lit (.int .i64 m), .lit (.string st)]] : DataW H).weights Tryz.prog 120 = [nm.length, st.length] := by
  rw [DataW.weights, Tryz.underlying120]
  simp only [List.map, DataW.weightsEach, DataW.weights, Tryz.underlying118]
  rfl
set_option maxRecDepth 100000 in
theorem vt1 {W : World} {fuel : Nat} {cs : List Value} {d : DataW H} {pl : List MemPlace} (ht : DataW.trod enc Tryz.prog W 0 (fun _ => true) true fuel 23 cs = some (d, pl))
    (hw : ∀ n ∈ d.weights Tryz.prog 23, n ≤ reachBytes) : ∃ v ps, cs = [v] ∧ EvIn W v ps ∧ EvGood ps := by
  rcases open_slice Tryz.underlying23 ht with ⟨hc, hx⟩ | ⟨a, len0, cap0, m, n, D, Pl, hc, _, hl, hm, hmm, hx, hall⟩
  · exact ⟨_, [], hc, .inl ⟨rfl, none, 0, rfl⟩, ⟨(fun p hp => by cases hp), (fun p hp => by cases hp), Nat.zero_le _⟩⟩
  · simp only [if_true] at hmm
    subst hmm
    simp only [Prod.mk.injEq] at hx
    obtain ⟨rfl, rfl⟩ := hx
    refine ⟨.slice (some a) len0 m, ?_⟩
    suffices hgoal : ∃ ps, EvIn W (.slice (some a) len0 m) ps ∧ EvGood ps by
      obtain ⟨ps, h1, h2⟩ := hgoal
      exact ⟨ps, hc, h1, h2⟩
    rw [jd3] at hall
    have each : ∀ i, i < len0 → ∃ p : Pr, (W.cell? (a.add (i * 4)) = some (.string (BS p.name)) ∧ W.cell? (a.add (i * 4 + 1)) = some (.int .i64 p.val.kind) ∧ W.cell? (a.add (i * 4 + 2)) = some (.int .i64 p.val.num) ∧ W.cell? (a.add (i * 4 + 3)) = some (.string (BS p.val.str))) ∧ Rng p.val.num ∧
        D i = .agg [.lit (.string p.name), .agg [.lit (.int .i64 p.val.kind), .lit (.int .i64 p.val.num), .lit (.string p.val.str)]] := by
      intro i hi
      obtain ⟨cs', h1, h2⟩ := hall i (by omega)
      obtain ⟨nm, st, k, mm, rfl, hD, hr⟩ := open_prop h2
      simp only [Prod.mk.injEq] at hD
      obtain ⟨_, _, hcell⟩ := World.cells?_some h1
      have c0 := hcell 0 (by decide)
      have c1 := hcell 1 (by decide)
      have c2 := hcell 2 (by decide)
      have c3 := hcell 3 (by decide)
      rw [add_add] at c0 c1 c2 c3
      exact ⟨⟨nm.data.toList, ⟨k, mm, st.data.toList⟩⟩, ⟨c0, c1, c2, c3⟩, hr, hD.1⟩
    have inh : Inhabited Pr := ⟨⟨[], nV⟩⟩
    obtain ⟨f, hf⟩ := choose_lt each
    have hget : ∀ (k : Nat) (p : Pr), ((List.range len0).map f)[k]? = some p → k < len0 ∧ p = f k := by
      intro k p hk
      rw [List.getElem?_map] at hk
      cases hr : (List.range len0)[k]? with
      | none => rw [hr] at hk; cases hk
      | some j =>
        rw [hr] at hk
        obtain ⟨h1, h2⟩ := List.getElem?_eq_some_iff.1 hr
        rw [List.length_range] at h1
        rw [List.getElem_range] at h2
        subst h2
        exact ⟨h1, by simpa using hk.symm⟩
    have hlen : ((List.range len0).map f).length = len0 := by rw [List.length_map, List.length_range]
    have hmem : ∀ p ∈ (List.range len0).map f, ∃ k, k < len0 ∧ p = f k := by
      intro p hp
      obtain ⟨k, hk⟩ := List.getElem?_of_mem hp
      exact ⟨k, hget k p hk⟩
    have hwt := hw
    rw [DataW.weights, Tryz.underlying23] at hwt
    simp only [List.mem_cons, List.mem_append] at hwt
    refine ⟨(List.range len0).map f, ?_, ⟨?_, ?_, ?_⟩⟩
    · cases len0 with
      | zero => exact .inl ⟨rfl, some a, _, rfl⟩
      | succ l =>
        right
        obtain ⟨b, off, spot⟩ := a
        have hs : spot = none := by
          have := World.cell?_spot (hf 0 (by omega)).1.1
          simpa [Addr.add] using this
        subst hs
        have hadd : ∀ j, (⟨b, off, none⟩ : Addr).add j = ⟨b, off + j, none⟩ := by intro j; simp [Addr.add]
        refine ⟨b, off, _, by rw [hlen], by rw [hlen]; exact hl, ?_, ?_⟩
        · intro k p hk
          obtain ⟨hk1, rfl⟩ := hget k p hk
          obtain ⟨⟨c0, c1, c2, c3⟩, _, _⟩ := hf k hk1
          rw [hadd] at c0 c1 c2 c3
          exact ⟨c0, c1, c2, c3⟩
        · have := (hf 0 (by omega)).1.1
          rw [hadd] at this
          exact block_lt_of_cell this
    · intro p hp
      obtain ⟨k, hk, rfl⟩ := hmem p hp
      have hD := (hf k hk).2.2
      have hin : D k ∈ (List.range len0).map D := List.mem_map.2 ⟨k, List.mem_range.2 hk, rfl⟩
      have h2 := fun n hn => hwt n (.inr (.inl (vm0 hin n hn)))
      rw [hD, jc3] at h2
      have e1 := h2 _ (by simp : (f k).name.length ∈ [(f k).name.length, (f k).val.str.length])
      have e2 := h2 _ (by simp : (f k).val.str.length ∈ [(f k).name.length, (f k).val.str.length])
      unfold reachBytes at e1 e2
      exact ⟨by omega, by omega⟩
    · intro p hp
      obtain ⟨k, hk, rfl⟩ := hmem p hp
      exact (hf k hk).2.1
    · have := hwt _ (.inl rfl)
      rw [bytesProp, List.length_map, List.length_range] at this
      rw [hlen]
      unfold reachBytes at this
      omega
end
end
end Go.Proofs.YtfkcaldjphakpabGreatDoor
