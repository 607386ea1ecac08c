/- The cores of what is read may be put into a program. sieve.Run of any bytes and any event. Served: the messages that wait, by themselves; pick. runs: a small program is made and run. -/
import Derived.Test.YtfkcaldjphakpabGreatDoorT24
import Derived.Test.YtfkcaldjphakpabGreatDoorT23
import Derived.Test.YtfkcaldjphakpabGreatDoorT22
import Derived.Test.YtfkcaldjphakpabGreatDoorT30
import Derived.Test.YtfkcaldjphakpabGreatDoorT43
import Derived.Test.YtfkcaldjphakpabGreatDoorT28
import Derived.Test.YtfkcaldjphakpabGreatDoorT29
namespace Go.Proofs.YtfkcaldjphakpabGreatDoor
open Go.RowKit
section
def FldP (p : CP) : Prop := (0 ≤ p.op ∧ p.op ≤ 23) ∧ Rng p.num ∧ p.str.length ≤ 200 ∧ p.esc.length ≤ 1
def vg0 : Co → Prop
  | .leaf p => FldP p
  | .un p x => FldP p ∧ vg0 x
  | .bin p x y => FldP p ∧ vg0 x ∧ vg0 y
theorem qq2 {op : Int} (h : 0 ≤ op ∧ op ≤ 23) : FldP (qb0 op) := ⟨h, rng0, Nat.zero_le _, Nat.zero_le _⟩
theorem qf1 {op : Int} (ho : 0 ≤ op ∧ op ≤ 23) {x y : Co} (hx : vg0 x) (hy : vg0 y) : vg0 (z7 op x y) := by
  unfold z7
  split
  · exact ⟨qq2 ho, hy, hx⟩
  · exact ⟨qq2 ho, hx, hy⟩
theorem fld_not : ∀ {c : Co}, vg0 c → vg0 (qh2 c) := by
  intro c
  induction c with
  | leaf p =>
    intro h
    unfold qh2
    split
    · exact qq2 (by decide)
    · split
      · exact qq2 (by decide)
      · exact ⟨qq2 (by decide), h⟩
  | un p x ih =>
    intro h
    unfold qh2
    split
    · exact h.2
    · exact ⟨qq2 (by decide), h⟩
  | bin p x y ihx ihy =>
    intro h
    unfold qh2
    split
    · exact qf1 (by decide) (ihx h.2.1) (ihy h.2.2)
    · split
      · exact qf1 (by decide) (ihx h.2.1) (ihy h.2.2)
      · split
        · exact qf1 (by decide) h.2.2 h.2.1
        · split
          · exact qf1 (by decide) h.2.2 h.2.1
          · exact ⟨qq2 (by decide), h⟩
theorem jm4 {t : List UInt8} (h : t.length ≤ 200) : vg0 (qp2 t) := ⟨(by show (0 : Int) ≤ 2 ∧ (2 : Int) ≤ 23; decide), rng0, h, Nat.zero_le _⟩
theorem fld_num {n : Int} (h : Rng n) : vg0 (vn6 n) := ⟨(by show (0 : Int) ≤ 1 ∧ (1 : Int) ≤ 23; decide), h, Nat.zero_le _, Nat.zero_le _⟩
theorem fld_orAll {x : Co} (hx : vg0 x) : ∀ (r : List (List UInt8)) (f : Co), vg0 f → (∀ t ∈ r, t.length ≤ 200) → vg0 (qw2 x f r) := by
  intro r
  induction r with
  | nil => intro f hf _; exact hf
  | cons t r ih =>
    intro f hf h
    exact ih _ (qf1 (by decide) hf (qf1 (by decide) hx (jm4 (h t List.mem_cons_self)))) fun u hu => h u (List.mem_cons_of_mem _ hu)
theorem fld_among {x : Co} (hx : vg0 x) {ts : List (List UInt8)} (h : ∀ t ∈ ts, t.length ≤ 200) : vg0 (qu7 x ts) := by
  have hm : ∀ u ∈ qq9 ts, u.length ≤ 200 := fun u hu => h u (vk9 hu)
  unfold qu7
  cases hs : qq9 ts with
  | nil => exact hx
  | cons t r =>
    rw [hs] at hm
    exact fld_orAll hx r _ (qf1 (by decide) hx (jm4 (hm t List.mem_cons_self))) fun u hu => hm u (List.mem_cons_of_mem _ hu)
theorem fld_core : ∀ t, ShA t → vf5 t → vf2 t → BqA t → vg0 (j6 t) := by
  intro t
  induction t with
  | leaf p => intro h0 h1 h2 h3; exact ⟨⟨h0.1, by have := h0.2; show p.op ≤ 23; omega⟩, h1, h2.1, h3.1⟩
  | un p x ih =>
    intro h0 h1 h2 h3
    have hx := ih h0.2.2.2 h1.2 h2.2 h3.2
    rw [j6]
    split
    · exact qf1 (by decide) (fld_num rng0) hx
    · split
      · exact qf1 (by decide) (fld_num rng0) hx
      · split
        · exact fld_not hx
        · split
          · exact fld_among hx h3.1.2
          · exact ⟨⟨by have := h0.1; show 0 ≤ p.op ∧ p.op ≤ 23; omega, h1.1, h2.1.1, h3.1.1⟩, hx⟩
  | bin p x y ihx ihy =>
    intro h0 h1 h2 h3
    have hx := ihx h0.2.1 h1.2.1 h2.2.1 h3.2.1
    have hy := ihy h0.2.2 h1.2.2 h2.2.2 h3.2.2
    rw [j6]
    split
    · exact qf1 (by decide) hy hx
    · split
      · exact qf1 (by decide) hy hx
      · split
        · exact fld_not (qf1 (by decide) hx hy)
        · exact qf1 (by have := h0.1; omega) hx hy
  | tri p x y z ihx ihy ihz =>
    intro h0 h1 h2 h3
    have hx := ihx h0.2.1 h1.2.1 h2.2.1 h3.2.1
    have hy := ihy h0.2.2.1 h1.2.2.1 h2.2.2.1 h3.2.2.1
    have hz := ihz h0.2.2.2 h1.2.2.2 h2.2.2.2 h3.2.2.2
    exact qf1 (by decide) (qf1 (by decide) hy hx) (qf1 (by decide) hx hz)
theorem good_fld : ∀ {c : Co}, vg0 c → vf3 c := by
  have hp : ∀ {p : CP}, FldP p → GoodP p := fun h => ⟨h.1, h.2.1, by have := h.2.2.1; omega, by have := h.2.2.2; omega⟩
  intro c
  induction c with
  | leaf p => exact fun h => hp h
  | un p x ih => exact fun h => ⟨hp h.1, ih h.2⟩
  | bin p x y ihx ihy => exact fun h => ⟨hp h.1, ihx h.2.1, ihy h.2.2⟩
theorem jx6 : ∀ {c : Co}, WfC c → qs1 c ≤ 2 * (z8 c).length + 1 := by
  intro c
  induction c with
  | leaf p => intro _; show 1 ≤ _; omega
  | un p x ih =>
    intro h
    have hx := ih h.2
    have hl : (z8 x).length + 1 ≤ (z8 (.un p x)).length := by
      show _ ≤ (y6 p (z8 x) []).length
      have hu := h.1
      unfold unB at hu
      simp only [Bool.or_eq_true, beq_iff_eq] at hu
      unfold y6
      rcases hu with (hu | hu) | hu <;> rw [hu] <;> simp <;> omega
    show qs1 x + 1 ≤ _
    omega
  | bin p x y ihx ihy =>
    intro h
    have hx := ihx h.2.1
    have hy := ihy h.2.2
    have hl := qu4 h.1 x y
    show qs1 x + qs1 y + 1 ≤ _
    omega
structure CoreOk (c : Co) : Prop where
  fld : vg0 c
  wf : WfC c
  size : qs1 c ≤ 250000000
theorem core_ok {s : ByteArray} {t : Ast} (h : qm5 s = .ok t) : CoreOk (j6 t) := by
  obtain ⟨h1, h2, h3, h4, h5, h6⟩ := vq0 h
  refine ⟨fld_core t h3 h4 h5 h6, h1.gd.wf, ?_⟩
  have h7 := jx6 h1.gd.wf
  have h8 := h1.gd.len
  have h9 : ndA t * ndA t ≤ 200 * 200 := Nat.mul_le_mul h2 h2
  omega
def FitsL (ts : List Tm) : Prop := ∀ i t, ts[i]? = some t → FitsT i t
theorem vt5 {ts : List Tm} (h : FitsL ts) {t : Tm} (ht : FitsT ts.length t) : FitsL (vc7 ts t).1 := by
  unfold vc7
  cases hw : qh8 ts t with
  | some i => exact h
  | none =>
    intro i x hi
    by_cases hl : i < ts.length
    · rw [List.getElem?_append_left hl] at hi
      exact h i x hi
    · have e : i = ts.length := by
        have := (List.getElem?_eq_some_iff.1 hi).1
        simp at this
        omega
      subst e
      simp at hi
      subst hi
      exact ht
theorem jf0 {p : CP} (h : FldP p) {n l r : Nat} (hs : 5 ≤ p.op → l < n ∧ r < n) : FitsT n (qy3 p l r) := by
  obtain ⟨⟨o1, o2⟩, h1, h2, h3⟩ := h
  refine ⟨by show p.op.toNat ≤ 23; omega, h1, h2, h3, fun h5 => hs ?_⟩
  have h5' : 5 ≤ p.op.toNat := h5
  omega
theorem js7 : ∀ (c : Co) (ts : List Tm), vg0 c → WfC c → FitsL ts → FitsL (j9 ts c).1 := by
  intro c
  induction c with
  | leaf p =>
    intro ts hf hw h
    refine vt5 h (jf0 hf fun h5 => ?_)
    have hl : qi3 p.op = true := hw
    unfold qi3 at hl
    simp only [Bool.or_eq_true, beq_iff_eq] at hl
    omega
  | un p x ih =>
    intro ts hf hw h
    have h1 := ih ts hf.2 hw.2 h
    have hlt := (qp7 ts x).2.2
    exact vt5 h1 (jf0 hf.1 fun _ => ⟨hlt, by omega⟩)
  | bin p x y ihx ihy =>
    intro ts hf hw h
    have h1 := ihx ts hf.2.1 hw.2.1 h
    have h2 := ihy (j9 ts x).1 hf.2.2 hw.2.2 h1
    have l1 := qp7 ts x
    have l2 := qp7 (j9 ts x).1 y
    exact vt5 h2 (jf0 hf.1 fun _ => ⟨by omega, l2.2.2⟩)
end
section
def runR (code : List UInt8) (ps : List Pr) : List Nat × Int :=
  if ve6 ps then (if (qu1 code).2.2 then (metR ps (qu1 code).1 (qu1 code).2.1, 0) else ([], 9)) else ([], 7)
theorem BytesAt.below {w w' : World} {v : Value} {l : List UInt8} (h : BytesAt w w.heap.size v l) (hb : Below w.heap.size w w') : BytesAt w' w'.heap.size v l := by
  obtain ⟨a, c, hv, hc, hx⟩ := h
  refine ⟨a, c, hv, hc, fun i x hi => ?_⟩
  obtain ⟨b, o, ha, hbl, hcell⟩ := hx i x hi
  exact ⟨b, o, ha, Nat.lt_of_lt_of_le hbl hb.size, (hb.cell (p := ⟨b, o + i, none⟩) hbl).trans hcell⟩
def SrEnds (w : World) (r : List Nat × Int) (e : Ending) (w' : World) : Prop := ∃ v, e = .returned (.tuple #[v, .int .i64 r.2]) ∧ IsAt w' w.heap.size v r.1 ∧ Below w.heap.size w w'
set_option maxHeartbeats 800000 in
theorem srun_ok (code : List UInt8) (hT : ∀ k, k < (vk0 code).1 → vw8 (qd8 (vb2 code).2 k).2 k) (cv : Value) (ps : List Pr) (ev : Value) (w : World) (h : BytesAt w w.heap.size cv code) (hev : EvIn w ev ps) (hg : EvGood ps) :
    Calls Tryz.prog 14 #[cv, ev] w (SrEnds w (runR code ps)) := by
  have HV := v6 (vc4 hev hg)
  obtain ⟨a, c, rfl, _⟩ : ∃ a c, cv = .slice a code.length c ∧ True := by obtain ⟨a, c, h1, _⟩ := h; exact ⟨a, c, h1, trivial⟩
  have HB := v6 h
  have HE := v6 hev
  obtain ⟨ea, en, ec, rfl⟩ := hev.slice
  cases hok : ve6 ps with
  | false =>
    have hR : runR code ps = ([], 7) := by rw [runR, hok]; rfl
    rw [hR]
    rw [hok] at HV
    clear hok hR
    go_enter Tryz.func14, Tryz.ntmps14
    go_wp2_with (go_at_call 40; refine (q9 HV).mono ?_; rintro e w1 ⟨rfl, hb1⟩)
    go_ret2
    exact ⟨_, rfl, IsAt.nil _ _, hb1⟩
  | true =>
    rw [hok] at HV
    have H8 := evOk_8 hok
    have HSH := v6 (vt3 hok)
    have HRG := v6 hg.rng
    have RD : Hid (∀ w1, Below w.heap.size w w1 → Calls Tryz.prog 41 #[.slice a code.length c] w1 (vr8 w1 (qu1 code))) := v6 fun w1 hb => pread_ok code hT _ w1 ((q9 HB).below hb)
    cases hP : (qu1 code).2.2 with
    | false =>
      have hR : runR code ps = ([], 9) := by rw [runR, hok, hP]; rfl
      rw [hR]
      unfold vr8 at RD
      rw [hP] at RD
      clear hok hR hP
      go_enter Tryz.func14, Tryz.ntmps14
      go_wp2_with (first | (go_at_call 40; refine (q9 HV).mono ?_; rintro e w1 ⟨rfl, hb1⟩; have hb1 := v6 hb1) | (go_at_call 41; refine (q9 RD _ (q9 hb1)).mono ?_; rintro e w2 ⟨pb, rfl, hp2, hb2⟩; have hp2 := v6 hp2; have hb2 := v6 hb2))
      go_ret2
      exact ⟨_, rfl, IsAt.nil _ _, v7 (q9 hb1) (q9 hb2)⟩
    | true =>
      have hR : runR code ps = (metR ps (qu1 code).1 (qu1 code).2.1, 0) := by rw [runR, hok, hP]; rfl
      rw [hR]
      have HF := v6 (jw1 hP)
      unfold vr8 at RD
      rw [hP] at RD
      generalize (qu1 code).1 = ts at *
      generalize (qu1 code).2.1 = rs at *
      clear hok hR hP
      obtain ⟨R, hR⟩ : ∃ R, metR ps ts rs = R := ⟨_, rfl⟩
      have PR : Hid (∀ w1 pb, EvArg w1 (.slice ea en ec) ps → ProgAt w1 pb 0 ts rs → Calls Tryz.prog 42 #[.pointer (some ⟨pb, 0, none⟩), .slice ea en ec] w1 (RunEnds w1 R)) := v6 fun w1 pb h1 h2 => hR ▸ jn4 ps _ pb 0 ts rs w1 h2 (q9 HF) h1 (q9 HRG) (q9 HSH)
      rw [hR]
      clear hR
      go_enter Tryz.func14, Tryz.ntmps14
      go_wp2_with (first | (go_at_call 40; refine (q9 HV).mono ?_; rintro e w1 ⟨rfl, hb1⟩; have hb1 := v6 hb1) | (go_at_call 41; refine (q9 RD _ (q9 hb1)).mono ?_; rintro e w2 ⟨pb, rfl, hp2, hb2⟩; have hp2 := v6 hp2; have hb2 := v6 hb2) | (go_at_call 42; refine (q9 PR _ _ (((q9 HE).below (v7 (q9 hb1) (q9 hb2))).arg H8) (q9 hp2)).mono ?_; rintro e w3 ⟨v, rfl, hi3, hb3⟩; have hi3 := v6 hi3; have hb3 := v6 hb3))
      go_ret2
      exact ⟨_, rfl, IsAt.mono (q9 hi3) (Nat.le_trans (q9 hb1).size (q9 hb2).size), v7 (v7 (q9 hb1) (q9 hb2)) (q9 hb3)⟩
end
section
def jv5 (c n : Int) : Int := if c < 0 then -(c + 1).tmod n else c % n
set_option maxHeartbeats 400000 in
theorem pick_any (c n : Int) (hc : Rng c) (hn : 0 < n) (w : World) : Calls Tryz.prog 21 #[.int .i64 c, .int .i64 n] w fun e w' => e = .returned (.int .i64 (jv5 c n)) ∧ w' = w := by
  have h1 := hc.1
  have h2 := hc.2
  unfold jv5
  have hn0 : n ≠ 0 := by omega
  by_cases h : c < 0
  · rw [if_pos h]
    have hd : decide (c < 0) = true := decide_eq_true h
    have w1 : IntKind.i64.wrap (c + 1) = c + 1 := by rw [IntKind.wrap_i64]; omega
    have w2 : IntKind.i64.wrap (-(c + 1)) = -(c + 1) := by rw [IntKind.wrap_i64]; omega
    go_enter Tryz.func21, Tryz.ntmps21
    go_wp2_with fail
    go_ret
    exact ⟨rfl, rfl⟩
  · rw [if_neg h]
    have hd : decide (c < 0) = false := decide_eq_false h
    go_enter Tryz.func21, Tryz.ntmps21
    go_wp2_with fail
    go_ret
    exact ⟨rfl, rfl⟩
end
section
def jj2 : List UInt8 := [97, 32, 62, 32, 53]
def jj1 : List UInt8 := [97, 32, 62, 32, 52]
def gtA (n : Int) : Ast := .bin ⟨12, 2, 0, [], [], []⟩ (.leaf ⟨0, 0, 0, [97], [], []⟩) (.leaf ⟨1, 4, n, [], [], []⟩)
def gtC (n : Int) : Co := .bin ⟨10, 0, [], []⟩ (.leaf ⟨1, n, [], []⟩) (.leaf ⟨0, 0, [97], []⟩)
set_option maxRecDepth 100000 in
theorem read5 : qm5 (BS jj2) = .ok (gtA 5) := by kernel_rfl
set_option maxRecDepth 100000 in
theorem read4 : qm5 (BS jj1) = .ok (gtA 4) := by kernel_rfl
theorem core5 : j6 (gtA 5) = gtC 5 := by kernel_rfl
theorem core4 : j6 (gtA 4) = gtC 4 := by kernel_rfl
theorem notIn (n : Int) : ¬ vf4 (gtA n) := by simp [gtA, vf4]
theorem jm5 (n : Int) (h : Rng n) : vf3 (gtC n) :=
  ⟨⟨⟨by decide, by decide⟩, rng0, by decide, by decide⟩, ⟨⟨by show (0 : Int) ≤ 1; decide, by show (1 : Int) ≤ 23; decide⟩, h, Nat.zero_le _, Nat.zero_le _⟩, ⟨⟨by decide, by decide⟩, rng0, by decide, by decide⟩⟩
def twoT : List (List UInt8) := [jj2, jj1]
def twoC : List Co := [gtC 5, gtC 4]
def twoTm : List Tm := [⟨1, 0, 0, 5, [], []⟩, ⟨0, 0, 0, 0, [97], []⟩, ⟨10, 0, 1, 0, [], []⟩, ⟨1, 0, 0, 4, [], []⟩, ⟨10, 3, 1, 0, [], []⟩]
theorem add2 : qh0 twoC 2 = (twoTm, [2, 4]) := by kernel_rfl
theorem add1 : (qh0 twoC 1).1.length = 3 := by kernel_rfl
def twoB : List UInt8 := jk2 twoTm [2, 4]
set_option maxRecDepth 100000 in
theorem run2 : runR twoB evs = ([1], 0) := by kernel_rfl
set_option maxRecDepth 100000 in
theorem two_ops : (vk0 twoB).1 = 5 ∧ (List.range 5).all (fun k => (qd8 (vb2 twoB).2 k).2.next.1.toNat == 0 || (qd8 (vb2 twoB).2 k).2.next.1.toNat == 1 || (qd8 (vb2 twoB).2 k).2.next.1.toNat == 10) = true := ⟨by kernel_rfl, by kernel_rfl⟩
theorem two_terms : ∀ k, k < (vk0 twoB).1 → vw8 (qd8 (vb2 twoB).2 k).2 k := by
  intro k hk
  rw [two_ops.1] at hk
  have h := List.all_eq_true.1 two_ops.2 k (List.mem_range.2 hk)
  simp only [Bool.or_eq_true, beq_iff_eq] at h
  exact jb2 _ k (by omega) (by rcases h with (h | h) | h; exact .inl h; exact .inr (.inl h); exact .inr (.inr h))
theorem OB.bytes {w : World} {base : Nat} {v : Value} {l : List UInt8} (h : OB w base v l) : BytesAt w w.heap.size v l := by
  have h0 := h
  rcases h.2 with ⟨rfl, hn⟩ | ⟨g, cap, cur, rfl, hbg, hgg, hcap, _⟩
  · refine ⟨none, 0, by rw [hn], by omega, fun i x hi => ?_⟩
    have := (List.getElem?_eq_some_iff.1 hi).1
    omega
  · refine ⟨_, cap, rfl, hcap, fun i x hi => ⟨g, 0, rfl, (Array.getElem?_eq_some_iff.1 hgg).1, ?_⟩⟩
    have := World.ownsRow.cells h0 (g := g) rfl i (.int .u8 (x.toNat : Int)) (by simp [qr6, hi])
    have hadd : (⟨g, 0, none⟩ : Addr).add i = ⟨g, i, none⟩ := by unfold Addr.add; split <;> simp_all
    rw [hadd] at this
    rw [Nat.zero_add]
    exact this
theorem jd4 (w : World) (hL : LibOk w) (sb : Nat) (hlt : sb < w.heap.size) (h0 : w.cell? ⟨sb, 0, none⟩ = some (.string (BS jj2))) (h1 : w.cell? ⟨sb, 1, none⟩ = some (.string (BS jj1))) :
    Calls Tryz.prog 13 #[.slice (some ⟨sb, 0, none⟩) 2 2] w fun e w' => ∃ v, e = .returned (.tuple #[v, .int .i64 0, .int .i64 0]) ∧ OB w' w.heap.size v twoB ∧ Below w.heap.size w w' := by
  refine jr4 twoT twoC rfl (by decide) (fun k s c hs hc => ?_) (fun k hk => ?_) (fun t ht => ?_) _ 2 w hL (fun k s hs => ?_) _ (fun v w' ho hb => ?_)
  · match k, hs, hc with
    | 0, hs, hc =>
      obtain rfl : jj2 = s := by simpa [twoT] using hs
      obtain rfl : gtC 5 = c := by simpa [twoC] using hc
      exact ⟨gtA 5, read5, core5, fun h => absurd h (notIn 5), jm5 5 ⟨by decide, by decide⟩, by decide, by decide⟩
    | 1, hs, hc =>
      obtain rfl : jj1 = s := by simpa [twoT] using hs
      obtain rfl : gtC 4 = c := by simpa [twoC] using hc
      exact ⟨gtA 4, read4, core4, fun h => absurd h (notIn 4), jm5 4 ⟨by decide, by decide⟩, by decide, by decide⟩
    | k + 2, hs, hc => simp [twoT] at hs
  · have hk2 : k ≤ 2 := hk
    match k, hk2 with
    | 0, _ => exact Nat.zero_le _
    | 1, _ => rw [add1]; decide
    | 2, _ => rw [add2]; decide
  · have ht' : t ∈ twoTm := by have := ht; rw [show twoT.length = 2 from rfl, add2] at this; exact this
    have hs : SmallT t := by
      simp only [twoTm, List.mem_cons, List.not_mem_nil, or_false] at ht'
      rcases ht' with rfl | rfl | rfl | rfl | rfl <;> exact ⟨by decide, by decide, by decide, by decide⟩
    refine ⟨hs, vw0 t hs ?_⟩
    simp only [twoTm, List.mem_cons, List.not_mem_nil, or_false] at ht'
    rcases ht' with rfl | rfl | rfl | rfl | rfl <;> decide
  · match k, hs with
    | 0, hs =>
      obtain rfl : jj2 = s := by simpa [twoT] using hs
      exact ⟨sb, 0, rfl, hlt, h0⟩
    | 1, hs =>
      obtain rfl : jj1 = s := by simpa [twoT] using hs
      exact ⟨sb, 0, rfl, hlt, h1⟩
    | k + 2, hs => simp [twoT] at hs
  · rw [show twoT.length = 2 from rfl, add2] at ho
    exact ⟨v, rfl, ho, hb⟩
set_option maxHeartbeats 1000000 in
set_option maxRecDepth 100000 in
theorem runs_any (w : World) (hL : LibOk w) : Calls Tryz.prog 26 #[] w fun e w' => e = .returned (.bool true) ∧ Below w.heap.size w w' := by
  have RD := v6 (reads_any w hL.err)
  have CT : Hid (∀ w1, Below w.heap.size w w1 → Calls Tryz.prog 13 #[.slice (some ⟨w1.heap.size, 0, none⟩) 2 2] (w1.alloc (.cells #[.string ⟨#[97, 32, 62, 32, 53]⟩, .string ⟨#[97, 32, 62, 32, 52]⟩] 9)) fun e w' => ∃ v, e = .returned (.tuple #[v, .int .i64 0, .int .i64 0]) ∧ OB w' (w1.heap.size + 1) v twoB ∧ Below w1.heap.size w1 w') := v6 (by
    intro w1 hb
    have hL1 := (hL.below hb (Nat.le_refl _)).alloc (.cells #[.string ⟨#[97, 32, 62, 32, 53]⟩, .string ⟨#[97, 32, 62, 32, 52]⟩] 9)
    refine (jd4 _ hL1 w1.heap.size (by simp) (by simp [go_sem]; rfl) (by simp [go_sem]; rfl)).mono ?_
    rintro e w' ⟨v, rfl, ho, hb'⟩
    exact ⟨v, rfl, by simpa using ho, v7 ((Below.refl _ _).alloc (Nat.le_refl _) _) hb'⟩)
  have SR : Hid (∀ (w1 : World) (cv ev : Value), BytesAt w1 w1.heap.size cv twoB → EvIn w1 ev evs → Calls Tryz.prog 14 #[cv, ev] w1 (SrEnds w1 ([1], 0))) := v6 (fun w1 cv ev h1 h2 => run2 ▸ srun_ok twoB two_terms cv evs ev w1 h1 h2 vg3)
  clear hL
  go_enter Tryz.func26, Tryz.ntmps26
  go_wp2_with (first | (go_at_call 50; refine (q9 RD).mono ?_; rintro e w1 ⟨rfl, hb1⟩; have B1 := v6 hb1; clear hb1) | (go_at_call 13; refine (q9 CT _ (q9 B1)).mono ?_; rintro e w2 ⟨v2, rfl, ho2, hb2⟩; obtain ⟨a2, c2, rfl⟩ := ho2.form; have O2 := v6 ho2.bytes; have B2 := v6 (v7 (q9 B1) hb2); clear ho2 hb2) | (go_at_call 27; refine (vk8 _).mono ?_; rintro e w3 ⟨rfl, rfl⟩; have E3 := v6 (jm2 (w := w2) (Below.refl _ _)); have B3 := v6 (v7 (q9 B2) ((Below.refl _ _).alloc (Nat.le_refl _) _ : Below w2.heap.size w2 (qc2 w2))); have O3 := v6 ((q9 O2).below ((Below.refl _ _).alloc (Nat.le_refl _) _ : Below w2.heap.size w2 (qc2 w2)))) | (go_at_call 14; refine (q9 SR _ _ _ (q9 O3) (q9 E3)).mono ?_; rintro e w4 ⟨v4, rfl, hi4, hb4⟩; obtain ⟨a4, c4, hv4, hc4⟩ := hi4.cells; obtain ⟨g, rfl, glt, t0⟩ := hc4 0 1 rfl; subst hv4; have B4 := v6 (v7 (q9 B3) hb4); clear hc4 hi4 hb4))
  go_ret
  exact ⟨rfl, q9 B4⟩
end
end Go.Proofs.YtfkcaldjphakpabGreatDoor
