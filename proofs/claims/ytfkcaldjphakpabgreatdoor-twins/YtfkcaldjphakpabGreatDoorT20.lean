/- value.Like; join: IN and LIKE. join: IN and LIKE. The reader of programs: text. The reader of programs: term. -/
import Derived.Test.YtfkcaldjphakpabGreatDoorT12
import Derived.Test.YtfkcaldjphakpabGreatDoorT19
import Derived.Deep.RegionWith
import Derived.Test.YtfkcaldjphakpabGreatDoorT33
namespace Go.Proofs.YtfkcaldjphakpabGreatDoor
open Go.RowKit
section
set_option maxHeartbeats 1000000 in
theorem jb8 (x : V) (pat esc : ByteArray) (hp : pat.size ≤ 200) (hx : x.str.length ≤ 1000) (w : World) :
    Calls Tryz.prog 105 #[vV x, .string pat, .string esc] w fun e w' => e = .returned (vV (vn4 x pat.data.toList esc.data.toList)) ∧ Below w.heap.size w w' := by
  unfold vn4
  have FIT := v6 (fun w => fits_any pat esc (BS x.str) hp (by rw [qc0]; exact hx) w)
  cases hk : (x.kind == 3)
  · have hk' : (x.kind != 3) = true := by simp only [bne, hk]; rfl
    simp only [Bool.false_eq_true, if_false]
    conv => arg 3; simp only [vV]
    go_enter Tryz.func105, Tryz.ntmps105
    go_wp2_with (go_at_call 146; refine (qc7 _).mono ?_; rintro e w' ⟨rfl, hb⟩; obtain ⟨hc, hf⟩ := j5 hb; simp only [vV])
    refine bodyPost_ret (by simp [results, Tryz.results105, go_sem, hc] <;> rfl) rfl ⟨rfl, ?_⟩
    exact ((((v7 (qg3 _ _ _) hb).setCell (by simp) _).setCell (by simp) _).setCell (by simp) _)
  · have hk' : (x.kind != 3) = false := by simp only [bne, hk]; rfl
    simp only [if_true]
    obtain ⟨r, hr⟩ : ∃ r, fitsB pat.data.toList esc.data.toList x.str = r := ⟨_, rfl⟩
    have HR : Hid (fitsB pat.data.toList esc.data.toList (BS x.str).data.toList = r) := v6 (by rw [qp9]; exact hr)
    rw [hr]
    clear hr
    conv => arg 3; simp only [vV]
    go_enter Tryz.func105, Tryz.ntmps105
    go_wp2_with (first | (go_at_call 147; refine (q9 FIT _).mono ?_; rw [q9 HR]; rintro e w1 ⟨rfl, hb1⟩; have hz1 : w.heap.size + 1 < w1.heap.size := (by have := hb1.size; simp at this; omega); have g0 : w1.cell? ⟨w.heap.size + 1, 0, none⟩ = some (.int .i64 0) := ((j5 hb1).1 _ 0 (by simp)).trans (by simp); have g1 : w1.cell? ⟨w.heap.size + 1, 1, none⟩ = some (.int .i64 0) := ((j5 hb1).1 _ 1 (by simp)).trans (by simp); have g2 : w1.cell? ⟨w.heap.size + 1, 2, none⟩ = some (.string ⟨#[]⟩) := ((j5 hb1).1 _ 2 (by simp)).trans (by simp); have z1 : ∀ j, w1.frozen? ⟨w.heap.size + 1, j, none⟩ = false := (fun j => ((j5 hb1).2 _ j (by simp)).trans (by simp)); have hB1 := v6 (v7 (qg3 _ _ _) hb1); clear hb1) | (go_at_call 70; refine (qf5 r _).mono ?_; rintro e w2 ⟨rfl, hb2⟩; have k0 : w2.cell? ⟨w.heap.size + 1, 0, none⟩ = some (.int .i64 0) := ((j5 hb2).1 _ 0 hz1).trans g0; have k1 : w2.cell? ⟨w.heap.size + 1, 1, none⟩ = some (.int .i64 0) := ((j5 hb2).1 _ 1 hz1).trans g1; have k2 : w2.cell? ⟨w.heap.size + 1, 2, none⟩ = some (.string ⟨#[]⟩) := ((j5 hb2).1 _ 2 hz1).trans g2; have z2 : ∀ j, w2.frozen? ⟨w.heap.size + 1, j, none⟩ = false := (fun j => ((j5 hb2).2 _ j hz1).trans (z1 j)); have hB2 := v6 (v7 (q9 hB1) hb2); clear hb2; simp only [vV]))
    refine bodyPost_ret (by simp [results, Tryz.results105, go_sem, k0, k1, k2] <;> rfl) rfl ⟨rfl, ?_⟩
    exact (((q9 hB2).setCell (by simp) _).setCell (by simp) _).setCell (by simp) _
end
section
set_option maxHeartbeats 1000000 in
set_option maxRecDepth 100000 in
theorem joinN_21 (lo : Nat) (t : Ast) (h21 : (y7 t).op = 21) (hB : (y7 t).texts.length ≤ 1000) : vg9 lo t := by
  intro w b x y z _ _ _ _ h
  have hr : qs6 (y7 t) x y z = vx2 x (y7 t).texts := by rw [qs6, if_neg (by rw [h21]; decide), if_pos h21]
  rw [hr]
  have AMO := v6 (fun w1 (h1 : IsNode lo w1 (.pointer (some ⟨b, 0, none⟩)) t) => among_any lo t hB w1 b x h1)
  have HND := v6 h
  obtain ⟨b', sv, hb, hnode, _⟩ := h.parts
  obtain rfl : b = b' := by simpa using hb
  have c0 := hnode.c0
  have c4 := hnode.c4
  have c5 := hnode.c5
  have hbw := hnode.within
  have m1 : b < w.heap.size + 1 := by omega
  have m2 : b < w.heap.size + 1 + 1 := by omega
  have m3 : b < w.heap.size + 1 + 1 + 1 := by omega
  have d0 : ¬ w.heap.size + 1 + 1 + 1 = w.heap.size := by omega
  rw [h21] at c0
  have JA0 := v6 (vd3 w x y z)
  obtain ⟨r, hr'⟩ : ∃ r, vx2 x (y7 t).texts = r := ⟨_, rfl⟩
  rw [hr'] at AMO ⊢
  clear hr hr' hnode hb h h21 c4 c5
  conv => arg 3; simp only [vV]
  go_enter Tryz.func199, Tryz.ntmps199
  go_wp2_with (go_at_call 229; refine (q9 AMO _ ((q9 HND).kept (Kept.of_below ((qb2 _ _ _ _).alloc (by simp; omega) _)))).mono ?_; rintro e w1 ⟨rfl, hb1⟩; have JA1 := v6 ((q9 JA0).next hb1); obtain ⟨x0_1, x1_1, x2_1, y0_1, y1_1, y2_1, z0_1, z1_1, z2_1, r0_1, r1_1, r2_1, fz_1, lt_1, bel_1⟩ := q9 JA1; clear hb1; simp only [vV])
  refine bodyPost_ret (by simp [results, Tryz.results199, go_sem, r0_1, r1_1, r2_1] <;> rfl) rfl ⟨rfl, ?_⟩
  exact ((bel_1.setCell (by simp; omega) _).setCell (by simp; omega) _).setCell (by simp; omega) _
set_option maxHeartbeats 1000000 in
set_option maxRecDepth 100000 in
theorem joinN_22 (lo : Nat) (t : Ast) (h22 : (y7 t).op = 22) (hB : (y7 t).str.length ≤ 200) : vg9 lo t := by
  intro w b x y z _ _ _ hx h
  have hr : qs6 (y7 t) x y z = vn4 x (y7 t).str (y7 t).esc := by rw [qs6, if_neg (by rw [h22]; decide), if_neg (by rw [h22]; decide), if_pos h22]
  rw [hr]
  have LIK := v6 (fun w1 => jb8 x (BS (y7 t).str) (BS (y7 t).esc) (by rw [qc0]; exact hB) hx w1)
  simp only [qp9] at LIK
  obtain ⟨b', sv, hb, hnode, _⟩ := h.parts
  obtain rfl : b = b' := by simpa using hb
  have c0 := hnode.c0
  have c4 := hnode.c4
  have c5 := hnode.c5
  have hbw := hnode.within
  have m1 : b < w.heap.size + 1 := by omega
  have m2 : b < w.heap.size + 1 + 1 := by omega
  have m3 : b < w.heap.size + 1 + 1 + 1 := by omega
  have d0 : ¬ w.heap.size + 1 + 1 + 1 = w.heap.size := by omega
  rw [h22] at c0
  have JA0 := v6 (vd3 w x y z).drew
  obtain ⟨r, hr'⟩ : ∃ r, vn4 x (y7 t).str (y7 t).esc = r := ⟨_, rfl⟩
  rw [hr'] at LIK ⊢
  clear hr hr' hnode hb h h22
  conv => arg 3; simp only [vV]
  go_enter Tryz.func199, Tryz.ntmps199
  go_wp2_with fail
  go_region_with (go_at_call 105; refine (q9 LIK _).mono ?_; rintro e w1 ⟨rfl, hb1⟩; have JA1 := v6 ((q9 JA0).next hb1); obtain ⟨x0_1, x1_1, x2_1, y0_1, y1_1, y2_1, z0_1, z1_1, z2_1, r0_1, r1_1, r2_1, fz_1, lt_1, bel_1⟩ := q9 JA1; clear hb1; simp only [vV])
  all_goals go_wp2_with fail
  all_goals
    refine bodyPost_ret (by simp [results, Tryz.results199, go_sem, r0_1, r1_1, r2_1] <;> rfl) rfl ⟨rfl, ?_⟩
    exact ((bel_1.setCell (by simp; omega) _).setCell (by simp; omega) _).setCell (by simp; omega) _
end
section
def Ps.number (s : Ps) : Int × Ps := (numK (s.take 8).1 8, (s.take 8).2)
def Ps.text (s : Ps) (most : Int) : List UInt8 × Ps := (s.upTo most).2.take (s.upTo most).1
theorem Ps.upTo_le (s : Ps) (m : Int) : (s.upTo m).1 ≤ 255 := by
  rw [Ps.upTo]
  have := s.next.1.toNat_lt
  split
  · exact Nat.zero_le _
  · show s.next.1.toNat ≤ 255
    omega
theorem jr5 {w : World} {rb : Nat} {v : Value} {l : List UInt8} (h : BytesAt w rb v l) : (convert 36 9 v).run Tryz.prog w = .ok (.string (BS l)) w := by
  obtain ⟨a, c, rfl, hc, hx⟩ := h
  cases l with
  | nil =>
    cases a with
    | none => rw [show ([] : List UInt8).length = 0 from rfl, run_convert_bytes_string w 36 9 5 none 0 c Tryz.underlying36 Tryz.underlying5 Tryz.underlying9]; rfl
    | some a => exact run_convert_bytes_back (P := Tryz.prog) _ 36 9 5 a c [] Tryz.underlying36 Tryz.underlying5 Tryz.underlying9 (fun j hj => by simp at hj)
  | cons x l =>
    obtain ⟨b, o, rfl, _⟩ := hx 0 x rfl
    refine run_convert_bytes_back (P := Tryz.prog) _ 36 9 5 ⟨b, o, none⟩ c (x :: l) Tryz.underlying36 Tryz.underlying5 Tryz.underlying9 (fun j hj => ?_)
    obtain ⟨b', o', hbo, _, hcl⟩ := hx j _ (List.getElem?_eq_getElem hj)
    simp at hbo
    obtain ⟨rfl, rfl⟩ := hbo
    have ha : (⟨b, o, none⟩ : Addr).add j = ⟨b, o + j, none⟩ := by cases j <;> simp [Addr.add]
    rw [ha]; exact hcl
set_option maxHeartbeats 400000 in
theorem ptext_any (rb : Nat) (s : Ps) (m : Int) (w : World) (h : PsAt w rb s) :
    Calls Tryz.prog 101 #[.pointer (some ⟨rb, 0, none⟩), .int .i64 m] w fun e w' => e = .returned (.string (BS (s.text m).1)) ∧ PsAt w' rb (s.text m).2 ∧ Kept rb w w' := by
  have T : Hid _ := v6 (qs9 rb s m w h)
  have hle : Hid _ := v6 (s.upTo_le m)
  rw [Ps.text]
  obtain ⟨p, hp⟩ : ∃ p, s.upTo m = p := ⟨_, rfl⟩
  rw [hp] at T hle ⊢
  obtain ⟨n, s1⟩ := p
  obtain ⟨q, hq⟩ : ∃ q, s1.take n = q := ⟨_, rfl⟩
  have T2 : Hid (∀ w1, PsAt w1 rb s1 → Calls Tryz.prog 145 #[.pointer (some ⟨rb, 0, none⟩), .int .i64 n] w1 fun e w' => ∃ v, e = .returned v ∧ BytesAt w' w'.heap.size v q.1 ∧ PsAt w' rb q.2 ∧ Kept rb w1 w') := v6 (by rw [← hq]; exact fun w1 h1 => vj4 rb s1 n w1 h1 (q9 hle))
  clear h hp hle
  show Calls _ _ _ _ fun e w' => e = .returned (.string (BS (s1.take n).1)) ∧ PsAt w' rb (s1.take n).2 ∧ Kept rb w w'
  rw [hq]
  clear hq
  go_enter Tryz.func101, Tryz.ntmps101
  go_wp2_with (first | (go_at_call 67; refine (q9 T).mono ?_; rintro e w1 ⟨rfl, hr1, hk1⟩; have hr1 := v6 hr1) | (go_at_call 145; refine (q9 T2 _ (q9 hr1)).mono ?_; rintro e w2 ⟨v, rfl, hb2, hr2, hk2⟩; have hr2 := v6 hr2; have hcv := jr5 hb2; obtain ⟨a, c, rfl, hb2⟩ := hb2; clear hb2))
  go_ret
  exact ⟨rfl, q9 hr2, hk1.trans hk2⟩
end
section
structure Tm where
  op : Nat
  left : Nat
  right : Nat
  num : Int
  str : List UInt8
  esc : List UInt8
def Tm.bare (op : Nat) : Tm := ⟨op, 0, 0, 0, [], []⟩
def qq8 (t : Tm) : List Value := [.int .i64 t.op, .int .i64 t.left, .int .i64 t.right, .int .i64 t.num, .string (BS t.str), .string (BS t.esc)]
def tmV (t : Tm) : Value := .agg #[.int .i64 t.op, .int .i64 t.left, .int .i64 t.right, .int .i64 t.num, .string (BS t.str), .string (BS t.esc)]
def qy8 (op : Nat) : Bool := op == 6 || op == 7 || op == 8 || op == 10 || op == 11 || op == 16 || op == 17 || op == 18 || op == 19
def Ps.body (s : Ps) (pl : Nat) (op : Nat) : Tm × Ps :=
  if op = 3 ∨ op = 4 then (.bare op, s)
  else if op = 1 then (⟨op, 0, 0, s.number.1, [], []⟩, s.number.2)
  else if op = 22 then (⟨op, (s.upTo ((pl : Int) - 1)).1, 0, 0, (((s.upTo ((pl : Int) - 1)).2.text 1).2.text 200).1, ((s.upTo ((pl : Int) - 1)).2.text 1).1⟩, (((s.upTo ((pl : Int) - 1)).2.text 1).2.text 200).2)
  else if op = 0 ∨ op = 2 then (⟨op, 0, 0, 0, (s.text 200).1, []⟩, (s.text 200).2)
  else if qy8 op then (⟨op, ((s.upTo ((pl : Int) - 1)).2.upTo ((pl : Int) - 1)).1, (s.upTo ((pl : Int) - 1)).1, 0, [], []⟩, ((s.upTo ((pl : Int) - 1)).2.upTo ((pl : Int) - 1)).2)
  else if op = 5 ∨ op = 23 then (⟨op, (s.upTo ((pl : Int) - 1)).1, 0, 0, [], []⟩, (s.upTo ((pl : Int) - 1)).2)
  else (.bare op, failS)
def Ps.term (s : Ps) (pl : Nat) : Tm × Ps := s.next.2.body pl s.next.1.toNat
structure TmAt (w : World) (b : Nat) (t : Tm) : Prop where
  lt : b < w.heap.size
  c0 : w.cell? ⟨b, 0, none⟩ = some (.int .i64 t.op)
  c1 : w.cell? ⟨b, 1, none⟩ = some (.int .i64 t.left)
  c2 : w.cell? ⟨b, 2, none⟩ = some (.int .i64 t.right)
  c3 : w.cell? ⟨b, 3, none⟩ = some (.int .i64 t.num)
  c4 : w.cell? ⟨b, 4, none⟩ = some (.string (BS t.str))
  c5 : w.cell? ⟨b, 5, none⟩ = some (.string (BS t.esc))
  fz : ∀ j, w.frozen? ⟨b, j, none⟩ = false
theorem TmAt.same {w w' : World} {b : Nat} {t : Tm} (h : TmAt w b t) (hz : b < w'.heap.size) (hb : w'.heap[b]? = w.heap[b]?) : TmAt w' b t := by
  have hc : ∀ j, w'.cell? ⟨b, j, none⟩ = w.cell? ⟨b, j, none⟩ := fun j => World.cell?_of_block (w := w) (w' := w') (a := ⟨b, j, none⟩) hb
  have hf : ∀ j, w'.frozen? ⟨b, j, none⟩ = w.frozen? ⟨b, j, none⟩ := fun j => World.frozen?_of_block (w := w) (w' := w') (a := ⟨b, j, none⟩) hb
  exact ⟨hz, (hc 0).trans h.c0, (hc 1).trans h.c1, (hc 2).trans h.c2, (hc 3).trans h.c3, (hc 4).trans h.c4, (hc 5).trans h.c5, fun j => (hf j).trans (h.fz j)⟩
theorem TmAt.kept {w w' : World} {b rb : Nat} {t : Tm} (h : TmAt w b t) (hk : Kept rb w w') (hn : ¬ b = rb) : TmAt w' b t :=
  h.same (Nat.lt_of_lt_of_le h.lt hk.size) (hk.block b h.lt hn)
theorem TmAt.alloc {w : World} {b : Nat} {t : Tm} (h : TmAt w b t) (o : Obj) : TmAt (w.alloc o) b t :=
  h.same (by have := h.lt; simp; omega) (((Below.refl w.heap.size w).alloc (Nat.le_refl _) o).block b h.lt)
theorem TmAt.other {w : World} {b : Nat} {t : Tm} (h : TmAt w b t) {p : Addr} (hp : ¬ p.block = b) (u : Value) : TmAt (w.setCell p u) b t :=
  h.same (by have := h.lt; simp; omega) (Below.heap_setCell w p u b (by omega))
theorem TmAt.new (w : World) (n : Nat) (ty : TypeId) : TmAt (w.alloc (.cells #[.int .i64 n, .int .i64 0, .int .i64 0, .int .i64 0, .string ⟨#[]⟩, .string ⟨#[]⟩] ty)) w.heap.size (.bare n) := by
  refine ⟨by simp, ?_, ?_, ?_, ?_, ?_, ?_, fun j => ?_⟩ <;> simp [go_sem, Tm.bare] <;> rfl
theorem TmAt.right' {w : World} {b : Nat} {t : Tm} (h : TmAt w b t) (n : Nat) : TmAt (w.setCell ⟨b, 2, none⟩ (.int .i64 n)) b { t with right := n } := by
  obtain ⟨hl, c0, c1, c2, c3, c4, c5, fz⟩ := h
  exact ⟨by simp; omega, by simp [go_sem, c0], by simp [go_sem, c1], by simp [go_sem, c2], by simp [go_sem, c3], by simp [go_sem, c4], by simp [go_sem, c5], fun j => by simp [go_sem, fz]⟩
def qx3 (rb : Nat) (w : World) (r : Tm × Ps) (e : Ending) (w' : World) : Prop := e = .returned (tmV r.1) ∧ PsAt w' rb r.2 ∧ Kept rb w w'
theorem TmAt.full {w : World} {b : Nat} {t0 : Tm} (h : TmAt w b t0) (t : Tm) {v0 v1 v2 v3 v4 v5 : Value} (h0 : v0 = .int .i64 t.op) (h1 : v1 = .int .i64 t.left) (h2 : v2 = .int .i64 t.right) (h3 : v3 = .int .i64 t.num) (h4 : v4 = .string (BS t.str)) (h5 : v5 = .string (BS t.esc)) :
    TmAt ((((((w.setCell ⟨b, 0, none⟩ v0).setCell ⟨b, 1, none⟩ v1).setCell ⟨b, 2, none⟩ v2).setCell ⟨b, 3, none⟩ v3).setCell ⟨b, 4, none⟩ v4).setCell ⟨b, 5, none⟩ v5) b t := by
  subst h0 h1 h2 h3 h4 h5
  obtain ⟨hl, c0, c1, c2, c3, c4, c5, fz⟩ := h
  exact ⟨by simp; omega, by simp [go_sem, c0], by simp [go_sem, c1], by simp [go_sem, c2], by simp [go_sem, c3], by simp [go_sem, c4], by simp [go_sem, c5], fun j => by simp [go_sem, fz]⟩
theorem jw3 {W : World} {A : Nat} {t : Tm} (h : TmAt W A t) (a : Array Value) (ha : a.getD 4 undef = .pointer (some ⟨A, 0, none⟩)) : (results Tryz.f68 a).run Tryz.prog W = .ok (tmV t) W := by
  obtain ⟨hl, c0, c1, c2, c3, c4, c5, fz⟩ := h
  have ha' : a[4]?.getD undef = .pointer (some ⟨A, 0, none⟩) := by simpa using ha
  simp [results, Tryz.results68, go_sem, ha', c0, c1, c2, c3, c4, c5, tmV]
theorem vm3 {rb A : Nat} {w W : World} {t0 : Tm} {r : Tm × Ps} {a : Act} {v0 v1 v2 v3 v4 v5 : Value} (hA : TmAt W A t0) (hP : PsAt W rb r.2) (hK : Kept rb w W) (hrA : rb < A) (hwA : w.heap.size ≤ A) (ha : a.tmps.getD 4 undef = .pointer (some ⟨A, 0, none⟩)) (hd : a.defers = [])
    (h0 : v0 = .int .i64 r.1.op) (h1 : v1 = .int .i64 r.1.left) (h2 : v2 = .int .i64 r.1.right) (h3 : v3 = .int .i64 r.1.num) (h4 : v4 = .string (BS r.1.str)) (h5 : v5 = .string (BS r.1.esc)) :
    bodyPost Tryz.prog Tryz.f68 (qx3 rb w r) Exit.ret a ((((((W.setCell ⟨A, 0, none⟩ v0).setCell ⟨A, 1, none⟩ v1).setCell ⟨A, 2, none⟩ v2).setCell ⟨A, 3, none⟩ v3).setCell ⟨A, 4, none⟩ v4).setCell ⟨A, 5, none⟩ v5) :=
  bodyPost_ret (jw3 (hA.full r.1 h0 h1 h2 h3 h4 h5) _ ha) hd ⟨rfl, ((((((hP.later hrA _).later hrA _).later hrA _).later hrA _).later hrA _).later hrA _), ((((((hK.later hwA _).later hwA _).later hwA _).later hwA _).later hwA _).later hwA _)⟩
end
end Go.Proofs.YtfkcaldjphakpabGreatDoor
