/- The book with one more. does: what is done to a broker. known: what a small broker does. -/
import Derived.Test.YtfkcaldjphakpabGreatDoorT38
import Derived.Test.YtfkcaldjphakpabGreatDoorT39
namespace Go.Proofs.YtfkcaldjphakpabGreatDoor
open Go.RowKit
section
attribute [local go_sem ↓] qc8
def qf6 (l : List Lv) (x : Lv) : Nat → List Lv × Bool
  | 0 => ([], false)
  | k + 1 => match l[k]? with
    | none => qf6 l x k
    | some y => if (qf6 l x k).2 = false ∧ x.1 < y.1 then ((qf6 l x k).1 ++ [x] ++ [y], true) else ((qf6 l x k).1 ++ [y], (qf6 l x k).2)
def qx1 (l : List Lv) (x : Lv) : List Lv := if (qf6 l x l.length).2 then (qf6 l x l.length).1 else (qf6 l x l.length).1 ++ [x]
theorem jc1 (l : List Lv) (x : Lv) (k : Nat) : (qf6 l x k).1.length ≤ k + (if (qf6 l x k).2 then 1 else 0) := by
  induction k with
  | zero => simp [qf6]
  | succ k ih =>
    rw [qf6]
    cases l[k]? with
    | none => simp only; omega
    | some y =>
      simp only
      split
      · rename_i h
        rw [h.1] at ih
        simp at ih ⊢
        omega
      · simp only [List.length_append, List.length_singleton]
        omega
set_option maxHeartbeats 4000000 in
set_option maxRecDepth 100000 in
theorem with_any (l : List Lv) (hn : l.length ≤ 3000000000000) (v : Value) (base : Nat) (x : Lv) (w : World) (h : LvAt w base v l) :
    Calls Tryz.prog 29 #[v, .agg #[.int .i64 x.1, .string (BS x.2)]] w fun e w' => ∃ v', e = .returned v' ∧ LvAt w' w.heap.size v' (qx1 l x) ∧ Below w.heap.size w w' := by
  have HC : Hid (∀ k y, l[k]? = some y → ∃ g c, v = .slice (some ⟨g, 0, none⟩) l.length c ∧ g < w.heap.size ∧ w.cell? ⟨g, k * 2, none⟩ = some (.int .i64 y.1) ∧ w.cell? ⟨g, k * 2 + 1, none⟩ = some (.string (BS y.2))) := v6 fun k y hk => h.cell hk
  obtain ⟨a, c, rfl⟩ := qc5 h
  obtain ⟨n, hnl⟩ : ∃ n, l.length = n := ⟨_, rfl⟩
  have HW : Hid (qx1 l x = if (qf6 l x n).2 then (qf6 l x n).1 else (qf6 l x n).1 ++ [x]) := v6 (by unfold qx1; rw [hnl])
  rw [hnl] at HC hn ⊢
  have HN := v6 hnl
  clear h hnl
  obtain ⟨W1, hW1⟩ : ∃ W1, W1 = w.alloc (.cells #[.int .i64 x.1, .string (BS x.2)] 32) := ⟨_, rfl⟩
  have HB1 : Hid (Below w.heap.size w W1) := v6 (by rw [hW1]; exact qq0 _ _)
  have hz1 : W1.heap.size = w.heap.size + 1 := by rw [hW1]; simp
  have HX : Hid (W1.cell? ⟨w.heap.size, 0, none⟩ = some (.int .i64 x.1) ∧ W1.cell? ⟨w.heap.size, 1, none⟩ = some (.string (BS x.2))) := v6 (by rw [hW1]; simp [go_sem])
  go_enter Tryz.func29, Tryz.ntmps29
  go_wp2_with fail
  rw [← hW1]
  clear hW1
  go_loopw [5, 6, 7] (fun o d i wr => ∃ k : Nat, k ≤ n ∧ i = .int .i64 k ∧ d = .bool (qf6 l x k).2 ∧ Hid (LvAt wr W1.heap.size o (qf6 l x k).1) ∧ Hid (Below W1.heap.size W1 wr)) (fun _ _ i _ => n - (intOf i).toNat)
  case atStart => exact ⟨0, Nat.zero_le _, rfl, rfl, v6 (LvAt.nil _ _), v6 (Below.refl _ _)⟩
  case round =>
    obtain ⟨k, hk, rfl, rfl, LA, HB⟩ := hrel
    have hb := q9 HB
    have hz := hb.size
    obtain ⟨x0, x1⟩ := q9 HX
    rw [← hb.cell (p := ⟨w.heap.size, 0, none⟩) (by show w.heap.size < _; omega)] at x0
    rw [← hb.cell (p := ⟨w.heap.size, 1, none⟩) (by show w.heap.size < _; omega)] at x1
    have hwl := jc1 l x k
    have hm0 : (qf6 l x k).1.length ≤ k + 1 := by split at hwl <;> omega
    obtain ⟨oa, oc, rfl⟩ := qc5 (q9 LA)
    obtain ⟨m, hm⟩ : ∃ m, (qf6 l x k).1.length = m := ⟨_, rfl⟩
    rw [hm]
    rw [hm] at hm0
    clear hwl
    by_cases hlt : k < n
    · obtain ⟨y, hy⟩ : ∃ y, l[k]? = some y := ⟨_, List.getElem?_eq_getElem (by have := q9 HN; omega)⟩
      obtain ⟨g, c', hv, hg, e0, e1⟩ := q9 HC k y hy
      simp at hv
      obtain ⟨rfl, rfl⟩ := hv
      have hbw := v7 (q9 HB1) hb
      rw [← hbw.cell (p := ⟨g, k * 2, none⟩) hg] at e0
      rw [← hbw.cell (p := ⟨g, k * 2 + 1, none⟩) hg] at e1
      have hk0 : (0 : Int) ≤ (k : Int) := by omega
      have hk1 : (k : Int) < (n : Int) := by omega
      have LD : Hid (LvAt wr.drew W1.heap.size (.slice oa (qf6 l x k).1.length oc) (qf6 l x k).1) := v6 (v9 (q9 LA) fun _ _ => rfl)
      have hzd : wr.drew.heap.size = wr.heap.size := rfl
      have hbd : Below W1.heap.size W1 wr.drew := hb.drew
      cases hd : (qf6 l x k).2 with
      | true =>
        have hS : Hid (qf6 l x (k + 1) = ((qf6 l x k).1 ++ [y], true)) := v6 (by rw [qf6, hy]; simp only; rw [if_neg (by rw [hd]; simp), hd])
        obtain ⟨g5, cap5, w5, r5, Z5, G5, N5⟩ := LvAt.app (W' := (wr.alloc (.cells #[.int .i64 y.1, .string (BS y.2)] 32)).drew) (q9 LD) hz y (by rw [hm]; omega) 27 wr.heap.size rfl rfl
        rw [hm] at r5
        have HR : Hid (∃ k', k' ≤ n ∧ (Value.int .i64 ((k : Int) + 1)) = .int .i64 (k' : Nat) ∧ (Value.bool true) = .bool (qf6 l x k').2 ∧ Hid (LvAt w5 W1.heap.size (.slice (some ⟨g5, 0, none⟩) (m + 1) cap5) (qf6 l x k').1) ∧ Hid (Below W1.heap.size W1 w5)) := v6 ⟨k + 1, by omega, rfl, by rw [q9 hS], v6 (by rw [q9 hS, ← hm]; exact q9 Z5), v6 (hbd.grown (q9 G5) hbd.size fun j hj => ((q9 LD).lt j hj).1)⟩
        clear G5 N5 Z5 LA LD hd hS hbw hb hbd hy
        go_wp2_with fail
        go_region
        all_goals go_wp2_with fail
        all_goals exact ⟨q9 HR, by simp [intOf]; omega⟩
      | false =>
        by_cases hxy : x.1 < y.1
        · have hdx : decide (x.1 < y.1) = true := decide_eq_true hxy
          have hS : Hid (qf6 l x (k + 1) = ((qf6 l x k).1 ++ [x] ++ [y], true)) := v6 (by rw [qf6, hy]; simp only; rw [if_pos ⟨hd, hxy⟩])
          obtain ⟨g5, cap5, w5, r5, Z5, G5, N5⟩ := LvAt.app (W' := (wr.alloc (.cells #[.int .i64 x.1, .string (BS x.2)] 32)).drew) (q9 LD) hz x (by rw [hm]; omega) 27 wr.heap.size rfl rfl
          have hB5 : Below W1.heap.size W1 w5 := hbd.grown (q9 G5) hbd.size fun j hj => ((q9 LD).lt j hj).1
          have hz5 := hB5.size
          obtain ⟨g6, cap6, w6, r6, Z6, G6, N6⟩ := LvAt.app (W' := w5.alloc (.cells #[.int .i64 y.1, .string (BS y.2)] 32)) (l := (qf6 l x k).1 ++ [x]) (v := .slice (some ⟨g5, 0, none⟩) (m + 1) cap5) (by rw [← hm]; exact q9 Z5) hz5 y (by rw [List.length_append, List.length_singleton, hm]; omega) 27 w5.heap.size rfl rfl
          have hl2 : ((qf6 l x k).1 ++ [x]).length = m + 1 := by rw [List.length_append, List.length_singleton, hm]
          rw [hm] at r5
          rw [hl2] at r6 Z6
          have hbw5 := v7 (q9 HB1) hB5
          have y0 : w5.cell? ⟨g, k * 2, none⟩ = some (.int .i64 y.1) := by rw [hbw5.cell (p := ⟨g, k * 2, none⟩) hg, ← hbw.cell (p := ⟨g, k * 2, none⟩) hg]; exact e0
          have y1 : w5.cell? ⟨g, k * 2 + 1, none⟩ = some (.string (BS y.2)) := by rw [hbw5.cell (p := ⟨g, k * 2 + 1, none⟩) hg, ← hbw.cell (p := ⟨g, k * 2 + 1, none⟩) hg]; exact e1
          have HR : Hid (∃ k', k' ≤ n ∧ (Value.int .i64 ((k : Int) + 1)) = .int .i64 (k' : Nat) ∧ (Value.bool true) = .bool (qf6 l x k').2 ∧ Hid (LvAt w6 W1.heap.size (.slice (some ⟨g6, 0, none⟩) (m + 1 + 1) cap6) (qf6 l x k').1) ∧ Hid (Below W1.heap.size W1 w6)) := v6 ⟨k + 1, by omega, rfl, by rw [q9 hS], v6 (by rw [q9 hS]; exact q9 Z6), v6 (hB5.grown (q9 G6) hB5.size fun j hj => by
            have e : g5 = j := by simpa [Value.ownBlock] using hj
            have := ((q9 Z5).lt g5 rfl).1
            omega)⟩
          clear G5 N5 Z5 G6 N6 Z6 LA LD hd hS hbw hb hbd hy hB5 hbw5 hl2
          go_wp2_with fail
          go_region
          all_goals go_wp2_with fail
          all_goals exact ⟨q9 HR, by simp [intOf]; omega⟩
        · have hdx : decide (x.1 < y.1) = false := decide_eq_false hxy
          have hS : Hid (qf6 l x (k + 1) = ((qf6 l x k).1 ++ [y], false)) := v6 (by rw [qf6, hy]; simp only; rw [if_neg (fun h => hxy h.2), hd])
          obtain ⟨g5, cap5, w5, r5, Z5, G5, N5⟩ := LvAt.app (W' := (wr.alloc (.cells #[.int .i64 y.1, .string (BS y.2)] 32)).drew) (q9 LD) hz y (by rw [hm]; omega) 27 wr.heap.size rfl rfl
          rw [hm] at r5
          have HR : Hid (∃ k', k' ≤ n ∧ (Value.int .i64 ((k : Int) + 1)) = .int .i64 (k' : Nat) ∧ (Value.bool false) = .bool (qf6 l x k').2 ∧ Hid (LvAt w5 W1.heap.size (.slice (some ⟨g5, 0, none⟩) (m + 1) cap5) (qf6 l x k').1) ∧ Hid (Below W1.heap.size W1 w5)) := v6 ⟨k + 1, by omega, rfl, by rw [q9 hS], v6 (by rw [q9 hS, ← hm]; exact q9 Z5), v6 (hbd.grown (q9 G5) hbd.size fun j hj => ((q9 LD).lt j hj).1)⟩
          clear G5 N5 Z5 LA LD hd hS hbw hb hbd hy
          go_wp2_with fail
          go_region
          all_goals go_wp2_with fail
          all_goals exact ⟨q9 HR, by simp [intOf]; omega⟩
    · have hkn : k = n := by omega
      subst hkn
      have hbw := v7 (q9 HB1) hb
      cases hd : (qf6 l x k).2 with
      | true =>
        have HZ : Hid (LvAt wr w.heap.size (.slice oa m oc) (qx1 l x)) := v6 (by rw [q9 HW, hd, if_pos rfl, ← hm]; exact y9 (q9 LA) (by omega))
        have HBw := v6 hbw
        clear LA hd hb hbw
        go_wp2_with fail
        go_ret
        exact ⟨_, rfl, q9 HZ, q9 HBw⟩
      | false =>
        obtain ⟨g5, cap5, w5, r5, Z5, G5, N5⟩ := LvAt.app (q9 LA) hz x (by rw [hm]; omega) 27 wr.heap.size rfl rfl
        rw [hm] at r5
        have HZ : Hid (LvAt w5 w.heap.size (.slice (some ⟨g5, 0, none⟩) (m + 1) cap5) (qx1 l x)) := v6 (by rw [q9 HW, hd, if_neg (by simp), ← hm]; exact y9 (q9 Z5) (by omega))
        have HBw : Hid (Below w.heap.size w w5) := v6 (hbw.grown (q9 G5) hbw.size fun j hj => by have := ((q9 LA).lt j hj).1; omega)
        clear G5 N5 Z5 LA hd hb hbw
        go_wp2_with fail
        go_ret
        exact ⟨_, rfl, q9 HZ, q9 HBw⟩
end
section
attribute [local go_sem ↓] qc8
structure Sc where
  id : Int
  text : List UInt8
  fin : Bool
  ps : List Pr
  ev : Value
structure ScOk (w : World) (x : Sc) : Prop where
  text : x.text.length ≤ 140737488355328
  id : Rng x.id
  ev : EvIn w x.ev x.ps
  good : EvGood x.ps
theorem ScOk.form {w : World} {x : Sc} (h : ScOk w x) : ∃ a c, x.ev = .slice a x.ps.length c := by
  rcases h.ev with ⟨h1, a, c, h2⟩ | ⟨b, off, cap, h1, _⟩
  · rw [h1]; exact ⟨a, c, h2⟩
  · exact ⟨_, cap, h1⟩
def ScrAt (w : World) (v : Value) (l : List Sc) : Prop := ∃ a cap, v = .slice a l.length cap ∧ l.length ≤ 2600000000000 ∧ l.length ≤ cap ∧ ∀ (i : Nat) (x : Sc), l[i]? = some x → ScOk w x ∧ ∃ b off, a = some ⟨b, off, none⟩ ∧ b < w.heap.size ∧ w.cell? ⟨b, off + i * 4, none⟩ = some (.int .i64 x.id) ∧ w.cell? ⟨b, off + i * 4 + 1, none⟩ = some (.string (BS x.text)) ∧ w.cell? ⟨b, off + i * 4 + 2, none⟩ = some (.bool x.fin) ∧ w.cell? ⟨b, off + i * 4 + 3, none⟩ = some x.ev
def qk1 (st : List Su × Int × List Lv) (x : Sc) : List Su × List Lv :=
  if x.fin = true then ((qe8 st.1 x.id).1, if (qe8 st.1 x.id).2 = 0 then vq5 st.2.2 x.id else st.2.2)
  else ((qn7 st.1 x.id x.text).1, if (qn7 st.1 x.id x.text).2.1 = 0 then qx1 st.2.2 (x.id, x.text) else st.2.2)
def qj9 (st : List Su × Int × List Lv) (x : Sc) : List Su × Int × List Lv :=
  if 0 < x.ps.length then ((qs3 (qk1 st x).1 st.2.1 (jv5 x.id 10) x.ps).1.1, (qs3 (qk1 st x).1 st.2.1 (jv5 x.id 10) x.ps).2.1, (qk1 st x).2) else ((qk1 st x).1, st.2.1, (qk1 st x).2)
def doK (l : List Sc) (st : List Su × Int × List Lv) (k : Nat) : List Su × Int × List Lv := (l.take k).foldl qj9 st
def doR (l : List Sc) (st : List Su × Int × List Lv) : List Su × Int × List Lv := l.foldl qj9 st
theorem vt0 (l : List Sc) (st : List Su × Int × List Lv) (k : Nat) (x : Sc) (h : l[k]? = some x) : doK l st (k + 1) = qj9 (doK l st k) x := by
  unfold doK
  rw [List.take_add_one, h, List.foldl_append]
  rfl
theorem Grow.mono {F F' : Nat → Prop} {w w' : World} (h : Grow F w w') (hF : ∀ k, F k → F' k) : Grow F' w w' := ⟨h.os, h.tape, h.output, h.size, fun k h1 h2 => h.block k h1 fun e => h2 (hF k e)⟩
def DoAt (w0 w : World) (F : Nat → Prop) (W : World) (bb : Nat) (last : Int) (L : List Su) (v : Value) (bk : List Lv) (bx : Nat) (ob : Option Obj) : Prop := ∃ F', HasB w0 F' W bb last L ∧ (∀ k, F' k → upF F w W k) ∧ Grow F w W ∧ LvAt W w.heap.size v bk ∧ (∀ k, v.ownBlock = some k → ¬ F' k) ∧ ∀ o, ob = some o → W.heap[bx]? = some o ∧ ¬ F' bx ∧ v.ownBlock ≠ some bx
theorem DoAt.op {w0 w : World} {F F' F'' : Nat → Prop} {W W' : World} {bb : Nat} {last last' : Int} {L L' : List Su} {v : Value} {bk : List Lv} {bx : Nat} {ob : Option Obj} (h : HasB w0 F' W bb last L) (h1 : ∀ k, F' k → upF F w W k) (h2 : Grow F w W) (h3 : LvAt W w.heap.size v bk) (h4 : ∀ k, v.ownBlock = some k → ¬ F' k) (h5 : ∀ o, ob = some o → W.heap[bx]? = some o ∧ ¬ F' bx ∧ v.ownBlock ≠ some bx) (hg : Grow F' W W') (hF : ∀ k, F'' k → upF F' W W' k) (hb : Br W' F'' bb last' L') (hgd : qv6 L') : DoAt w0 w F W' bb last' L' v bk bx ob := by
  have hz := h2.size
  have hz' := hg.size
  refine ⟨F'', h.op hg hF hb hgd, fun k hk => ?_, h2.trans (hg.mono h1), v9 h3 fun k hk => hg.block k (h3.lt k hk).2 (h4 k hk), fun k hk e => ?_, fun o ho => ?_⟩
  · rcases hF k hk with e | e
    · rcases h1 k e with e' | e'
      · exact .inl e'
      · exact .inr ⟨e'.1, by omega⟩
    · exact .inr ⟨by omega, e.2⟩
  · rcases hF k e with e | e
    · exact h4 k hk e
    · have := (h3.lt k hk).2; omega
  · obtain ⟨a1, a2, a3⟩ := h5 o ho
    have hlt := (Array.getElem?_eq_some_iff.1 a1).1
    refine ⟨(hg.block bx hlt a2).trans a1, fun e => ?_, a3⟩
    rcases hF bx e with e | e
    · exact a2 e
    · omega
theorem DoAt.keep {w0 w : World} {F : Nat → Prop} {W W' : World} {bb : Nat} {last : Int} {L : List Su} {v : Value} {bk : List Lv} {bx : Nat} {ob : Option Obj} (h : DoAt w0 w F W bb last L v bk bx ob) (hb : Below W.heap.size W W') : DoAt w0 w F W' bb last L v bk bx ob := by
  obtain ⟨F', h0, h1, h2, h3, h4, h5⟩ := h
  exact DoAt.op h0 h1 h2 h3 h4 h5 (Grow.of_below hb) (fun k hk => .inl hk) (h0.br.below hb) h0.good
theorem DoAt.row {w0 w : World} {F : Nat → Prop} {W W' : World} {bb : Nat} {last : Int} {L : List Su} {v v' : Value} {bk bk' : List Lv} {bx : Nat} {ob : Option Obj} (h : DoAt w0 w F W bb last L v bk bx ob) (hb : Below W.heap.size W W') (hr : LvAt W' W.heap.size v' bk') : DoAt w0 w F W' bb last L v' bk' bx ob := by
  obtain ⟨F', h0, h1, h2, h3, h4, h5⟩ := h
  have hz := h2.size
  have hz' := hb.size
  refine ⟨F', h0.keep hb, fun k hk => ?_, h2.trans (Grow.of_below hb), y9 hr hz, fun k hk e => ?_, fun o ho => ?_⟩
  · rcases h1 k hk with e | e
    · exact .inl e
    · exact .inr ⟨e.1, by omega⟩
  · have := (hr.lt k hk).1
    have := h0.br.1 k e
    omega
  · obtain ⟨a1, a2, _⟩ := h5 o ho
    have hlt := (Array.getElem?_eq_some_iff.1 a1).1
    exact ⟨(hb.block bx hlt).trans a1, a2, fun e => by have := (hr.lt bx e).1; omega⟩
theorem DoAt.boxed {w0 w : World} {F : Nat → Prop} {W : World} {bb : Nat} {last : Int} {L : List Su} {v : Value} {bk : List Lv} {bx : Nat} {ob : Option Obj} (h : DoAt w0 w F W bb last L v bk bx ob) (o : Obj) : DoAt w0 w F (W.alloc o) bb last L v bk W.heap.size (some o) := by
  obtain ⟨F', h0, h1, h2, h3, h4, h5⟩ := h.keep (qq0 W o)
  obtain ⟨G, g0, g1, g2, g3, g4, g5⟩ := h
  have hz := g2.size
  refine ⟨G, g0.keep (qq0 W o), fun k hk => ?_, h2, h3, g4, fun o' ho => ?_⟩
  · rcases g1 k hk with e | e
    · exact .inl e
    · exact .inr ⟨e.1, by simp; omega⟩
  · obtain rfl := Option.some.inj ho
    exact ⟨heap_alloc_new W o, fun e => by have := g0.br.1 _ e; omega, fun e => by have := (g3.lt _ e).2; omega⟩
theorem DoAt.drop {w0 w : World} {F : Nat → Prop} {W : World} {bb : Nat} {last : Int} {L : List Su} {v : Value} {bk : List Lv} {bx : Nat} {ob : Option Obj} (h : DoAt w0 w F W bb last L v bk bx ob) : DoAt w0 w F W bb last L v bk 0 none := by
  obtain ⟨F', h0, h1, h2, h3, h4, _⟩ := h
  exact ⟨F', h0, h1, h2, h3, h4, fun o ho => by cases ho⟩
theorem DoAt.cells {w0 w : World} {F : Nat → Prop} {W : World} {bb : Nat} {last : Int} {L : List Su} {v : Value} {bk : List Lv} {bx : Nat} {a b c d : Value} {ty : TypeId} (h : DoAt w0 w F W bb last L v bk bx (some (.cells #[a, b, c, d] ty (0, 0)))) : W.cell? ⟨bx, 0, none⟩ = some a ∧ W.cell? ⟨bx, 1, none⟩ = some b ∧ W.cell? ⟨bx, 2, none⟩ = some c ∧ W.cell? ⟨bx, 3, none⟩ = some d := by
  obtain ⟨F', _, _, _, _, _, h5⟩ := h
  have := (h5 _ rfl).1
  simp [World.cell?, this]
section
variable {w0 w : World} {F : Nat → Prop} {W : World} {bb : Nat} {last : Int} {L : List Su} {v : Value} {bk : List Lv} {bx : Nat} {ob : Option Obj}
theorem vg2 (h : DoAt w0 w F W bb last L v bk bx ob) (id : Int) : Calls Tryz.prog 19 #[.pointer (some ⟨bb, 0, none⟩), .int .i64 id] W fun e W' => e = .returned (.int .i64 (qe8 L id).2) ∧ DoAt w0 w F W' bb last (qe8 L id).1 v bk bx ob := by
  obtain ⟨F', h0, h1, h2, h3, h4, h5⟩ := h
  exact unsub_any W F' bb last L h0.br h0.good id _ fun w' q1 q2 q3 => ⟨rfl, DoAt.op h0 h1 h2 h3 h4 h5 q3 (fun _ hk => hk) q1 q2⟩
theorem jk9 (h : DoAt w0 w F W bb last L v bk bx ob) (hL : LibOk w0) (id : Int) (s : List UInt8) (hs : s.length ≤ 140737488355328) : Calls Tryz.prog 12 #[.pointer (some ⟨bb, 0, none⟩), .int .i64 id, .string (BS s)] W fun e W' => e = .returned (.tuple #[.int .i64 (qn7 L id s).2.1, .int .i64 (qn7 L id s).2.2]) ∧ DoAt w0 w F W' bb last (qn7 L id s).1 v bk bx ob := by
  obtain ⟨F', h0, h1, h2, h3, h4, h5⟩ := h
  exact sub_any W F' bb last L h0.br h0.good id s hs (hL.below h0.below (Nat.le_refl _)) _ fun w' q1 q2 q3 => ⟨rfl, DoAt.op h0 h1 h2 h3 h4 h5 q3 (fun _ hk => hk) q1 q2⟩
theorem do_pub (h : DoAt w0 w F W bb last L v bk bx ob) (pri : Int) (hl : 0 ≤ last ∧ last < 4611686018427387904) {ps : List Pr} {ev : Value} (he : EvIn w0 ev ps) (hg : EvGood ps) : Calls Tryz.prog 15 #[.pointer (some ⟨bb, 0, none⟩), .int .i64 pri, ev] W fun e W' => ∃ a1 n1 c1 a2 n2 c2, e = .returned (.tuple #[.slice a1 n1 c1, .slice a2 n2 c2, .int .i64 (qs3 L last pri ps).2.2]) ∧ DoAt w0 w F W' bb (qs3 L last pri ps).2.1 (qs3 L last pri ps).1.1 v bk bx ob := by
  obtain ⟨F', h0, h1, h2, h3, h4, h5⟩ := h
  refine ji0 W F' bb last L h0.br pri hl ps ev (h0.event he) hg _ fun w' mv fv q1 q2 q3 q4 => ?_
  obtain ⟨a1, c1, rfl⟩ := q3.form
  obtain ⟨a2, c2, rfl⟩ := q4.form
  exact ⟨a1, _, c1, a2, _, c2, rfl, DoAt.op h0 h1 h2 h3 h4 h5 q2 (fun _ hk => hk.1) q1 (vj5 h0.good)⟩
theorem vp7 (h : DoAt w0 w F W bb last L v bk bx ob) (hn : bk.length ≤ 3000000000000) (id : Int) : Calls Tryz.prog 28 #[v, .int .i64 id] W fun e W' => ∃ a c, e = .returned (.slice a (vq5 bk id).length c) ∧ DoAt w0 w F W' bb last L (.slice a (vq5 bk id).length c) (vq5 bk id) bx ob := by
  have hd := h
  obtain ⟨F', h0, h1, h2, h3, h4, h5⟩ := h
  refine (jj8 bk hn v _ id W h3).mono ?_
  rintro e W' ⟨v', rfl, q1, q2⟩
  obtain ⟨a, c, rfl⟩ := qc5 q1
  exact ⟨a, c, rfl, hd.row q2 q1⟩
theorem do_with (h : DoAt w0 w F W bb last L v bk bx ob) (hn : bk.length ≤ 3000000000000) (x : Lv) : Calls Tryz.prog 29 #[v, .agg #[.int .i64 x.1, .string (BS x.2)]] W fun e W' => ∃ a c, e = .returned (.slice a (qx1 bk x).length c) ∧ DoAt w0 w F W' bb last L (.slice a (qx1 bk x).length c) (qx1 bk x) bx ob := by
  have hd := h
  obtain ⟨F', h0, h1, h2, h3, h4, h5⟩ := h
  refine (with_any bk hn v _ x W h3).mono ?_
  rintro e W' ⟨v', rfl, q1, q2⟩
  obtain ⟨a, c, rfl⟩ := qc5 q1
  exact ⟨a, c, rfl, hd.row q2 q1⟩
end
theorem withB_len (l : List Lv) (x : Lv) : (qx1 l x).length ≤ l.length + 1 := by
  have := jc1 l x l.length
  unfold qx1
  split
  · rename_i h; rw [h] at this; simp at this; exact this
  · rename_i h; simp [h] at this ⊢; omega
theorem jr9 (st : List Su × Int × List Lv) (x : Sc) : (qj9 st x).2.2.length ≤ st.2.2.length + 1 ∧ (0 ≤ st.2.1 → 0 ≤ (qj9 st x).2.1 ∧ (qj9 st x).2.1 ≤ st.2.1 + 1) := by
  have h1 : (qk1 st x).2.length ≤ st.2.2.length + 1 := by
    unfold qk1
    split
    · simp only
      split
      · exact Nat.le_trans (List.length_filter_le _ _) (Nat.le_succ _)
      · exact Nat.le_succ _
    · simp only
      split
      · exact withB_len _ _
      · exact Nat.le_succ _
  unfold qj9
  split
  · refine ⟨h1, fun h0 => ?_⟩
    simp only
    unfold qs3
    split
    · simp only; omega
    · simp only; omega
  · exact ⟨h1, fun h0 => by simp only; omega⟩
theorem doK_len (l : List Sc) (st : List Su × Int × List Lv) (h0 : 0 ≤ st.2.1) (k : Nat) : (doK l st k).2.2.length ≤ st.2.2.length + k ∧ 0 ≤ (doK l st k).2.1 ∧ (doK l st k).2.1 ≤ st.2.1 + k := by
  induction k with
  | zero => simp [doK]; exact h0
  | succ k ih =>
    cases hx : l[k]? with
    | none =>
      have e : doK l st (k + 1) = doK l st k := by unfold doK; rw [List.take_add_one, hx]; simp
      rw [e]
      omega
    | some x =>
      rw [vt0 l st k x hx]
      have h1 := jr9 (doK l st k) x
      have h2 := h1.2 ih.2.1
      omega
set_option maxHeartbeats 8000000 in
set_option maxRecDepth 100000 in
theorem does_any (w0 w : World) (F : Nat → Prop) (bb : Nat) (last : Int) (L : List Su) (h : HasB w0 F w bb last L) (hL : LibOk w0) (hl : 0 ≤ last ∧ last ≤ 1000000000000000) (l : List Sc) (sv : Value) (hs : ScrAt w0 sv l) :
    Calls Tryz.prog 11 #[.pointer (some ⟨bb, 0, none⟩), sv] w fun e w' => ∃ a c, e = .returned (.slice a (doR l (L, last, [])).2.2.length c) ∧ DoAt w0 w F w' bb (doR l (L, last, [])).2.1 (doR l (L, last, [])).1 (.slice a (doR l (L, last, [])).2.2.length c) (doR l (L, last, [])).2.2 0 none := by
  obtain ⟨a, cap, rfl, hbig, _, hx⟩ := hs
  have HX := v6 hx
  obtain ⟨n, hn⟩ : ∃ n, l.length = n := ⟨_, rfl⟩
  have HR : Hid (doR l (L, last, []) = doK l (L, last, []) n) := v6 (by unfold doR doK; rw [← hn, List.take_length])
  have HLEN : Hid (∀ k, (doK l (L, last, []) k).2.2.length ≤ k ∧ 0 ≤ (doK l (L, last, []) k).2.1 ∧ (doK l (L, last, []) k).2.1 ≤ last + k) := v6 fun k => by
    have := doK_len l (L, last, []) hl.1 k
    simpa using this
  rw [hn] at hbig ⊢
  have HN := v6 hn
  have S0 : Hid (DoAt w0 w F w bb last L (.slice none 0 0) [] 0 none) := v6 ⟨F, h, fun k hk => .inl hk, Grow.of_below (Below.refl _ _), LvAt.nil _ _, fun k hk => by simp [Value.ownBlock] at hk, fun o ho => by cases ho⟩
  have HL := v6 hL
  clear hx hn hL h
  rw [q9 HR]
  go_enter Tryz.func11, Tryz.ntmps11
  go_wp2_with fail
  go_loopw [5, 6] (fun v i wr => ∃ k : Nat, k ≤ n ∧ i = .int .i64 k ∧ Hid (DoAt w0 w F wr bb (doK l (L, last, []) k).2.1 (doK l (L, last, []) k).1 v (doK l (L, last, []) k).2.2 0 none)) (fun _ i _ => n - (intOf i).toNat)
  case atStart => exact ⟨0, Nat.zero_le _, rfl, S0⟩
  case round =>
    obtain ⟨k, hk, rfl, DA⟩ := hrel
    by_cases hlt : k < n
    · obtain ⟨⟨id, text, fin, ps, ev⟩, hx⟩ : ∃ x, l[k]? = some x := ⟨_, List.getElem?_eq_getElem (by have := q9 HN; omega)⟩
      obtain ⟨ok, b, off, rfl, hb, c0, c1, c2, c3⟩ := q9 HX k _ hx
      obtain ⟨ea, ec, hev⟩ := ok.form
      simp only at hev c0 c1 c2 c3
      subst hev
      have hst : doK l (L, last, []) (k + 1) = qj9 (doK l (L, last, []) k) ⟨id, text, fin, ps, .slice ea ps.length ec⟩ := vt0 l _ k _ hx
      obtain ⟨hbl, hl0, hl1⟩ := q9 HLEN k
      obtain ⟨⟨L1, last1, bk1⟩, hst0⟩ : ∃ st, doK l (L, last, []) k = st := ⟨_, rfl⟩
      rw [hst0] at DA hst hbl hl0 hl1
      simp only at DA hbl hl0 hl1
      clear hst0
      have hbw : Below w0.heap.size w0 wr := by
        obtain ⟨F', h0, _⟩ := q9 DA
        exact h0.below
      rw [← hbw.cell (p := ⟨b, off + k * 4, none⟩) hb] at c0
      rw [← hbw.cell (p := ⟨b, off + k * 4 + 1, none⟩) hb] at c1
      rw [← hbw.cell (p := ⟨b, off + k * 4 + 2, none⟩) hb] at c2
      rw [← hbw.cell (p := ⟨b, off + k * 4 + 3, none⟩) hb] at c3
      obtain ⟨np, hnp⟩ : ∃ np, ps.length = np := ⟨_, rfl⟩
      have OK := v6 ok
      rw [hnp] at c3
      obtain ⟨va, vc, e5⟩ : ∃ a c, u5 = .slice a bk1.length c := by
        obtain ⟨_, _, _, _, h3, _⟩ := q9 DA
        exact qc5 h3
      subst e5
      obtain ⟨nb, hnb⟩ : ∃ nb, bk1.length = nb := ⟨_, rfl⟩
      have hnb3 : bk1.length ≤ 3000000000000 := by omega
      have DA1 := v6 ((q9 DA).boxed (.cells #[.int .i64 id, .string (BS text), .bool fin, .slice ea np ec] 69))
      rw [hnb] at DA1 ⊢
      have hk0 : (0 : Int) ≤ (k : Int) := by omega
      have hk1 : (k : Int) < (n : Int) := by omega
      have hlast : 0 ≤ last1 ∧ last1 < 4611686018427387904 := ⟨hl0, by omega⟩
      have PK : Hid (∀ U, Calls Tryz.prog 21 #[.int .i64 id, .int .i64 10] U fun e w' => e = .returned (.int .i64 (jv5 id 10)) ∧ w' = U) := v6 fun U => pick_any id 10 ok.id (by decide) U
      obtain ⟨pz, hpz⟩ : ∃ pz, jv5 id 10 = pz := ⟨_, rfl⟩
      rw [hpz] at PK
      have PB : Hid (∀ U L2 v2 bk2 bx ob, DoAt w0 w F U bb last1 L2 v2 bk2 bx ob → Calls Tryz.prog 15 #[.pointer (some ⟨bb, 0, none⟩), .int .i64 pz, .slice ea np ec] U fun e W' => ∃ a1 n1 c1 a2 n2 c2, e = .returned (.tuple #[.slice a1 n1 c1, .slice a2 n2 c2, .int .i64 (qs3 L2 last1 pz ps).2.2]) ∧ Hid (DoAt w0 w F W' bb (qs3 L2 last1 pz ps).2.1 (qs3 L2 last1 pz ps).1.1 v2 bk2 bx ob)) := v6 (by
        intro U L2 v2 bk2 bx ob hU
        have := do_pub hU pz hlast ok.ev ok.good
        simp only at this
        rw [hnp] at this
        refine this.mono ?_
        rintro e W' ⟨a1, n1, c1, a2, n2, c2, rfl, h⟩
        exact ⟨a1, n1, c1, a2, n2, c2, rfl, v6 h⟩)
      have hstep : Hid (∀ L2 bk2, qk1 (L1, last1, bk1) ⟨id, text, fin, ps, .slice ea ps.length ec⟩ = (L2, bk2) → doK l (L, last, []) (k + 1) = if 0 < np then ((qs3 L2 last1 pz ps).1.1, (qs3 L2 last1 pz ps).2.1, bk2) else (L2, last1, bk2)) := v6 (by
        intro L2 bk2 h2
        rw [hst]
        unfold qj9
        rw [h2]
        simp only [hnp, hpz])
      clear DA hx hst hbl hl0 hl1 hnp hpz ok
      cases fin with
      | true =>
        by_cases hp : 0 < np
        · by_cases he : (qe8 L1 id).2 = 0
          · have UN : Hid (Calls Tryz.prog 19 #[.pointer (some ⟨bb, 0, none⟩), .int .i64 id] (wr.alloc (.cells #[.int .i64 id, .string (BS text), .bool true, .slice ea np ec] 69)) fun e W' => e = .returned (.int .i64 (qe8 L1 id).2) ∧ Hid (DoAt w0 w F W' bb last1 (qe8 L1 id).1 (.slice va nb vc) bk1 wr.heap.size (some (.cells #[.int .i64 id, .string (BS text), .bool true, .slice ea np ec] 69 (0, 0))))) := v6 ((vg2 (q9 DA1) id).mono (by rintro e W' ⟨rfl, h⟩; exact ⟨rfl, v6 h⟩))
            obtain ⟨L2, hL2⟩ : ∃ L2, (qe8 L1 id).1 = L2 := ⟨_, rfl⟩
            obtain ⟨ue, hue⟩ : ∃ ue, (qe8 L1 id).2 = ue := ⟨_, rfl⟩
            rw [hL2, hue] at UN
            rw [hue] at he
            have H1 : Hid (qk1 (L1, last1, bk1) ⟨id, text, true, ps, .slice ea ps.length ec⟩ = (L2, vq5 bk1 id)) := v6 (by unfold qk1; simp only [hL2, hue, he]; simp)
            subst he
            have WO : Hid (∀ U, DoAt w0 w F U bb last1 L2 (.slice va nb vc) bk1 wr.heap.size (some (.cells #[.int .i64 id, .string (BS text), .bool true, .slice ea np ec] 69 (0, 0))) → Calls Tryz.prog 28 #[.slice va nb vc, .int .i64 id] U fun e W' => ∃ a n2 c, e = .returned (.slice a n2 c) ∧ Hid (DoAt w0 w F W' bb last1 L2 (.slice a n2 c) (vq5 bk1 id) wr.heap.size (some (.cells #[.int .i64 id, .string (BS text), .bool true, .slice ea np ec] 69 (0, 0))))) := v6 fun U hU => (vp7 hU hnb3 id).mono (by rintro e W' ⟨a, c, rfl, h⟩; exact ⟨a, _, c, rfl, v6 h⟩)
            have H2 : Hid (doK l (L, last, []) (k + 1) = ((qs3 L2 last1 pz ps).1.1, (qs3 L2 last1 pz ps).2.1, vq5 bk1 id)) := v6 (by rw [q9 hstep _ _ (q9 H1), if_pos hp])
            have hdp : decide ((np : Int) > 0) = true := decide_eq_true (by omega)
            have hdp' : decide (0 < (np : Int)) = true := decide_eq_true (by omega)
            clear hstep H1 DA1 HX HLEN HR HL OK hL2 hue S0
            go_wp2_with (first | (go_at_call 19; refine (q9 UN).mono ?_; rintro e w2 ⟨rfl, S2⟩; obtain ⟨b0, b1, b2, b3⟩ := (q9 S2).cells) | (go_at_call 28; refine (q9 WO _ (q9 S2)).mono ?_; rintro e w3 ⟨a3, n3, c3', rfl, S3⟩; obtain ⟨d0, d1, d2, d3⟩ := (q9 S3).cells))
            go_region_with (first | (go_at_call 21; refine (q9 PK _).mono ?_; rintro e w4 ⟨rfl, rfl⟩) | (go_at_call 15; refine (q9 PB _ _ _ _ _ _ ((q9 S3).keep (by repeat (first | exact Below.refl _ _ | apply Below.drew)))).mono ?_; rintro e w5 ⟨a5, n5, c5, a6, n6, c6, rfl, S5⟩))
            all_goals go_wp2_with fail
            all_goals exact ⟨⟨k + 1, by omega, rfl, by rw [q9 H2]; exact v6 (q9 S5).drop⟩, by simp [intOf]; omega⟩
          · have UN : Hid (Calls Tryz.prog 19 #[.pointer (some ⟨bb, 0, none⟩), .int .i64 id] (wr.alloc (.cells #[.int .i64 id, .string (BS text), .bool true, .slice ea np ec] 69)) fun e W' => e = .returned (.int .i64 (qe8 L1 id).2) ∧ Hid (DoAt w0 w F W' bb last1 (qe8 L1 id).1 (.slice va nb vc) bk1 wr.heap.size (some (.cells #[.int .i64 id, .string (BS text), .bool true, .slice ea np ec] 69 (0, 0))))) := v6 ((vg2 (q9 DA1) id).mono (by rintro e W' ⟨rfl, h⟩; exact ⟨rfl, v6 h⟩))
            obtain ⟨L2, hL2⟩ : ∃ L2, (qe8 L1 id).1 = L2 := ⟨_, rfl⟩
            obtain ⟨ue, hue⟩ : ∃ ue, (qe8 L1 id).2 = ue := ⟨_, rfl⟩
            rw [hL2, hue] at UN
            rw [hue] at he
            have H1 : Hid (qk1 (L1, last1, bk1) ⟨id, text, true, ps, .slice ea ps.length ec⟩ = (L2, bk1)) := v6 (by unfold qk1; simp only [hL2, hue, he]; simp)
            have hde : decide (ue = 0) = false := decide_eq_false he
            have H2 : Hid (doK l (L, last, []) (k + 1) = ((qs3 L2 last1 pz ps).1.1, (qs3 L2 last1 pz ps).2.1, bk1)) := v6 (by rw [q9 hstep _ _ (q9 H1), if_pos hp])
            have hdp : decide ((np : Int) > 0) = true := decide_eq_true (by omega)
            have hdp' : decide (0 < (np : Int)) = true := decide_eq_true (by omega)
            clear hstep H1 DA1 HX HLEN HR HL OK hL2 hue S0
            go_wp2_with (first | (go_at_call 19; refine (q9 UN).mono ?_; rintro e w2 ⟨rfl, S2⟩; obtain ⟨b0, b1, b2, b3⟩ := (q9 S2).cells))
            go_region_with (first | (go_at_call 21; refine (q9 PK _).mono ?_; rintro e w4 ⟨rfl, rfl⟩) | (go_at_call 15; refine (q9 PB _ _ _ _ _ _ ((q9 S2).keep (by repeat (first | exact Below.refl _ _ | apply Below.drew)))).mono ?_; rintro e w5 ⟨a5, n5, c5, a6, n6, c6, rfl, S5⟩))
            all_goals go_wp2_with fail
            all_goals exact ⟨⟨k + 1, by omega, rfl, by rw [q9 H2]; exact v6 (q9 S5).drop⟩, by simp [intOf]; omega⟩
        · by_cases he : (qe8 L1 id).2 = 0
          · have UN : Hid (Calls Tryz.prog 19 #[.pointer (some ⟨bb, 0, none⟩), .int .i64 id] (wr.alloc (.cells #[.int .i64 id, .string (BS text), .bool true, .slice ea np ec] 69)) fun e W' => e = .returned (.int .i64 (qe8 L1 id).2) ∧ Hid (DoAt w0 w F W' bb last1 (qe8 L1 id).1 (.slice va nb vc) bk1 wr.heap.size (some (.cells #[.int .i64 id, .string (BS text), .bool true, .slice ea np ec] 69 (0, 0))))) := v6 ((vg2 (q9 DA1) id).mono (by rintro e W' ⟨rfl, h⟩; exact ⟨rfl, v6 h⟩))
            obtain ⟨L2, hL2⟩ : ∃ L2, (qe8 L1 id).1 = L2 := ⟨_, rfl⟩
            obtain ⟨ue, hue⟩ : ∃ ue, (qe8 L1 id).2 = ue := ⟨_, rfl⟩
            rw [hL2, hue] at UN
            rw [hue] at he
            have H1 : Hid (qk1 (L1, last1, bk1) ⟨id, text, true, ps, .slice ea ps.length ec⟩ = (L2, vq5 bk1 id)) := v6 (by unfold qk1; simp only [hL2, hue, he]; simp)
            subst he
            have WO : Hid (∀ U, DoAt w0 w F U bb last1 L2 (.slice va nb vc) bk1 wr.heap.size (some (.cells #[.int .i64 id, .string (BS text), .bool true, .slice ea np ec] 69 (0, 0))) → Calls Tryz.prog 28 #[.slice va nb vc, .int .i64 id] U fun e W' => ∃ a n2 c, e = .returned (.slice a n2 c) ∧ Hid (DoAt w0 w F W' bb last1 L2 (.slice a n2 c) (vq5 bk1 id) wr.heap.size (some (.cells #[.int .i64 id, .string (BS text), .bool true, .slice ea np ec] 69 (0, 0))))) := v6 fun U hU => (vp7 hU hnb3 id).mono (by rintro e W' ⟨a, c, rfl, h⟩; exact ⟨a, _, c, rfl, v6 h⟩)
            have H2 : Hid (doK l (L, last, []) (k + 1) = (L2, last1, vq5 bk1 id)) := v6 (by rw [q9 hstep _ _ (q9 H1), if_neg hp])
            obtain rfl : np = 0 := by omega
            clear hstep H1 DA1 HX HLEN HR HL OK hL2 hue S0
            go_wp2_with (first | (go_at_call 19; refine (q9 UN).mono ?_; rintro e w2 ⟨rfl, S2⟩; obtain ⟨b0, b1, b2, b3⟩ := (q9 S2).cells) | (go_at_call 28; refine (q9 WO _ (q9 S2)).mono ?_; rintro e w3 ⟨a3, n3, c3', rfl, S3⟩; obtain ⟨d0, d1, d2, d3⟩ := (q9 S3).cells))
            exact ⟨⟨k + 1, by omega, rfl, by rw [q9 H2]; exact v6 (q9 S3).drop⟩, by simp [intOf]; omega⟩
          · have UN : Hid (Calls Tryz.prog 19 #[.pointer (some ⟨bb, 0, none⟩), .int .i64 id] (wr.alloc (.cells #[.int .i64 id, .string (BS text), .bool true, .slice ea np ec] 69)) fun e W' => e = .returned (.int .i64 (qe8 L1 id).2) ∧ Hid (DoAt w0 w F W' bb last1 (qe8 L1 id).1 (.slice va nb vc) bk1 wr.heap.size (some (.cells #[.int .i64 id, .string (BS text), .bool true, .slice ea np ec] 69 (0, 0))))) := v6 ((vg2 (q9 DA1) id).mono (by rintro e W' ⟨rfl, h⟩; exact ⟨rfl, v6 h⟩))
            obtain ⟨L2, hL2⟩ : ∃ L2, (qe8 L1 id).1 = L2 := ⟨_, rfl⟩
            obtain ⟨ue, hue⟩ : ∃ ue, (qe8 L1 id).2 = ue := ⟨_, rfl⟩
            rw [hL2, hue] at UN
            rw [hue] at he
            have H1 : Hid (qk1 (L1, last1, bk1) ⟨id, text, true, ps, .slice ea ps.length ec⟩ = (L2, bk1)) := v6 (by unfold qk1; simp only [hL2, hue, he]; simp)
            have hde : decide (ue = 0) = false := decide_eq_false he
            have H2 : Hid (doK l (L, last, []) (k + 1) = (L2, last1, bk1)) := v6 (by rw [q9 hstep _ _ (q9 H1), if_neg hp])
            obtain rfl : np = 0 := by omega
            clear hstep H1 DA1 HX HLEN HR HL OK hL2 hue S0
            go_wp2_with (first | (go_at_call 19; refine (q9 UN).mono ?_; rintro e w2 ⟨rfl, S2⟩; obtain ⟨b0, b1, b2, b3⟩ := (q9 S2).cells))
            exact ⟨⟨k + 1, by omega, rfl, by rw [q9 H2]; exact v6 (q9 S2).drop⟩, by simp [intOf]; omega⟩
      | false =>
        by_cases hp : 0 < np
        · by_cases he : (qn7 L1 id text).2.1 = 0
          · have SU : Hid (Calls Tryz.prog 12 #[.pointer (some ⟨bb, 0, none⟩), .int .i64 id, .string (BS text)] (wr.alloc (.cells #[.int .i64 id, .string (BS text), .bool false, .slice ea np ec] 69)) fun e W' => e = .returned (.tuple #[.int .i64 (qn7 L1 id text).2.1, .int .i64 (qn7 L1 id text).2.2]) ∧ Hid (DoAt w0 w F W' bb last1 (qn7 L1 id text).1 (.slice va nb vc) bk1 wr.heap.size (some (.cells #[.int .i64 id, .string (BS text), .bool false, .slice ea np ec] 69 (0, 0))))) := v6 ((jk9 (q9 DA1) (q9 HL) id text (q9 OK).text).mono (by rintro e W' ⟨rfl, h⟩; exact ⟨rfl, v6 h⟩))
            obtain ⟨L2, hL2⟩ : ∃ L2, (qn7 L1 id text).1 = L2 := ⟨_, rfl⟩
            obtain ⟨ue, hue⟩ : ∃ ue, (qn7 L1 id text).2.1 = ue := ⟨_, rfl⟩
            obtain ⟨pe, hpe⟩ : ∃ pe, (qn7 L1 id text).2.2 = pe := ⟨_, rfl⟩
            rw [hL2, hue, hpe] at SU
            rw [hue] at he
            have H1 : Hid (qk1 (L1, last1, bk1) ⟨id, text, false, ps, .slice ea ps.length ec⟩ = (L2, qx1 bk1 (id, text))) := v6 (by unfold qk1; simp only [hL2, hue, he]; simp)
            subst he
            have WI : Hid (∀ U, DoAt w0 w F U bb last1 L2 (.slice va nb vc) bk1 wr.heap.size (some (.cells #[.int .i64 id, .string (BS text), .bool false, .slice ea np ec] 69 (0, 0))) → Calls Tryz.prog 29 #[.slice va nb vc, .agg #[.int .i64 id, .string (BS text)]] U fun e W' => ∃ a n2 c, e = .returned (.slice a n2 c) ∧ Hid (DoAt w0 w F W' bb last1 L2 (.slice a n2 c) (qx1 bk1 (id, text)) wr.heap.size (some (.cells #[.int .i64 id, .string (BS text), .bool false, .slice ea np ec] 69 (0, 0))))) := v6 fun U hU => (do_with hU hnb3 (id, text)).mono (by rintro e W' ⟨a, c, rfl, h⟩; exact ⟨a, _, c, rfl, v6 h⟩)
            have H2 : Hid (doK l (L, last, []) (k + 1) = ((qs3 L2 last1 pz ps).1.1, (qs3 L2 last1 pz ps).2.1, qx1 bk1 (id, text))) := v6 (by rw [q9 hstep _ _ (q9 H1), if_pos hp])
            have hdp : decide ((np : Int) > 0) = true := decide_eq_true (by omega)
            have hdp' : decide (0 < (np : Int)) = true := decide_eq_true (by omega)
            clear hstep H1 DA1 HX HLEN HR HL OK hL2 hue hpe S0
            go_wp2_with (first | (go_at_call 12; refine (q9 SU).mono ?_; rintro e w2 ⟨rfl, S2⟩; obtain ⟨b0, b1, b2, b3⟩ := (q9 S2).cells) | (go_at_call 29; refine (q9 WI _ (q9 S2)).mono ?_; rintro e w3 ⟨a3, n3, c3', rfl, S3⟩; obtain ⟨d0, d1, d2, d3⟩ := (q9 S3).cells))
            go_region_with (first | (go_at_call 21; refine (q9 PK _).mono ?_; rintro e w4 ⟨rfl, rfl⟩) | (go_at_call 15; refine (q9 PB _ _ _ _ _ _ ((q9 S3).keep (by repeat (first | exact Below.refl _ _ | apply Below.drew)))).mono ?_; rintro e w5 ⟨a5, n5, c5, a6, n6, c6, rfl, S5⟩))
            all_goals go_wp2_with fail
            all_goals exact ⟨⟨k + 1, by omega, rfl, by rw [q9 H2]; exact v6 (q9 S5).drop⟩, by simp [intOf]; omega⟩
          · have SU : Hid (Calls Tryz.prog 12 #[.pointer (some ⟨bb, 0, none⟩), .int .i64 id, .string (BS text)] (wr.alloc (.cells #[.int .i64 id, .string (BS text), .bool false, .slice ea np ec] 69)) fun e W' => e = .returned (.tuple #[.int .i64 (qn7 L1 id text).2.1, .int .i64 (qn7 L1 id text).2.2]) ∧ Hid (DoAt w0 w F W' bb last1 (qn7 L1 id text).1 (.slice va nb vc) bk1 wr.heap.size (some (.cells #[.int .i64 id, .string (BS text), .bool false, .slice ea np ec] 69 (0, 0))))) := v6 ((jk9 (q9 DA1) (q9 HL) id text (q9 OK).text).mono (by rintro e W' ⟨rfl, h⟩; exact ⟨rfl, v6 h⟩))
            obtain ⟨L2, hL2⟩ : ∃ L2, (qn7 L1 id text).1 = L2 := ⟨_, rfl⟩
            obtain ⟨ue, hue⟩ : ∃ ue, (qn7 L1 id text).2.1 = ue := ⟨_, rfl⟩
            obtain ⟨pe, hpe⟩ : ∃ pe, (qn7 L1 id text).2.2 = pe := ⟨_, rfl⟩
            rw [hL2, hue, hpe] at SU
            rw [hue] at he
            have H1 : Hid (qk1 (L1, last1, bk1) ⟨id, text, false, ps, .slice ea ps.length ec⟩ = (L2, bk1)) := v6 (by unfold qk1; simp only [hL2, hue, he]; simp)
            have hde : decide (ue = 0) = false := decide_eq_false he
            have H2 : Hid (doK l (L, last, []) (k + 1) = ((qs3 L2 last1 pz ps).1.1, (qs3 L2 last1 pz ps).2.1, bk1)) := v6 (by rw [q9 hstep _ _ (q9 H1), if_pos hp])
            have hdp : decide ((np : Int) > 0) = true := decide_eq_true (by omega)
            have hdp' : decide (0 < (np : Int)) = true := decide_eq_true (by omega)
            clear hstep H1 DA1 HX HLEN HR HL OK hL2 hue hpe S0
            go_wp2_with (first | (go_at_call 12; refine (q9 SU).mono ?_; rintro e w2 ⟨rfl, S2⟩; obtain ⟨b0, b1, b2, b3⟩ := (q9 S2).cells))
            go_region_with (first | (go_at_call 21; refine (q9 PK _).mono ?_; rintro e w4 ⟨rfl, rfl⟩) | (go_at_call 15; refine (q9 PB _ _ _ _ _ _ ((q9 S2).keep (by repeat (first | exact Below.refl _ _ | apply Below.drew)))).mono ?_; rintro e w5 ⟨a5, n5, c5, a6, n6, c6, rfl, S5⟩))
            all_goals go_wp2_with fail
            all_goals exact ⟨⟨k + 1, by omega, rfl, by rw [q9 H2]; exact v6 (q9 S5).drop⟩, by simp [intOf]; omega⟩
        · by_cases he : (qn7 L1 id text).2.1 = 0
          · have SU : Hid (Calls Tryz.prog 12 #[.pointer (some ⟨bb, 0, none⟩), .int .i64 id, .string (BS text)] (wr.alloc (.cells #[.int .i64 id, .string (BS text), .bool false, .slice ea np ec] 69)) fun e W' => e = .returned (.tuple #[.int .i64 (qn7 L1 id text).2.1, .int .i64 (qn7 L1 id text).2.2]) ∧ Hid (DoAt w0 w F W' bb last1 (qn7 L1 id text).1 (.slice va nb vc) bk1 wr.heap.size (some (.cells #[.int .i64 id, .string (BS text), .bool false, .slice ea np ec] 69 (0, 0))))) := v6 ((jk9 (q9 DA1) (q9 HL) id text (q9 OK).text).mono (by rintro e W' ⟨rfl, h⟩; exact ⟨rfl, v6 h⟩))
            obtain ⟨L2, hL2⟩ : ∃ L2, (qn7 L1 id text).1 = L2 := ⟨_, rfl⟩
            obtain ⟨ue, hue⟩ : ∃ ue, (qn7 L1 id text).2.1 = ue := ⟨_, rfl⟩
            obtain ⟨pe, hpe⟩ : ∃ pe, (qn7 L1 id text).2.2 = pe := ⟨_, rfl⟩
            rw [hL2, hue, hpe] at SU
            rw [hue] at he
            have H1 : Hid (qk1 (L1, last1, bk1) ⟨id, text, false, ps, .slice ea ps.length ec⟩ = (L2, qx1 bk1 (id, text))) := v6 (by unfold qk1; simp only [hL2, hue, he]; simp)
            subst he
            have WI : Hid (∀ U, DoAt w0 w F U bb last1 L2 (.slice va nb vc) bk1 wr.heap.size (some (.cells #[.int .i64 id, .string (BS text), .bool false, .slice ea np ec] 69 (0, 0))) → Calls Tryz.prog 29 #[.slice va nb vc, .agg #[.int .i64 id, .string (BS text)]] U fun e W' => ∃ a n2 c, e = .returned (.slice a n2 c) ∧ Hid (DoAt w0 w F W' bb last1 L2 (.slice a n2 c) (qx1 bk1 (id, text)) wr.heap.size (some (.cells #[.int .i64 id, .string (BS text), .bool false, .slice ea np ec] 69 (0, 0))))) := v6 fun U hU => (do_with hU hnb3 (id, text)).mono (by rintro e W' ⟨a, c, rfl, h⟩; exact ⟨a, _, c, rfl, v6 h⟩)
            have H2 : Hid (doK l (L, last, []) (k + 1) = (L2, last1, qx1 bk1 (id, text))) := v6 (by rw [q9 hstep _ _ (q9 H1), if_neg hp])
            obtain rfl : np = 0 := by omega
            clear hstep H1 DA1 HX HLEN HR HL OK hL2 hue hpe S0
            go_wp2_with (first | (go_at_call 12; refine (q9 SU).mono ?_; rintro e w2 ⟨rfl, S2⟩; obtain ⟨b0, b1, b2, b3⟩ := (q9 S2).cells) | (go_at_call 29; refine (q9 WI _ (q9 S2)).mono ?_; rintro e w3 ⟨a3, n3, c3', rfl, S3⟩; obtain ⟨d0, d1, d2, d3⟩ := (q9 S3).cells))
            exact ⟨⟨k + 1, by omega, rfl, by rw [q9 H2]; exact v6 (q9 S3).drop⟩, by simp [intOf]; omega⟩
          · have SU : Hid (Calls Tryz.prog 12 #[.pointer (some ⟨bb, 0, none⟩), .int .i64 id, .string (BS text)] (wr.alloc (.cells #[.int .i64 id, .string (BS text), .bool false, .slice ea np ec] 69)) fun e W' => e = .returned (.tuple #[.int .i64 (qn7 L1 id text).2.1, .int .i64 (qn7 L1 id text).2.2]) ∧ Hid (DoAt w0 w F W' bb last1 (qn7 L1 id text).1 (.slice va nb vc) bk1 wr.heap.size (some (.cells #[.int .i64 id, .string (BS text), .bool false, .slice ea np ec] 69 (0, 0))))) := v6 ((jk9 (q9 DA1) (q9 HL) id text (q9 OK).text).mono (by rintro e W' ⟨rfl, h⟩; exact ⟨rfl, v6 h⟩))
            obtain ⟨L2, hL2⟩ : ∃ L2, (qn7 L1 id text).1 = L2 := ⟨_, rfl⟩
            obtain ⟨ue, hue⟩ : ∃ ue, (qn7 L1 id text).2.1 = ue := ⟨_, rfl⟩
            obtain ⟨pe, hpe⟩ : ∃ pe, (qn7 L1 id text).2.2 = pe := ⟨_, rfl⟩
            rw [hL2, hue, hpe] at SU
            rw [hue] at he
            have H1 : Hid (qk1 (L1, last1, bk1) ⟨id, text, false, ps, .slice ea ps.length ec⟩ = (L2, bk1)) := v6 (by unfold qk1; simp only [hL2, hue, he]; simp)
            have hde : decide (ue = 0) = false := decide_eq_false he
            have H2 : Hid (doK l (L, last, []) (k + 1) = (L2, last1, bk1)) := v6 (by rw [q9 hstep _ _ (q9 H1), if_neg hp])
            obtain rfl : np = 0 := by omega
            clear hstep H1 DA1 HX HLEN HR HL OK hL2 hue hpe S0
            go_wp2_with (first | (go_at_call 12; refine (q9 SU).mono ?_; rintro e w2 ⟨rfl, S2⟩; obtain ⟨b0, b1, b2, b3⟩ := (q9 S2).cells))
            exact ⟨⟨k + 1, by omega, rfl, by rw [q9 H2]; exact v6 (q9 S2).drop⟩, by simp [intOf]; omega⟩
    · have hkn : k = n := by omega
      subst hkn
      obtain ⟨a2, c2, e2⟩ : ∃ a c, u5 = .slice a (doK l (L, last, []) k).2.2.length c := by
        obtain ⟨_, _, _, _, h3, _⟩ := q9 DA
        exact qc5 h3
      subst e2
      go_wp2_with fail
      go_ret
      exact ⟨a2, c2, rfl, q9 DA⟩
end
section
def k3 (ms : List Mg) : Su := ⟨3, gtC 4, ms⟩
def k1 : Su := ⟨-1, gtC 5, []⟩
set_option maxRecDepth 100000 in
theorem known_one : qn7 [] 3 jj1 = ([k3 []], 0, 0) := by kernel_rfl
set_option maxRecDepth 100000 in
theorem known_two : qn7 [k3 []] (-1) jj2 = ([k1, k3 []], 0, 0) := by kernel_rfl
set_option maxRecDepth 100000 in
theorem known_pub : qs3 [k1, k3 []] 0 2 evs = (([k1, k3 (vn8 [] ⟨2, 1⟩)], [3], []), 1, 0) := by kernel_rfl
theorem ju3 : qy1 [k1, k3 (vn8 [] ⟨2, 1⟩)] 3 = ([k1, k3 (popM (vn8 [] ⟨2, 1⟩))], 1, 0) := by kernel_rfl
set_option maxHeartbeats 2000000 in
set_option maxRecDepth 100000 in
theorem known_any (w : World) (hL : LibOk w) : Calls Tryz.prog 9 #[] w fun e w' => e = .returned (.bool true) ∧ Below w.heap.size w w' := by
  have RU := v6 (runs_any w hL)
  have NEW : Hid (∀ w2, Below w.heap.size w w2 → Calls Tryz.prog 10 #[] w2 fun e w' => e = .returned (.pointer (some ⟨w2.heap.size, 0, none⟩)) ∧ Hid (ABr w2 w' w2.heap.size 0 [])) := v6 fun w2 _ => (new_any w2).mono (by rintro e w' ⟨rfl, rfl⟩; exact ⟨rfl, v6 ⟨_, vg4 w2⟩⟩)
  have S1 : Hid (∀ w2 U, Below w.heap.size w w2 → ABr w2 U w2.heap.size 0 [] → Calls Tryz.prog 12 #[.pointer (some ⟨w2.heap.size, 0, none⟩), .int .i64 3, .string ⟨#[97, 32, 62, 32, 52]⟩] U fun e w' => e = .returned (.tuple #[.int .i64 0, .int .i64 0]) ∧ Hid (ABr w2 w' w2.heap.size 0 [k3 []])) := v6 fun w2 U hb hU => (ab_sub hU (hL.below hb (Nat.le_refl _)) 3 jj1 (by decide)).mono (by rw [known_one]; rintro e w' ⟨rfl, h⟩; exact ⟨rfl, v6 h⟩)
  have S2 : Hid (∀ w2 U, Below w.heap.size w w2 → ABr w2 U w2.heap.size 0 [k3 []] → Calls Tryz.prog 12 #[.pointer (some ⟨w2.heap.size, 0, none⟩), .int .i64 (-1), .string ⟨#[97, 32, 62, 32, 53]⟩] U fun e w' => e = .returned (.tuple #[.int .i64 0, .int .i64 0]) ∧ Hid (ABr w2 w' w2.heap.size 0 [k1, k3 []])) := v6 fun w2 U hb hU => (ab_sub hU (hL.below hb (Nat.le_refl _)) (-1) jj2 (by decide)).mono (by rw [known_two]; rintro e w' ⟨rfl, h⟩; exact ⟨rfl, v6 h⟩)
  have PB : Hid (∀ w2 U ev, EvIn w2 ev evs → ABr w2 U w2.heap.size 0 [k1, k3 []] → Calls Tryz.prog 15 #[.pointer (some ⟨w2.heap.size, 0, none⟩), .int .i64 2, ev] U fun e w' => ∃ g c fa fc, e = .returned (.tuple #[.slice (some ⟨g, 0, none⟩) 1 c, .slice fa 0 fc, .int .i64 0]) ∧ Hid (Calls Tryz.prog 22 #[.pointer (some ⟨w2.heap.size, 0, none⟩), .int .i64 3] w' fun e w'' => e = .returned (.tuple #[.int .i64 1, .int .i64 0]) ∧ w''.cell? ⟨g, 0, none⟩ = some (.int .i64 3) ∧ Hid (Below w2.heap.size w2 w''))) := v6 (by
    intro w2 U ev he hU
    obtain ⟨F, h⟩ := hU
    refine ji0 U F w2.heap.size 0 _ h.br 2 ⟨by decide, by decide⟩ evs ev (h.event he) vg3 _ fun w' mv fv h1 h2 h3 h4 => ?_
    have hb := h.op h2 (fun _ hk => hk.1) h1 (vj5 h.good)
    rw [known_pub] at hb h3 h4 ⊢
    obtain ⟨g, c, rfl, hc⟩ := h3.cell (i := 0) (x := 3) rfl
    obtain ⟨fa, fc, rfl⟩ := h4.form
    refine ⟨g, c, fa, fc, rfl, v6 ?_⟩
    refine jn2 w' _ w2.heap.size 1 _ hb.br 3 _ fun w'' q1 q2 => ?_
    rw [ju3]
    refine ⟨rfl, ?_, v6 (q2.since hb.new hb.below)⟩
    rw [World.cell?_of_block (a := ⟨g, 0, none⟩) (q2.block g (h3.lt g rfl).2 (fun e => e.2.1 rfl))]
    exact hc)
  clear hL
  go_enter Tryz.func9, Tryz.ntmps9
  go_wp2_with (first | (go_at_call 26; refine (q9 RU).mono ?_; rintro e w1 ⟨rfl, hb1⟩; have B1 := v6 hb1; clear hb1) | (go_at_call 27; refine (vk8 _).mono ?_; rintro e w2 ⟨rfl, hw2⟩; have E2 : Hid (EvIn w2 (.slice (some ⟨w1.heap.size, 0, none⟩) 1 1) evs) := v6 (by rw [hw2]; exact jm2 (w := w1) (Below.refl _ _)); have B2 : Hid (Below w.heap.size w w2) := v6 (v7 (q9 B1) (by rw [hw2]; exact (Below.refl _ _).alloc (Nat.le_refl _) _)); clear hw2) | (go_at_call 10; refine (q9 NEW _ (q9 B2)).mono ?_; rintro e w3 ⟨rfl, A3⟩) | (go_at_call 12; refine (q9 S1 _ _ (q9 B2) (q9 A3)).mono ?_; clear S1; rintro e w4 ⟨rfl, A4⟩) | (go_at_call 12; refine (q9 S2 _ _ (q9 B2) (q9 A4)).mono ?_; clear S2; rintro e w5 ⟨rfl, A5⟩) | (go_at_call 15; refine (q9 PB _ _ _ (q9 E2) (q9 A5)).mono ?_; rintro e w6 ⟨g6, c6, fa6, fc6, rfl, P6⟩) | (go_at_call 22; refine (q9 P6).mono ?_; rintro e w7 ⟨rfl, d7, B7⟩))
  go_ret
  exact ⟨rfl, v7 (q9 B2) (q9 B7)⟩
end
end Go.Proofs.YtfkcaldjphakpabGreatDoor
