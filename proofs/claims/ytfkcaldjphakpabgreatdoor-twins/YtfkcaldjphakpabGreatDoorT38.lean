/- A broker that was made since. The book of what there is: without, with. -/
import Derived.Test.YtfkcaldjphakpabGreatDoorT37
namespace Go.Proofs.YtfkcaldjphakpabGreatDoor
open Go.RowKit
section
structure HasB (w0 : World) (F : Nat → Prop) (w : World) (bb : Nat) (last : Int) (L : List Su) : Prop where
  br : Br w F bb last L
  good : qv6 L
  new : ∀ k, F k → w0.heap.size ≤ k
  below : Below w0.heap.size w0 w
theorem Grow.since {w0 w w' : World} {F : Nat → Prop} (hg : Grow F w w') (hn : ∀ k, F k → w0.heap.size ≤ k) (hb : Below w0.heap.size w0 w) : Below w0.heap.size w0 w' := by
  have := hb.size
  exact ⟨hg.os.trans hb.os, hg.tape.trans hb.tape, hg.output.trans hb.output, Nat.le_trans hb.size hg.size, fun k hk => (hg.block k (by omega) (fun e => by have := hn k e; omega)).trans (hb.block k hk)⟩
theorem HasB.op {w0 : World} {F F' : Nat → Prop} {w w' : World} {bb : Nat} {last last' : Int} {L L' : List Su} (h : HasB w0 F w bb last L) (hg : Grow F w w') (hF : ∀ k, F' k → upF F w w' k) (hb : Br w' F' bb last' L') (hgd : qv6 L') : HasB w0 F' w' bb last' L' := by
  have := h.below.size
  refine ⟨hb, hgd, fun k hk => ?_, hg.since h.new h.below⟩
  rcases hF k hk with e | e
  · exact h.new k e
  · omega
theorem HasB.keep {w0 : World} {F : Nat → Prop} {w w' : World} {bb : Nat} {last : Int} {L : List Su} (h : HasB w0 F w bb last L) (hb : Below w.heap.size w w') : HasB w0 F w' bb last L :=
  ⟨h.br.below hb, h.good, h.new, h.below.trans (hb.mono h.below.size)⟩
theorem HasB.event {w0 : World} {F : Nat → Prop} {w : World} {bb : Nat} {last : Int} {L : List Su} (h : HasB w0 F w bb last L) {ev : Value} {ps : List Pr} (he : EvIn w0 ev ps) : ∀ w', Grow F w w' → EvIn w' ev ps := fun _ hg => he.below (hg.since h.new h.below)
theorem vg4 (w : World) : HasB w (fun k => k = w.heap.size) (w.alloc (.cells #[.int .i64 0, .slice none 0 0, .slice none 0 0, .slice none 0 0] 67)) w.heap.size 0 [] := by
  refine ⟨⟨fun k hk => by simp; omega, .slice none 0 0, .slice none 0 0, .slice none 0 0, [], ⟨heap_alloc_new w _, World.ownsRow_nil _ _ _ _, ⟨TsAt.nil _ _, IsAt.nil _ _, fun g hg => by simp [Value.ownBlock] at hg⟩, fun x hx => by simp at hx, List.Pairwise.nil, fun x hx => by simp at hx, fun x hx => by simp at hx, List.Pairwise.nil, Nat.zero_le _, fun x hx => by simp at hx, ⟨Nat.zero_le _, Nat.zero_le _, fun i t h => by simp [tsX, qh0] at h, fun r hr => by simp [rsX, qh0] at hr⟩⟩, rfl, fun k hk => ?_⟩, fun x hx => by simp at hx, fun k hk => by omega, qq0 _ _⟩
  rcases hk with (e | e | e | e | ⟨x, hx, _⟩) | ⟨x, hx, _⟩
  · exact e
  · simp [Value.ownBlock] at e
  · simp [Value.ownBlock] at e
  · simp [Value.ownBlock] at e
  · simp at hx
  · simp at hx
def ABr (w0 w : World) (bb : Nat) (last : Int) (L : List Su) : Prop := ∃ F, HasB w0 F w bb last L
theorem ABr.keep {w0 w w' : World} {bb : Nat} {last : Int} {L : List Su} (h : ABr w0 w bb last L) (hb : Below w.heap.size w w') : ABr w0 w' bb last L := by
  obtain ⟨F, h⟩ := h
  exact ⟨F, h.keep hb⟩
theorem ABr.below {w0 w : World} {bb : Nat} {last : Int} {L : List Su} (h : ABr w0 w bb last L) : Below w0.heap.size w0 w := by
  obtain ⟨F, h⟩ := h
  exact h.below
section
variable {w0 w : World} {bb : Nat} {last : Int} {L : List Su}
theorem ab_sub (h : ABr w0 w bb last L) (hL : LibOk w0) (id : Int) (s : List UInt8) (hs : s.length ≤ 140737488355328) : Calls Tryz.prog 12 #[.pointer (some ⟨bb, 0, none⟩), .int .i64 id, .string (BS s)] w fun e w' => e = .returned (.tuple #[.int .i64 (qn7 L id s).2.1, .int .i64 (qn7 L id s).2.2]) ∧ ABr w0 w' bb last (qn7 L id s).1 := by
  obtain ⟨F, h⟩ := h
  exact sub_any w F bb last L h.br h.good id s hs (hL.below h.below (Nat.le_refl _)) _ fun w' h1 h2 h3 => ⟨rfl, _, h.op h3 (fun _ hk => hk) h1 h2⟩
end
end
section
attribute [local go_sem ↓] qc8
abbrev Lv := Int × List UInt8
def qr9 (l : List Lv) : List Value := l.flatMap fun x => [.int .i64 x.1, .string (BS x.2)]
theorem vn5 (l r : List Lv) : qr9 (l ++ r) = qr9 l ++ qr9 r := by simp [qr9]
theorem jg7 {l : List Lv} {i : Nat} {x : Lv} (h : l[i]? = some x) : (qr9 l)[i * 2]? = some (.int .i64 x.1) ∧ (qr9 l)[i * 2 + 1]? = some (.string (BS x.2)) := by
  induction l generalizing i with
  | nil => simp at h
  | cons a r ih =>
    have e : qr9 (a :: r) = [.int .i64 a.1, .string (BS a.2)] ++ qr9 r := rfl
    cases i with
    | zero =>
      simp at h
      subst h
      exact ⟨rfl, rfl⟩
    | succ i =>
      have := ih (i := i) (by simpa using h)
      rw [e]
      have e1 : (i + 1) * 2 = 2 + i * 2 := by omega
      rw [e1]
      constructor
      · rw [List.getElem?_append_right (by show 2 ≤ _; omega)]
        simpa using this.1
      · rw [List.getElem?_append_right (by show 2 ≤ _; omega)]
        have e2 : 2 + i * 2 + 1 - ([.int .i64 a.1, .string (BS a.2)] : List Value).length = i * 2 + 1 := by simp; omega
        rw [e2]
        exact this.2
def LvAt (w : World) (base : Nat) (v : Value) (l : List Lv) : Prop := w.ownsRow base 32 2 v l.length (qr9 l)
theorem LvAt.nil (w : World) (base : Nat) : LvAt w base (.slice none 0 0) [] := World.ownsRow_nil _ _ _ _
theorem info_live : (Tryz.prog.info? 32).map (fun i => (i.zero, i.size, i.bytes)) = some (some (.agg #[.int .i64 0, .string ⟨#[]⟩]), 2, 24) := by kernel_rfl
theorem LvAt.app {W W' : World} {base : Nat} {v : Value} {l : List Lv} (h : LvAt W base v l) (hb : base ≤ W.heap.size) (x : Lv) (hn : l.length ≤ 4000000000000) (ty : TypeId) (H : Nat) (hH : W.heap.size = H) (hW : W' = W.alloc (.cells #[.int .i64 x.1, .string (BS x.2)] 32)) :
    ∃ g cap w5, (qm1 #[27, 27] ty #[v, .slice (some ⟨H, 0, none⟩) 1 1]).run Tryz.prog W' = .ok (.slice (some ⟨g, 0, none⟩) (l.length + 1) cap) w5 ∧
      Hid (LvAt w5 base (.slice (some ⟨g, 0, none⟩) (l.length + 1) cap) (l ++ [x])) ∧ Hid (W.grownBy w5 v.ownBlock) ∧ Hid (v.ownBlock = some g ∨ W.heap.size ≤ g) := by
  subst hH hW
  obtain ⟨i0, hi, hz0, hz1, hz2⟩ := info_parts info_live
  have ha := World.ownsRow.alloc h (.cells #[.int .i64 x.1, .string (BS x.2)] 32)
  obtain ⟨g, cap, w5, hr, hown, hgrow, hat, _⟩ := run_append_lies (P := Tryz.prog) (W.alloc (.cells #[.int .i64 x.1, .string (BS x.2)] 32)) 27 ty base 32 i0 _ 2 24 Tryz.underlying27 hi hz0 hz1 hz2 rfl (by omega) v l.length (qr9 l) ha
    ⟨W.heap.size, 0, none⟩ 1 1 [.int .i64 x.1, .string (BS x.2)] rfl (World.news_of_block (cs := #[.int .i64 x.1, .string (BS x.2)]) (t := 32) (fr := (0, 0)) (heap_alloc_new W _)) (by simp [Value.oneCell']) (by omega) (by unfold maxLen; omega) (by omega) (by simp; omega) _ rfl
  have hal := qq0 W (.cells #[.int .i64 x.1, .string (BS x.2)] 32)
  refine ⟨g, cap, w5, hr, v6 ?_, v6 ⟨hgrow.os, hgrow.tape, hgrow.output, ?_, fun k h1 h2 => ?_⟩, v6 ?_⟩
  · show World.ownsRow _ _ _ _ _ _ _
    rw [List.length_append, List.length_singleton, vn5]
    exact hown
  · have := hgrow.size
    simp at this
    omega
  · rw [hgrow.block k (by simp; omega) h2, hal.block k h1]
  · rcases hat with e | e
    · exact .inl e
    · right; simp at e; omega
theorem LvAt.cell {w : World} {base : Nat} {v : Value} {l : List Lv} (h : LvAt w base v l) {i : Nat} {x : Lv} (hi : l[i]? = some x) : ∃ g c, v = .slice (some ⟨g, 0, none⟩) l.length c ∧ g < w.heap.size ∧ w.cell? ⟨g, i * 2, none⟩ = some (.int .i64 x.1) ∧ w.cell? ⟨g, i * 2 + 1, none⟩ = some (.string (BS x.2)) := by
  rcases qd6 h with ⟨_, h0⟩ | ⟨g, c, rfl⟩
  · have := (List.getElem?_eq_some_iff.1 hi).1
    omega
  · obtain ⟨h1, h2⟩ := jg7 hi
    have c1 := World.ownsRow.cells h (g := g) rfl _ _ h1
    have c2 := World.ownsRow.cells h (g := g) rfl _ _ h2
    rw [qj3, Nat.zero_add] at c1 c2
    exact ⟨g, c, rfl, (h.lt g rfl).2, c1, c2⟩
def vq5 (l : List Lv) (id : Int) : List Lv := l.filter fun x => !(x.1 == id)
set_option maxHeartbeats 2000000 in
set_option maxRecDepth 100000 in
theorem jj8 (l : List Lv) (hn : l.length ≤ 3000000000000) (v : Value) (base : Nat) (id : Int) (w : World) (h : LvAt w base v l) :
    Calls Tryz.prog 28 #[v, .int .i64 id] w fun e w' => ∃ v', e = .returned v' ∧ LvAt w' w.heap.size v' (vq5 l id) ∧ Below w.heap.size w w' := by
  have HC : Hid (∀ k x, l[k]? = some x → ∃ g c, v = .slice (some ⟨g, 0, none⟩) l.length c ∧ g < w.heap.size ∧ w.cell? ⟨g, k * 2, none⟩ = some (.int .i64 x.1) ∧ w.cell? ⟨g, k * 2 + 1, none⟩ = some (.string (BS x.2))) := v6 fun k x hk => h.cell hk
  obtain ⟨a, c, rfl⟩ := qc5 h
  obtain ⟨n, hnl⟩ : ∃ n, l.length = n := ⟨_, rfl⟩
  rw [hnl] at HC hn ⊢
  have HN := v6 hnl
  clear h hnl
  go_enter Tryz.func28, Tryz.ntmps28
  go_wp2_with fail
  go_loopw [5, 6] (fun o i wr => ∃ k : Nat, k ≤ n ∧ i = .int .i64 k ∧ Hid (LvAt wr w.heap.size o (vq5 (l.take k) id)) ∧ Hid (Below w.heap.size w wr)) (fun _ i _ => n - (intOf i).toNat)
  case atStart => exact ⟨0, Nat.zero_le _, rfl, v6 (LvAt.nil _ _), v6 (Below.refl _ _)⟩
  case round =>
    obtain ⟨k, hk, rfl, LA, HB⟩ := hrel
    by_cases hlt : k < n
    · obtain ⟨x, hx⟩ : ∃ x, l[k]? = some x := ⟨_, List.getElem?_eq_getElem (by have := q9 HN; omega)⟩
      obtain ⟨g, c', hv, hg, e0, e1⟩ := q9 HC k x hx
      simp at hv
      obtain ⟨rfl, rfl⟩ := hv
      have hb := q9 HB
      rw [← hb.cell (p := ⟨g, k * 2, none⟩) hg] at e0
      rw [← hb.cell (p := ⟨g, k * 2 + 1, none⟩) hg] at e1
      have hS : Hid (vq5 (l.take (k + 1)) id = vq5 (l.take k) id ++ (if x.1 = id then [] else [x])) := v6 (by
        unfold vq5
        rw [List.take_add_one, hx, List.filter_append]
        congr 1
        by_cases e : x.1 = id
        · rw [if_pos e]; simp [e]
        · rw [if_neg e]; simp [e])
      obtain ⟨oa, oc, rfl⟩ := qc5 (q9 LA)
      obtain ⟨m, hm⟩ : ∃ m, (vq5 (l.take k) id).length = m := ⟨_, rfl⟩
      have hml : m ≤ k := by
        rw [← hm]
        unfold vq5
        refine Nat.le_trans (List.length_filter_le _ _) ?_
        rw [List.length_take]
        omega
      rw [hm]
      have hz := hb.size
      have hk0 : (0 : Int) ≤ (k : Int) := by omega
      have hk1 : (k : Int) < (n : Int) := by omega
      by_cases hid : x.1 = id
      · rw [if_pos hid, List.append_nil] at hS
        have hd : (x.1 != id) = false := by simpa using hid
        have HL : Hid (LvAt wr w.heap.size (.slice oa m oc) (vq5 (l.take (k + 1)) id)) := v6 (by rw [q9 hS, ← hm]; exact q9 LA)
        clear LA hid
        go_wp2_with fail
        exact ⟨⟨k + 1, by omega, rfl, HL, HB⟩, by simp [intOf]; omega⟩
      · rw [if_neg hid] at hS
        have hd : (x.1 != id) = true := by simpa using hid
        obtain ⟨g5, cap5, w5, r5, Z5, G5, N5⟩ := LvAt.app (q9 LA) hz x (by rw [hm]; omega) 27 wr.heap.size rfl rfl
        rw [hm] at r5
        have HL : Hid (LvAt w5 w.heap.size (.slice (some ⟨g5, 0, none⟩) (m + 1) cap5) (vq5 (l.take (k + 1)) id)) := v6 (by rw [q9 hS, ← hm]; exact q9 Z5)
        have HB5 : Hid (Below w.heap.size w w5) := v6 (hb.grown (q9 G5) hb.size fun j hj => ((q9 LA).lt j hj).1)
        clear G5 N5 Z5 LA hid
        go_wp2_with fail
        exact ⟨⟨k + 1, by omega, rfl, HL, HB5⟩, by simp [intOf]; omega⟩
    · have hkn : k = n := by omega
      subst hkn
      have HZ : Hid (LvAt wr w.heap.size u5 (vq5 l id)) := v6 (by have := q9 LA; rw [← q9 HN, List.take_length] at this; exact this)
      clear LA
      go_wp2_with fail
      go_ret
      exact ⟨_, rfl, q9 HZ, q9 HB⟩
end
end Go.Proofs.YtfkcaldjphakpabGreatDoor
