/- Subscribe: a subscription begins. Subscribe of a number that is there, and to a broker that is full; Canon; Compile of too many. Publish: what it keeps in memory. Publish. -/
import Derived.Test.YtfkcaldjphakpabGreatDoorN25
import Derived.Test.YtfkcaldjphakpabGreatDoorN28
import Derived.Test.YtfkcaldjphakpabGreatDoorN31
import Derived.Test.YtfkcaldjphakpabGreatDoorN23
namespace Go.Proofs.YtfkcaldjphakpabGreatDoor
open Go.RowKit

section
def insX (l : List Sx) (k : Nat) (x : Sx) : List Sx := l.take k ++ x :: l.drop k
def insS (L : List Su) (k : Nat) (x : Su) : List Su := L.take k ++ x :: L.drop k
def placeS (L : List Su) (id : Int) : Nat := L.countP fun s => decide (s.id < id)

theorem insX_sb (l : List Sx) (k : Nat) (x : Sx) : (insX l k x).map Sx.sb = insL (l.map Sx.sb) k x.sb := by simp [insX, insL, List.map_append, List.map_take, List.map_drop]
theorem insX_su (l : List Sx) (k : Nat) (x : Sx) : (insX l k x).map Sx.su = insS (l.map Sx.su) k x.su := by simp [insX, insS, List.map_append, List.map_take, List.map_drop]
theorem insX_length (l : List Sx) (k : Nat) (x : Sx) : (insX l k x).length = l.length + 1 := by simp [insX]; omega
theorem insX_mem {l : List Sx} {k : Nat} {x y : Sx} (h : y ∈ insX l k x) : y = x ∨ y ∈ l := by
  unfold insX at h
  rcases List.mem_append.1 h with h | h
  · exact .inr (List.mem_of_mem_take h)
  · rcases List.mem_cons.1 h with h | h
    · exact .inl h
    · exact .inr (List.mem_of_mem_drop h)
theorem placeS_eq (l : List Sx) (id : Int) : placeId (l.map Sx.sb) id = placeS (l.map Sx.su) id := by
  unfold placeId placeS
  rw [List.countP_map, List.countP_map]
  rfl
theorem row_slice {w : World} {base size n : Nat} {e : TypeId} {v : Value} {xs : List Value} (h : w.ownsRow base e size v n xs) : ∃ a c, v = .slice a n c := by
  rcases row_forms h with ⟨rfl, rfl⟩ | ⟨g, c, rfl⟩
  · exact ⟨_, _, rfl⟩
  · exact ⟨_, _, rfl⟩
theorem placeId_le (l : List Sb) (id : Int) : placeId l id ≤ l.length := List.countP_le_length

/-- A row into which one is put at its place rises. -/
theorem rising_ins {l : List Sb} (h : RisingS l) (s : Sb) (hno : ∀ t ∈ l, t.id ≠ s.id) : RisingS (insL l (placeId l s.id) s) := by
  have hc := count_split h s.id
  unfold RisingS insL
  have h1 : ∀ t ∈ l.take (placeId l s.id), t.id < s.id := by
    intro t ht
    obtain ⟨i, hi⟩ := List.getElem?_of_mem ht
    rw [List.getElem?_take] at hi
    split at hi
    · rename_i hlt
      exact (hc i t hi).2 hlt
    · cases hi
  have h2 : ∀ t ∈ l.drop (placeId l s.id), s.id < t.id := by
    intro t ht
    obtain ⟨i, hi⟩ := List.getElem?_of_mem ht
    rw [List.getElem?_drop] at hi
    have := hc _ t hi
    have h3 := hno t (List.mem_of_mem_drop ht)
    by_cases h4 : t.id < s.id
    · have := this.1 h4; omega
    · omega
  rw [List.pairwise_append]
  refine ⟨h.sublist (List.take_sublist _ _), List.pairwise_cons.2 ⟨h2, h.sublist (List.drop_sublist _ _)⟩, fun a ha b hb => ?_⟩
  rcases List.mem_cons.1 hb with rfl | hb
  · exact h1 a ha
  · exact Int.lt_trans (h1 a ha) (h2 b hb)

/-- A broker into whose row one has been put, and whose program has been made anew. -/
theorem BrAt.inserted {w W : World} {bb : Nat} {last : Int} {sv tv rv sv' tv' rv' : Value} {l : List Sx} (h : BrAt w bb last sv tv rv l) {k : Nat} {x : Sx} (hb : Below w.heap.size w W)
    (hrow : SbRow W w.heap.size sv' (insL (l.map Sx.sb) k x.sb)) (hr : RowsAt W w.heap.size tv' rv' (tsX (insX l k x)) (rsX (insX l k x)))
    (hx0 : x.row = none) (hx1 : x.cap = 0) (hx2 : x.ms = []) (hco : CoAt x.lo x.hi W (.pointer x.cp) x.co) (hlo : w.heap.size ≤ x.lo) (hhi : x.hi ≤ W.heap.size) (hgd : GoodC x.co) (hsz : sizeC x.co ≤ 10000)
    (ho : ∀ k, sv'.ownBlock = some k ∨ tv'.ownBlock = some k ∨ rv'.ownBlock = some k → k < x.lo ∨ x.hi ≤ k)
    (hup : RisingS (insL (l.map Sx.sb) k x.sb)) (h8 : l.length < 8) (hp : Prg (tsX (insX l k x)) (rsX (insX l k x))) :
    BrAt (((W.setCell ⟨bb, 1, none⟩ sv').setCell ⟨bb, 2, none⟩ tv').setCell ⟨bb, 3, none⟩ rv') bb last sv' tv' rv' (insX l k x) := by
  have hz := hb.size
  have hlt := h.lt
  have blk3 := blk_set3 (blk_set2 (blk_set1 ((hb.block bb hlt).trans h.blk) sv') tv') rv'
  have late : ∀ k, k ≠ bb → (((W.setCell ⟨bb, 1, none⟩ sv').setCell ⟨bb, 2, none⟩ tv').setCell ⟨bb, 3, none⟩ rv').heap[k]? = W.heap[k]? := fun k h2 => by
    rw [Below.heap_setCell _ ⟨bb, 3, none⟩ _ k (by show k ≠ bb; exact h2), Below.heap_setCell _ ⟨bb, 2, none⟩ _ k (by show k ≠ bb; exact h2), Below.heap_setCell _ ⟨bb, 1, none⟩ _ k (by show k ≠ bb; exact h2)]
  have hxv : x.hv = .slice none 0 0 := by unfold Sx.hv; rw [hx0, hx1, hx2]; rfl
  have hxo : ∀ k, x.hv.ownBlock ≠ some k := fun k => by rw [hxv]; simp [Value.ownBlock]
  refine ⟨blk3, ?_, ⟨?_, ?_, hr.ne⟩, fun y hy => ?_, ?_, fun y hy => ?_, fun y hy k' hk => ?_, ?_, by rw [insX_length]; omega, fun y hy => ?_, hp⟩
  · show World.ownsRow _ 0 _ 3 _ ((insX l k x).map Sx.sb).length (sbsCells ((insX l k x).map Sx.sb))
    rw [insX_sb]
    exact ownsRow_le' (ownsRow_same hrow fun j hj => late j (fun e => by have := (hrow.lt j hj).1; omega)) (Nat.zero_le _)
  · exact ownsRow_le' (ownsRow_same hr.ats fun j hj => late j (fun e => by have := (hr.ats.lt j hj).1; omega)) (Nat.zero_le _)
  · exact ownsRow_le' (ownsRow_same hr.ars fun j hj => late j (fun e => by have := (hr.ars.lt j hj).1; omega)) (Nat.zero_le _)
  · rcases insX_mem hy with rfl | hy
    · rw [hxv, hx2]
      exact World.ownsRow_nil _ _ _ _
    · have hq := h.hps y hy
      exact ownsRow_same hq fun j hj => by
        have hj1 := (hq.lt j hj).2
        rw [late j (fun e => by subst e; exact row_ne_bb hq h.blk (by decide) hj), hb.block j hj1]
  · unfold insX
    rw [List.pairwise_append]
    refine ⟨h.dis.sublist (List.take_sublist _ _), List.pairwise_cons.2 ⟨fun y _ j hj => absurd hj (hxo j), h.dis.sublist (List.drop_sublist _ _)⟩, fun a ha b hb' => ?_⟩
    rcases List.mem_cons.1 hb' with rfl | hb'
    · exact fun j _ => hxo j
    · have hd := h.dis
      rw [← List.take_append_drop k l, List.pairwise_append] at hd
      exact hd.2.2 a ha b hb'
  · rcases insX_mem hy with rfl | hy
    · refine ⟨CoAt.keep (Nat.le_refl _) (fun j j1 j2 => late j (by omega)) (by simp) hco, by simp; omega, hgd, hsz⟩
    · obtain ⟨h1, h2, h3⟩ := h.cos y hy
      refine ⟨CoAt.keep (Nat.le_refl _) (fun j j1 j2 => ?_) (by simp; omega) h1, by simp; omega, h3⟩
      rw [late j (fun e => by have := h.out y hy j (.inl e); omega), hb.block j (by omega)]
  · have hk2 : k' = bb ∨ (∃ z ∈ l, z.hv.ownBlock = some k') ∨ (w.heap.size ≤ k' ∧ (sv'.ownBlock = some k' ∨ tv'.ownBlock = some k' ∨ rv'.ownBlock = some k')) := by
      rcases hk with e | e | e | e | ⟨z, hz', e⟩
      · exact .inl e
      · exact .inr (.inr ⟨(hrow.lt k' e).1, .inl e⟩)
      · exact .inr (.inr ⟨(hr.ats.lt k' e).1, .inr (.inl e)⟩)
      · exact .inr (.inr ⟨(hr.ars.lt k' e).1, .inr (.inr e)⟩)
      · rcases insX_mem hz' with rfl | hz'
        · exact absurd e (hxo k')
        · exact .inr (.inl ⟨z, hz', e⟩)
    rcases insX_mem hy with rfl | hy
    · rcases hk2 with e | ⟨z, hz', e⟩ | ⟨_, e⟩
      · left; omega
      · have := ((h.hps z hz').lt k' e).2
        left; omega
      · exact ho k' e
    · have h2 := (h.cos y hy).2.1
      rcases hk2 with e | ⟨z, hz', e⟩ | ⟨e, _⟩
      · exact h.out y hy k' (.inl e)
      · exact h.out y hy k' (.inr (.inr (.inr (.inr ⟨z, hz', e⟩))))
      · right; omega
  · rw [insX_sb]
    exact hup
  · rcases insX_mem hy with rfl | hy
    · rw [hx2]; exact Nat.zero_le _
    · exact h.m6 y hy

/-- A new row with the new subscription in it lies ready. -/
structure SbReady (w : World) (ls : List Sb) (P n : Nat) (id : Int) (c : Co) (W : World) (g cap : Nat) (x : Sx) : Prop where
  below : Below w.heap.size w W
  row : SbRow W w.heap.size (.slice (some ⟨g, 0, none⟩) (n + 1) cap) (insL ls P x.sb)
  core : CoAt x.lo x.hi W (.pointer x.cp) c
  lo : w.heap.size ≤ x.lo
  hi : x.hi ≤ W.heap.size
  out : g < x.lo ∨ x.hi ≤ g
  eid : x.id = id
  eco : x.co = c
  e0 : x.row = none
  e1 : x.cap = 0
  e2 : x.ms = []
theorem SbReady.more {w : World} {ls : List Sb} {P n : Nat} {id : Int} {c : Co} {W W' : World} {g cap : Nat} {x : Sx} (h : SbReady w ls P n id c W g cap x) (hb : Below W.heap.size W W') : SbReady w ls P n id c W' g cap x :=
  ⟨below_any h.below hb, ownsRow_same h.row fun k hk => hb.block k (h.row.lt k hk).2, CoAt.keep (Nat.le_refl _) (fun k _ k2 => hb.block k (by have := h.hi; omega)) hb.size h.core, h.lo, Nat.le_trans h.hi hb.size, h.out, h.eid, h.eco, h.e0, h.e1, h.e2⟩

set_option maxHeartbeats 4000000 in
set_option maxRecDepth 100000 in
theorem sub_ok (w : World) (F : Nat → Prop) (bb : Nat) (last : Int) (L : List Su) (h : Br w F bb last L) (id : Int) (hno : ∀ x ∈ L, x.id ≠ id) (s : List UInt8) (c : Co) (htx : TxOk s c) (h8 : L.length < 8) (hL : LibOk w)
    (h80 : (progS (insS L (placeS L id) ⟨id, c, []⟩)).1.length ≤ 80) (hprg : PrgS (insS L (placeS L id) ⟨id, c, []⟩))
    (Q : Ending → World → Prop) (hQ : ∀ w', Br w' (upF F w w') bb last (insS L (placeS L id) ⟨id, c, []⟩) → Grow F w w' → Q (.returned (.tuple #[.int .i64 0, .int .i64 0])) w') :
    Calls Tryz.prog 12 #[.pointer (some ⟨bb, 0, none⟩), .int .i64 id, .string (BS s)] w Q := by
  obtain ⟨hF, sv, tv, rv, l, hB, hLl, hfoot⟩ := h
  obtain ⟨t, hrd, hcore, hin, hgood, hsize, hslen⟩ := htx
  have hnl : ∀ x ∈ l, x.id ≠ id := fun x hx => by have := hno x.su (by rw [← hLl]; exact List.mem_map_of_mem hx); exact this
  have hll : l.length = L.length := by rw [← hLl, List.length_map]
  have FD := hide (find_no hB hnl)
  obtain ⟨P, hP⟩ : ∃ P, placeId (l.map Sx.sb) id = P := ⟨_, rfl⟩
  have hPS : placeS L id = P := by rw [← hP, ← hLl, placeS_eq]
  have hPle : P ≤ l.length := by have := placeId_le (l.map Sx.sb) id; rw [List.length_map, hP] at this; exact this
  rw [hP] at FD
  rw [hPS] at h80 hprg hQ
  obtain ⟨a, cp, rfl⟩ : ∃ a cp, sv = .slice a l.length cp := by
    obtain ⟨a, cp, e⟩ := row_slice hB.row
    exact ⟨a, cp, by rw [e, List.length_map]⟩
  obtain ⟨n, hn⟩ : ∃ n, l.length = n := ⟨_, rfl⟩
  have hn8 : n < 8 := by omega
  have RD : Hid (∀ w', Below w.heap.size w w' → Calls Tryz.prog 31 #[.string (BS s)] w' (ReadEnds w' (.ok t))) := hide fun w' hb => hrd ▸ read_any (BS s) w' (hL.below hb (Nat.le_refl _)).err (by rw [BS_size]; exact hslen)
  have CELLS : Hid (∀ w', Below w.heap.size w w' → w'.cell? ⟨bb, 1, none⟩ = some (.slice a n cp)) := hide fun w' hb => by rw [← hn]; exact (hB.below hb).cells.2.1
  have CL : Hid (∀ w', Below w.heap.size w w' → Calls Tryz.prog 33 #[.slice a n cp] w' fun e w'' => ∃ a3 c3, e = .returned (.slice a3 n c3) ∧ Hid (SbRow w'' w'.heap.size (.slice a3 n c3) (l.map Sx.sb)) ∧ Hid (Below w'.heap.size w' w'')) := hide (by
    intro w' hb
    have hr := (hB.below hb).row
    rw [hn] at hr
    refine (cloneSb_any (l.map Sx.sb) (by rw [List.length_map]; omega) _ 0 w' hr).mono ?_
    rintro e w'' ⟨v', rfl, h1, h2⟩
    obtain ⟨a3, c3, e3⟩ := row_slice h1
    rw [List.length_map, hn] at e3
    subst e3
    exact ⟨a3, c3, rfl, hide h1, hide h2⟩)
  have CO : Hid (∀ (lo : Nat) (U U' : World) (v : Value), Below w.heap.size w U → Below U.heap.size U U' → IsNode lo U v t → Calls Tryz.prog 34 #[v] U' (Ends U'.heap.size U' c)) := hide fun lo U U' v hU hU' hnd => hcore ▸ cof_every lo t hin (ok_of_read hrd) U'.heap.size U' v (Nat.le_refl _) (hL.below (below_any hU hU') (Nat.le_refl _)) (hnd.above ⟨hU'.size, fun k _ h2 => hU'.block k h2⟩)
  have INS : Hid (∀ (w2 w3 w4 : World) (a3 : Option Addr) (c3 b4 : Nat), Below w.heap.size w w2 → Below w2.heap.size w2 w3 → SbRow w3 w2.heap.size (.slice a3 n c3) (l.map Sx.sb) → Below w3.heap.size w3 w4 → CoAt w3.heap.size w4.heap.size w4 (.pointer (some ⟨b4, 0, none⟩)) c →
      Calls Tryz.prog 32 #[.slice a3 n c3, .int .i64 P, .slice (some ⟨w4.heap.size, 0, none⟩) 1 1] (w4.alloc (.cells #[.int .i64 id, .pointer (some ⟨b4, 0, none⟩), .slice none 0 0] 83)) fun e W => ∃ g cap x, e = .returned (.slice (some ⟨g, 0, none⟩) (n + 1) cap) ∧ Hid (SbReady w (l.map Sx.sb) P n id c W g cap x)) := hide (by
    intro w2 w3 w4 a3 c3 b4 hb2 hb3 hr3 hb4 hc4
    obtain ⟨x, hx⟩ : ∃ x : Sx, x = ⟨id, some ⟨b4, 0, none⟩, w3.heap.size, w4.heap.size, c, none, 0, []⟩ := ⟨_, rfl⟩
    have hz2 := hb2.size
    have hz3 := hb3.size
    have hz4 := hb4.size
    obtain ⟨w5, hw5⟩ : ∃ w5, w5 = w4.alloc (.cells #[.int .i64 id, .pointer (some ⟨b4, 0, none⟩), .slice none 0 0] 83) := ⟨_, rfl⟩
    have hz5 : w5.heap.size = w4.heap.size + 1 := by rw [hw5]; simp
    have hb5 : Below w4.heap.size w4 w5 := by rw [hw5]; exact (Below.refl _ _).alloc (Nat.le_refl _) _
    have hr5 : SbRow w5 w2.heap.size (.slice a3 n c3) (l.map Sx.sb) := ownsRow_same hr3 fun k hk => by
      have := (hr3.lt k hk).2
      rw [hb5.block k (by omega), hb4.block k (by omega)]
    have hne5 : (Value.slice a3 n c3).ownBlock ≠ some w4.heap.size := fun e => by have := (hr3.lt _ e).2; omega
    rw [← hw5]
    refine (insert_any (l.map Sx.sb) x.sb P (by rw [List.length_map]; exact hPle) (by rw [List.length_map]; omega) _ w2.heap.size w4.heap.size w5 hr5 hne5 (by rw [hw5, hx]; exact heap_alloc_new w4 _) (by omega)).mono ?_
    rintro e W ⟨g, cap, rfl, h1, h2, h3⟩
    rw [insL_length, List.length_map, hn] at h1 ⊢
    have hzW := h2.size
    have keep : ∀ k, w3.heap.size ≤ k → k < w4.heap.size → W.heap[k]? = w4.heap[k]? := fun k k1 k2 => by
      rw [h2.block k (by omega) (fun e => by have := (hr3.lt _ e.symm).2; omega), hb5.block k k2]
    refine ⟨g, cap, x, rfl, hide ⟨⟨?_, ?_, ?_, by omega, fun k hk => ?_⟩, ownsRow_le' h1 (by omega), ?_, ?_, ?_, ?_, by rw [hx], by rw [hx], by rw [hx], by rw [hx], by rw [hx]⟩⟩
    · exact h2.os.trans (hb5.os.trans (hb4.os.trans (hb3.os.trans hb2.os)))
    · exact h2.tape.trans (hb5.tape.trans (hb4.tape.trans (hb3.tape.trans hb2.tape)))
    · exact h2.output.trans (hb5.output.trans (hb4.output.trans (hb3.output.trans hb2.output)))
    · rw [h2.block k (by omega) (fun e => by have := (hr3.lt _ e.symm).1; omega), hb5.block k (by omega), hb4.block k (by omega), hb3.block k (by omega), hb2.block k hk]
    · rw [hx]
      exact CoAt.keep (Nat.le_refl _) keep (by omega) hc4
    · rw [hx]; exact Nat.le_trans hz2 hz3
    · rw [hx]; show w4.heap.size ≤ _; omega
    · rw [hx]
      show g < w3.heap.size ∨ w4.heap.size ≤ g
      rcases h3 with e | e
      · left; exact (hr3.lt _ e).2
      · right; omega)
  have TG : Hid (∀ (W : World) (g cap : Nat) (x : Sx), SbReady w (l.map Sx.sb) P n id c W g cap x → Calls Tryz.prog 35 #[.slice (some ⟨g, 0, none⟩) (n + 1) cap] W fun e W' => ∃ a7 n7 c7 a8 n8 c8, e = .returned (.agg #[.slice a7 n7 c7, .slice a8 n8 c8]) ∧ n7 ≤ 80 ∧ Hid (∀ U, Below W'.heap.size W' U → U.cell? ⟨bb, 1, none⟩ = some (.slice a n cp) ∧ (∃ u2 u3, U.cell? ⟨bb, 2, none⟩ = some u2 ∧ U.cell? ⟨bb, 3, none⟩ = some u3) ∧ (∀ j, U.frozen? ⟨bb, j, none⟩ = false) ∧ bb < U.heap.size ∧ Hid (Q (.returned (.tuple #[.int .i64 0, .int .i64 0])) (((U.setCell ⟨bb, 1, none⟩ (.slice (some ⟨g, 0, none⟩) (n + 1) cap)).setCell ⟨bb, 2, none⟩ (.slice a7 n7 c7)).setCell ⟨bb, 3, none⟩ (.slice a8 n8 c8))))) := hide (by
    intro W g cap x hR
    have hlen : (insL (l.map Sx.sb) P x.sb).length = n + 1 := by rw [insL_length, List.length_map, hn]
    have hcl : (coresX (insX l P x)).length = n + 1 := by unfold coresX; rw [List.length_map, insX_length, hn]
    have hzW := hR.below.size
    have T := together_any (insL (l.map Sx.sb) P x.sb) (coresX (insX l P x)) (by rw [hcl, hlen]) (by rw [hlen]; omega) (.slice (some ⟨g, 0, none⟩) (n + 1) cap) W (SbRow.subs hR.row) (by
      intro k s' cc hs hc
      rw [← insX_sb, List.getElem?_map] at hs
      unfold coresX at hc
      rw [List.getElem?_map] at hc
      cases hz : (insX l P x)[k]? with
      | none => rw [hz] at hs; cases hs
      | some z =>
        rw [hz] at hs hc
        simp at hs hc
        subst hs hc
        rcases insX_mem (List.mem_of_getElem? hz) with rfl | hzm
        · refine ⟨?_, by rw [hR.eco]; exact hgood, by rw [hR.eco]; exact hsize⟩
          have q := hR.core
          rw [← hR.eco] at q
          exact CoAt.low (Nat.zero_le _) (CoAt.keep hR.hi (fun _ _ _ => rfl) (Nat.le_refl _) q)
        · obtain ⟨q1, q2, q3, q4⟩ := (hB.below hR.below).cos z hzm
          exact ⟨CoAt.low (Nat.zero_le _) (CoAt.keep q2 (fun _ _ _ => rfl) (Nat.le_refl _) q1), q3, q4⟩)
    refine T.mono ?_
    rintro e W' ⟨tv', rv', rfl, hr, hb'⟩
    rw [hlen] at hr
    have hSu : (insX l P x).map Sx.su = insS L P ⟨id, c, []⟩ := by
      rw [insX_su, hLl]
      congr 1
      unfold Sx.su
      rw [hR.eid, hR.eco, hR.e2]
    have hpS := progS_of (insX l P x)
    rw [hSu] at hpS
    have hp' : Prg (tsX (insX l P x)) (rsX (insX l P x)) := PrgS.at (by rw [hSu]; exact hprg)
    have hr' : RowsAt W' W.heap.size tv' rv' (tsX (insX l P x)) (rsX (insX l P x)) := by
      unfold tsX rsX
      rw [insX_length, hn]
      exact hr
    have h80' : (tsX (insX l P x)).length ≤ 80 := by rw [hpS] at h80; exact h80
    obtain ⟨a7, c7, e7⟩ := row_slice hr'.ats
    obtain ⟨a8, c8, e8⟩ := row_slice hr'.ars
    subst e7 e8
    refine ⟨a7, _, c7, a8, _, c8, rfl, h80', hide fun U hU => ?_⟩
    have hRU := (hR.more hb').more hU
    have hz' := hb'.size
    have hzU := hU.size
    have hBU := hB.below hRU.below
    obtain ⟨d0, d1, d2, d3, d4⟩ := hBU.cells
    rw [hn] at d1
    have hrU : RowsAt U w.heap.size (.slice a7 (tsX (insX l P x)).length c7) (.slice a8 (rsX (insX l P x)).length c8) (tsX (insX l P x)) (rsX (insX l P x)) := ⟨ownsRow_le' (ownsRow_same hr'.ats fun k hk => hU.block k (hr'.ats.lt k hk).2) hzW, ownsRow_le' (ownsRow_same hr'.ars fun k hk => hU.block k (hr'.ars.lt k hk).2) hzW, hr'.ne⟩
    have hrow := hRU.row
    have up := rising_ins hB.up x.sb (fun t ht => by
      obtain ⟨z, hz, rfl⟩ := List.mem_map.1 ht
      have := hnl z hz
      show z.id ≠ x.id
      rw [hR.eid]
      exact this)
    have exid : x.sb.id = id := hR.eid
    rw [exid, hP] at up
    have hBi := hB.inserted hRU.below hrow hrU hR.e0 hR.e1 hR.e2 (by rw [hR.eco]; exact hRU.core) hR.lo hRU.hi (by rw [hR.eco]; exact hgood) (by rw [hR.eco]; exact hsize) (by
      intro k hk
      rcases hk with e | e | e
      · have e' : g = k := by simpa [Value.ownBlock] using e
        rw [← e']; exact hR.out
      · have := (hr'.ats.lt k e).1; have := hR.hi; right; omega
      · have := (hr'.ars.lt k e).1; have := hR.hi; right; omega) up (by omega) hp'
    refine ⟨d1, ⟨_, _, d2, d3⟩, d4, hBU.lt, hide (hQ _ ⟨?_, _, _, _, insX l P x, hBi, hSu, ?_⟩ ?_)⟩
    · intro k hk
      rcases hk with hk | hk
      · have := hF k hk; simp; omega
      · exact hk.2
    · intro k hk
      have hlt := hBi.foot_lt hk
      by_cases hkw : w.heap.size ≤ k
      · exact .inr ⟨hkw, hlt⟩
      · left
        apply hfoot
        rcases hk with (e | e | e | e | ⟨z, hz, e⟩) | ⟨z, hz, e⟩
        · exact .inl (.inl e)
        · have := (hrow.lt k e).1; omega
        · have := (hrU.ats.lt k e).1; omega
        · have := (hrU.ars.lt k e).1; omega
        · rcases insX_mem hz with rfl | hz
          · unfold Sx.hv at e; rw [hR.e0] at e; simp [Value.ownBlock] at e
          · exact .inl (.inr (.inr (.inr (.inr ⟨z, hz, e⟩))))
        · rcases insX_mem hz with rfl | hz
          · have := hR.lo; omega
          · exact .inr ⟨z, hz, e⟩
    · refine ⟨hRU.below.os, hRU.below.tape, hRU.below.output, by simp; omega, fun k h1 h2 => ?_⟩
      have hkb : k ≠ bb := fun e => h2 (hfoot k (.inl (.inl e)))
      rw [Below.heap_setCell _ ⟨bb, 3, none⟩ _ k (by show k ≠ bb; exact hkb), Below.heap_setCell _ ⟨bb, 2, none⟩ _ k (by show k ≠ bb; exact hkb), Below.heap_setCell _ ⟨bb, 1, none⟩ _ k (by show k ≠ bb; exact hkb)]
      exact hRU.below.block k h1)
  have hd8 : decide ((n : Int) = 8) = false := decide_eq_false (by omega)
  clear hB hLl hfoot hQ hn hF hprg hin hrd hcore hgood hsize hslen hnl hll hPle hL h80 hPS hP hno
  go_enter Tryz.func12, Tryz.ntmps12
  go_wp2_with (first | (go_at_call 30; refine (unhide FD).mono ?_; rintro e w1 ⟨rfl, hb1⟩; have B1 := hide hb1; clear hb1) | (go_at_call 31; refine (unhide RD _ (unhide B1)).mono ?_; rintro e w2 ⟨hb2, v2, rfl, hn2⟩; obtain ⟨vb, rfl⟩ := hn2.ptr; have N2 := hide hn2; have B2 := hide (below_any (unhide B1) hb2); have c2 := unhide CELLS w2 (unhide B2); clear hn2 hb2) | (go_at_call 33; refine (unhide CL _ (unhide B2)).mono ?_; rintro e w3 ⟨a3, c3, rfl, R3, B3⟩) | (go_at_call 34; refine (unhide CO _ _ _ _ (unhide B2) (unhide B3) (unhide N2)).mono ?_; rintro e w4 ⟨b4, rfl, hc4, hb4⟩; have C4 := hide hc4; have B4 := hide hb4; clear hc4 hb4) | (go_at_call 32; refine (unhide INS _ _ _ _ _ _ (unhide B2) (unhide B3) (unhide R3) (unhide B4) (unhide C4)).mono ?_; rintro e w6 ⟨g6, cap6, x6, rfl, R6⟩) | (go_at_call 35; refine (unhide TG _ _ _ _ (unhide R6)).mono ?_; rintro e w7 ⟨a7, n7, c7, a8, n8, c8, rfl, h80, E7⟩) | (go_at_call 36; obtain ⟨U, hU⟩ : ∃ U, U = w7.alloc (.cells #[.slice a7 n7 c7, .slice a8 n8 c8] 65) := ⟨_, rfl⟩; rw [← hU]; have t0 : U.cell? ⟨w7.heap.size, 0, none⟩ = some (.slice a7 n7 c7) := (by rw [hU]; simp [go_sem]); have t1 : U.cell? ⟨w7.heap.size, 1, none⟩ = some (.slice a8 n8 c8) := (by rw [hU]; simp [go_sem]); obtain ⟨d1, ⟨u2, u3, d2, d3⟩, d4, dl, E8⟩ := unhide E7 U (by rw [hU]; exact below1 _ _); clear hU; refine (terms_any _ 0 n7 a7 c7 U t0).mono ?_; rintro e w8 ⟨rfl, rfl⟩))
  exact unhide E8
end

section
set_option maxHeartbeats 2000000 in
theorem sub_twice (w : World) (F : Nat → Prop) (bb : Nat) (last : Int) (L : List Su) (h : Br w F bb last L) (i : Nat) (x : Su) (hx : L[i]? = some x) (s : ByteArray) :
    Calls Tryz.prog 12 #[.pointer (some ⟨bb, 0, none⟩), .int .i64 x.id, .string s] w fun e w' => e = .returned (.tuple #[.int .i64 6, .int .i64 0]) ∧ Below w.heap.size w w' := by
  obtain ⟨hF, sv, tv, rv, l, hB, hL, hfoot⟩ := h
  obtain ⟨y, hy, hyx⟩ := getX hL hx
  have hpl := place_at hB.up (i := i) (s := y.sb) (by rw [List.getElem?_map, hy]; rfl)
  have hyid : y.sb.id = x.id := by rw [← hyx]; rfl
  rw [hyid] at hpl
  have FD := hide (bfind_any bb (l.map Sx.sb) x.id _ w hB.cells.2.1 (SbRow.subs hB.row) hB.up (by rw [List.length_map]; exact hB.n8))
  rw [hpl.1, hpl.2] at FD
  clear hB hL hfoot hF hpl hyid hx hy hyx
  go_enter Tryz.func12, Tryz.ntmps12
  go_wp2_with (go_at_call 30; refine (unhide FD).mono ?_; rintro e w1 ⟨rfl, hb1⟩; have B1 := hide hb1; clear hb1)
  go_ret2
  exact ⟨rfl, unhide B1⟩

set_option maxHeartbeats 2000000 in
set_option maxRecDepth 100000 in
theorem sub_full8 (w : World) (F : Nat → Prop) (bb : Nat) (last : Int) (L : List Su) (h : Br w F bb last L) (id : Int) (hno : ∀ x ∈ L, x.id ≠ id) (s : ByteArray) (hs : s.size ≤ 140737488355328) (t : Ast) (hrd : readR s = .ok t) (h8 : L.length = 8) (hE : ErrOk w) :
    Calls Tryz.prog 12 #[.pointer (some ⟨bb, 0, none⟩), .int .i64 id, .string s] w fun e w' => e = .returned (.tuple #[.int .i64 8, .int .i64 0]) ∧ Below w.heap.size w w' := by
  obtain ⟨hF, sv, tv, rv, l, hB, hL, hfoot⟩ := h
  have hnl : ∀ x ∈ l, x.id ≠ id := fun x hx => by have := hno x.su (by rw [← hL]; exact List.mem_map_of_mem hx); exact this
  have hll : l.length = 8 := by rw [← h8, ← hL, List.length_map]
  have FD := hide (find_no hB hnl)
  generalize placeId (l.map Sx.sb) id = P at *
  obtain ⟨a, cp, rfl⟩ : ∃ a cp, sv = .slice a 8 cp := by
    obtain ⟨a, cp, e⟩ := row_slice hB.row
    exact ⟨a, cp, by rw [e, List.length_map, hll]⟩
  have RD : Hid (∀ w', Below w.heap.size w w' → Calls Tryz.prog 31 #[.string s] w' (ReadEnds w' (.ok t))) := hide fun w' hb => hrd ▸ read_any s w' (hE.below hb (Nat.le_refl _)) hs
  have CELLS : Hid (∀ w', Below w.heap.size w w' → w'.cell? ⟨bb, 1, none⟩ = some (.slice a 8 cp)) := hide fun w' hb => (hB.below hb).cells.2.1
  clear hB hL hfoot hF hnl hll hno hrd h8 hE
  go_enter Tryz.func12, Tryz.ntmps12
  go_wp2_with (first | (go_at_call 30; refine (unhide FD).mono ?_; rintro e w1 ⟨rfl, hb1⟩; have B1 := hide hb1; clear hb1) | (go_at_call 31; refine (unhide RD _ (unhide B1)).mono ?_; rintro e w2 ⟨hb2, v2, rfl, hn2⟩; obtain ⟨vb, rfl⟩ := hn2.ptr; have B2 := hide (below_any (unhide B1) hb2); have c2 := unhide CELLS w2 (unhide B2); clear hn2 hb2))
  go_ret2
  exact ⟨rfl, unhide B2⟩

/-- How Canon ends. -/
def CnEnds (w : World) (r : RRes) (e : Ending) (w' : World) : Prop := Below w.heap.size w w' ∧ match r with
  | .ok t => e = .returned (.tuple #[.string (BS (spell (coreA t))), .int .i64 0, .int .i64 0])
  | .err en pl => e = .returned (.tuple #[.string ⟨#[]⟩, .int .i64 en, .int .i64 pl])

set_option maxHeartbeats 2000000 in
theorem canon_any (s : ByteArray) (hs : s.size ≤ 140737488355328) (w : World) (hL : LibOk w) : Calls Tryz.prog 23 #[.string s] w (CnEnds w (readR s)) := by
  have RD := hide (read_any s w hL.err hs)
  cases hrd : readR s with
  | ok t =>
    rw [hrd] at RD
    have CO : Hid (∀ (lo : Nat) (U : World) (v : Value), Below w.heap.size w U → IsNode lo U v t → Calls Tryz.prog 34 #[v] U fun e w' => ∃ b, e = .returned (.pointer (some ⟨b, 0, none⟩)) ∧ w'.cell? ⟨b, 6, none⟩ = some (.string (BS (spell (coreA t)))) ∧ Below w.heap.size w w') := hide (by
      intro lo U v hU hn
      refine (cof_every lo t (fun _ => amongOk) (ok_of_read hrd) U.heap.size U v (Nat.le_refl _) (hL.below hU (Nat.le_refl _)) hn).mono ?_
      rintro e w' ⟨b, rfl, h1, h2⟩
      obtain ⟨b', e', _, h3⟩ := h1.text
      have eb : b = b' := by injection e' with e'; injection e' with e'; injection e' with e'
      subst eb
      exact ⟨b, rfl, h3, below_any hU h2⟩)
    obtain ⟨S, hS⟩ : ∃ S, spell (coreA t) = S := ⟨_, rfl⟩
    unfold CnEnds
    simp only
    rw [hS] at CO ⊢
    clear hrd hL hS
    go_enter Tryz.func23, Tryz.ntmps23
    go_wp2_with (first | (go_at_call 31; refine (unhide RD).mono ?_; rintro e w2 ⟨hb2, v2, rfl, hn2⟩; obtain ⟨vb, rfl⟩ := hn2.ptr; have N2 := hide hn2; have B2 := hide hb2; clear hn2 hb2) | (go_at_call 34; refine (unhide CO _ _ _ (unhide B2) (unhide N2)).mono ?_; rintro e w3 ⟨b3, rfl, c3, hb3⟩; have B3 := hide hb3; clear hb3))
    refine bodyPost_ret (by simp [results, Tryz.results23, go_sem] <;> rfl) rfl ?_
    exact ⟨unhide B3, rfl⟩
  | err en pl =>
    rw [hrd] at RD
    have he := read_err_pos hrd
    have hd : (en != 0) = true := by simp; omega
    unfold CnEnds
    simp only
    clear hrd hL he
    go_enter Tryz.func23, Tryz.ntmps23
    go_wp2_with (go_at_call 31; refine (unhide RD).mono ?_; rintro e w2 ⟨hb2, rfl⟩; have B2 := hide hb2; clear hb2)
    refine bodyPost_ret (by simp [results, Tryz.results23, go_sem] <;> rfl) rfl ?_
    exact ⟨unhide B2, rfl⟩

set_option maxHeartbeats 1000000 in
theorem compile_long (a : Option Addr) (n cap : Nat) (h : 8 < n) (w : World) : Calls Tryz.prog 13 #[.slice a n cap] w fun e w' => e = .returned (.tuple #[.slice none 0 0, .int .i64 8, .int .i64 0]) ∧ w' = w := by
  have hd : decide ((n : Int) > 8) = true := decide_eq_true (by omega)
  have hd' : decide (8 < (n : Int)) = true := decide_eq_true (by omega)
  go_enter Tryz.func13, Tryz.ntmps13
  go_wp2_with fail
  refine bodyPost_ret (by simp [results, Tryz.results13, go_sem] <;> rfl) rfl ?_
  exact ⟨rfl, rfl⟩
end

section
def zCells (l : List Int) : List Value := l.map fun x => .int .i64 x
/-- A row of numbers that the program owns. -/
def ZsAt (w : World) (base : Nat) (v : Value) (l : List Int) : Prop := w.ownsRow base 3 1 v l.length (zCells l)
theorem ZsAt.nil (w : World) (base : Nat) : ZsAt w base (.slice none 0 0) [] := ⟨rfl, .inl ⟨rfl, rfl⟩⟩
theorem ZsAt.form {w : World} {base : Nat} {v : Value} {l : List Int} (h : ZsAt w base v l) : ∃ a c, v = .slice a l.length c := by
  rcases h.2 with ⟨rfl, hn⟩ | ⟨g, cap, cur, rfl, _⟩
  · exact ⟨none, 0, by rw [hn]⟩
  · exact ⟨_, _, rfl⟩
theorem ZsAt.app {W W' : World} {base : Nat} {v : Value} {l : List Int} (h : ZsAt W base v l) (hb : base ≤ W.heap.size) (x : Int) (hn : l.length ≤ 1000) (ty : TypeId) (H : Nat) (hH : W.heap.size = H) (hW : W' = W.alloc (.cells #[.int .i64 x] 3)) :
    ∃ g cap w5, (appSem #[29, 29] ty #[v, .slice (some ⟨H, 0, none⟩) 1 1]).run Tryz.prog W' = .ok (.slice (some ⟨g, 0, none⟩) (l.length + 1) cap) w5 ∧
      Hid (ZsAt w5 base (.slice (some ⟨g, 0, none⟩) (l.length + 1) cap) (l ++ [x])) ∧ Hid (W.grownBy w5 v.ownBlock) ∧ Hid (v.ownBlock = some g ∨ W.heap.size ≤ g) := by
  subst hH hW
  obtain ⟨i0, hi, hz0, hz1, hz2⟩ := info_parts info_intg
  have ha := World.ownsRow.alloc h (.cells #[.int .i64 x] 3)
  obtain ⟨g, cap, w5, hr, hown, hgrow, hat, _⟩ := run_append_lies (P := Tryz.prog) (W.alloc (.cells #[.int .i64 x] 3)) 29 ty base 3 i0 _ 1 8 Tryz.underlying29 hi hz0 hz1 hz2 rfl (by omega) v l.length (zCells l) ha
    ⟨W.heap.size, 0, none⟩ 1 1 [.int .i64 x] rfl (World.news_of_block (cs := #[.int .i64 x]) (t := 3) (fr := (0, 0)) (heap_alloc_new W _)) (by simp [Value.oneCell']) (by omega) (by unfold maxLen; omega) (by omega) (by simp; omega) _ rfl
  have hal := below1 W (.cells #[.int .i64 x] 3)
  refine ⟨g, cap, w5, hr, hide ?_, hide ⟨hgrow.os, hgrow.tape, hgrow.output, ?_, fun k h1 h2 => ?_⟩, hide ?_⟩
  · show World.ownsRow _ _ _ _ _ _ _
    rw [List.length_append, List.length_singleton, zCells, List.map_append]
    exact hown
  · have := hgrow.size
    simp at this
    omega
  · rw [hgrow.block k (by simp; omega) h2, hal.block k h1]
  · rcases hat with e | e
    · exact .inl e
    · right; simp at e; omega

theorem BrAt.grown {w w' : World} {bb : Nat} {last : Int} {sv tv rv : Value} {l : List Sx} {r : Option Nat} (h : BrAt w bb last sv tv rv l) (hg : w.grownBy w' r) (hr : ∀ k, r = some k → ¬ BFoot bb sv tv rv l k) : BrAt w' bb last sv tv rv l :=
  h.same hg.size fun k hk => hg.block k (h.foot_lt hk) fun e => hr k e.symm hk

/-- Where Publish stands. -/
structure PubAt (w w2 : World) (F : Nat → Prop) (bb : Nat) (last : Int) (sv : Value) (tv rv posv : Value) (pos : List Nat) (st : List Su × List Int × List Int) (mv fv : Value) (wr : World) : Prop where
  ex : ∃ l, BrAt wr bb last sv tv rv l ∧ l.map Sx.su = st.1 ∧ ∀ k, BFoot bb sv tv rv l k → F k ∨ (w.heap.size ≤ k ∧ ∃ x ∈ l, x.hv.ownBlock = some k)
  grow : Grow F w wr
  hF : ∀ k, F k → k < w.heap.size
  zw : w.heap.size ≤ w2.heap.size
  z : w2.heap.size ≤ wr.heap.size
  pos : IsAt wr w.heap.size posv pos
  posb : ∀ k, posv.ownBlock = some k → k < w2.heap.size
  met : ZsAt wr w2.heap.size mv st.2.1
  full : ZsAt wr w2.heap.size fv st.2.2
  ne : ∀ k, mv.ownBlock = some k → fv.ownBlock ≠ some k

theorem PubAt.below {w w2 : World} {F : Nat → Prop} {bb : Nat} {last : Int} {sv : Value} {tv rv posv : Value} {pos : List Nat} {st : List Su × List Int × List Int} {mv fv : Value} {wr wr' : World} (h : PubAt w w2 F bb last sv tv rv posv pos st mv fv wr) (hb : Below wr.heap.size wr wr') : PubAt w w2 F bb last sv tv rv posv pos st mv fv wr' := by
  obtain ⟨l, h1, h2, h3⟩ := h.ex
  exact ⟨⟨l, h1.below hb, h2, h3⟩, h.grow.trans' (Grow.of_below hb), h.hF, h.zw, Nat.le_trans h.z hb.size, ownsRow_same h.pos fun k hk => hb.block k (h.pos.lt k hk).2, h.posb, ownsRow_same h.met fun k hk => hb.block k (h.met.lt k hk).2, ownsRow_same h.full fun k hk => hb.block k (h.full.lt k hk).2, h.ne⟩

/-- A row of the answer is not the broker's. -/
theorem PubAt.not_foot {w w2 : World} {F : Nat → Prop} {bb : Nat} {last : Int} {sv : Value} {tv rv : Value} {wr : World} (hF : ∀ k, F k → k < w.heap.size) (zw : w.heap.size ≤ w2.heap.size) {l : List Sx} (h1 : BrAt wr bb last sv tv rv l) (h3 : ∀ k, BFoot bb sv tv rv l k → F k ∨ (w.heap.size ≤ k ∧ ∃ x ∈ l, x.hv.ownBlock = some k)) {v : Value} {z : List Int} (hv : ZsAt wr w2.heap.size v z) {k : Nat} (hk : v.ownBlock = some k) : ¬ BFoot bb sv tv rv l k := by
  intro hf
  have hlt := (hv.lt k hk).1
  rcases h3 k hf with e | ⟨_, x, hx, e⟩
  · have := hF k e; omega
  · exact row_ne hv (h1.hps x hx) (by decide) hk e

theorem PubAt.form {w w2 : World} {F : Nat → Prop} {bb : Nat} {last : Int} {sv tv rv posv : Value} {pos : List Nat} {st : List Su × List Int × List Int} {mv fv : Value} {wr : World} (h : PubAt w w2 F bb last sv tv rv posv pos st mv fv wr) {p : Nat} {x : Su} (hx : st.1[p]? = some x) : ∃ g n c, sv = .slice (some ⟨g, 0, none⟩) n c := by
  obtain ⟨l, h1, h2, h3⟩ := h.ex
  obtain ⟨y, hy, hyx⟩ := getX h2 hx
  rcases row_forms h1.row with ⟨_, h0⟩ | ⟨g, c, hv⟩
  · have := (List.getElem?_eq_some_iff.1 hy).1
    simp at h0
    subst h0
    simp at this
  · exact ⟨g, _, c, hv⟩

/-- What is read of one who is met. -/
theorem PubAt.facts {w w2 : World} {F : Nat → Prop} {bb : Nat} {last : Int} {g n c : Nat} {tv rv posv : Value} {pos : List Nat} {st : List Su × List Int × List Int} {mv fv : Value} {wr : World} (h : PubAt w w2 F bb last (.slice (some ⟨g, 0, none⟩) n c) tv rv posv pos st mv fv wr) {p : Nat} {x : Su} (hx : st.1[p]? = some x) :
    wr.cell? ⟨bb, 1, none⟩ = some (.slice (some ⟨g, 0, none⟩) n c) ∧ wr.cell? ⟨bb, 0, none⟩ = some (.int .i64 last) ∧ wr.cell? ⟨g, p * 3, none⟩ = some (.int .i64 x.id) ∧ p < n ∧ x.ms.length ≤ 6 ∧ ∃ hv, HqAt wr g (p * 3 + 2) hv 0 x.ms := by
  obtain ⟨l, h1, h2, h3⟩ := h.ex
  obtain ⟨y, hy, hyx⟩ := getX h2 hx
  obtain ⟨a, c', hv, hs⟩ := SbRow.subs h1.row
  obtain ⟨g', ha, hlt, e0, _, _⟩ := hs p y.sb (by rw [List.getElem?_map, hy]; rfl)
  have hg : g = g' := by
    rw [ha] at hv
    simp at hv
    exact hv.1
  have hn : n = l.length := by
    simp at hv
    exact hv.2.1
  subst hg
  have hid : y.sb.id = x.id := by rw [← hyx]; rfl
  have hms : y.ms = x.ms := by rw [← hyx]; rfl
  rw [hid] at e0
  refine ⟨h1.cells.2.1, h1.cells.1, e0, ?_, ?_, y.hv, ?_⟩
  · rw [hn]; exact (List.getElem?_eq_some_iff.1 hy).1
  · rw [← hms]; exact h1.m6 y (List.mem_of_getElem? hy)
  · rw [← hms]; exact h1.heap hy
end

section
attribute [local go_sem ↓] app_fold

/-- A broker's blocks when Publish has ended: its old ones and the new ones, but the rows of the answer. -/
def pubF (F : Nat → Prop) (w w' : World) (mv fv : Value) (k : Nat) : Prop := upF F w w' k ∧ mv.ownBlock ≠ some k ∧ fv.ownBlock ≠ some k

/-- The broker has the number of the message, and Run has told who is met. -/
theorem PubAt.begun {w w1 w2 : World} {F : Nat → Prop} {bb : Nat} {last last' : Int} {sv tv rv posv : Value} {l : List Sx} {pos : List Nat} (hB : BrAt w bb last sv tv rv l) (hF : ∀ k, F k → k < w.heap.size) (hfoot : ∀ k, BFoot bb sv tv rv l k → F k) (h1 : Below w.heap.size w w1)
    (h2 : Below w1.heap.size (w1.setCell ⟨bb, 0, none⟩ (.int .i64 last')) w2) (hp : IsAt w2 w1.heap.size posv pos) : PubAt w w2 F bb last' sv tv rv posv pos (l.map Sx.su, [], []) (.slice none 0 0) (.slice none 0 0) w2 := by
  have hz1 := h1.size
  have hz2 := h2.size
  rw [size_setCell] at hz2
  have hB1 := hB.below h1
  have same : ∀ k, k < w1.heap.size → k ≠ bb → w2.heap[k]? = w1.heap[k]? := fun k k1 k2 => by
    rw [h2.block k k1, Below.heap_setCell _ ⟨bb, 0, none⟩ _ k (by show k ≠ bb; exact k2)]
  have hlt := hB1.lt
  have r1 : ∀ {b s m : Nat} {e : TypeId} {v : Value} {xs : List Value}, w1.ownsRow b e s v m xs → e ≠ 67 → w2.ownsRow b e s v m xs := fun ho hne => ownsRow_same ho fun k hk => same k (ho.lt k hk).2 (fun e => by subst e; exact row_ne_bb ho hB1.blk hne hk)
  refine ⟨⟨l, ⟨?_, r1 hB1.row (by decide), ⟨r1 hB1.rows.ats (by decide), r1 hB1.rows.ars (by decide), hB1.rows.ne⟩, fun x hx => r1 (hB1.hps x hx) (by decide), hB1.dis, fun x hx => ?_, hB1.out, hB1.up, hB1.n8, hB1.m6, hB1.prg⟩, rfl, fun k hk => .inl (hfoot k hk)⟩, ?_, hF, by omega, Nat.le_refl _, ownsRow_le' hp hz1, fun k hk => (hp.lt k hk).2, ZsAt.nil _ _, ZsAt.nil _ _, fun k hk => by simp [Value.ownBlock] at hk⟩
  · rw [h2.block bb hlt]
    exact blk_set0 hB1.blk _
  · obtain ⟨q1, q2, q3⟩ := hB1.cos x hx
    exact ⟨CoAt.keep (Nat.le_refl _) (fun k k1 k2 => same k (by omega) (fun e => by have := hB1.out x hx k (.inl e); omega)) (by omega) q1, by omega, q3⟩
  · refine ⟨h2.os.trans h1.os, h2.tape.trans h1.tape, h2.output.trans h1.output, by omega, fun k k1 k2 => ?_⟩
    rw [same k (by omega) (fun e => k2 (hfoot k (.inl (.inl e)))), h1.block k k1]

/-- Publish has ended. -/
theorem PubAt.done {w w2 : World} {F : Nat → Prop} {bb : Nat} {last : Int} {sv tv rv posv : Value} {pos : List Nat} {st : List Su × List Int × List Int} {mv fv : Value} {wr : World} (h : PubAt w w2 F bb last sv tv rv posv pos st mv fv wr) :
    Br wr (pubF F w wr mv fv) bb last st.1 ∧ Grow F w wr ∧ ZsAt wr w.heap.size mv st.2.1 ∧ ZsAt wr w.heap.size fv st.2.2 := by
  obtain ⟨l, h1, h2, h3⟩ := h.ex
  have hz := h.grow.size
  refine ⟨⟨fun k hk => ?_, sv, tv, rv, l, h1, h2, fun k hk => ?_⟩, h.grow, ownsRow_le' h.met h.zw, ownsRow_le' h.full h.zw⟩
  · rcases hk.1 with e | e
    · have := h.hF k e; omega
    · exact e.2
  · refine ⟨?_, fun e => PubAt.not_foot h.hF h.zw h1 h3 h.met e hk, fun e => PubAt.not_foot h.hF h.zw h1 h3 h.full e hk⟩
    rcases h3 k hk with e | ⟨e, _⟩
    · exact .inl e
    · exact .inr ⟨e, h1.foot_lt hk⟩
end

end Go.Proofs.YtfkcaldjphakpabGreatDoor
