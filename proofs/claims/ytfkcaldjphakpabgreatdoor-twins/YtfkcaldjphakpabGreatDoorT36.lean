/- Subscribe, as a whole. Publish. -/
import Derived.Test.YtfkcaldjphakpabGreatDoorT35
import Derived.Test.YtfkcaldjphakpabGreatDoorT39
namespace Go.Proofs.YtfkcaldjphakpabGreatDoor
open Go.RowKit
section
set_option maxHeartbeats 2000000 in
set_option maxRecDepth 100000 in
theorem sub_err (w : World) (F : Nat → Prop) (bb : Nat) (last : Int) (L : List Su) (h : Br w F bb last L) (id : Int) (hno : ∀ x ∈ L, x.id ≠ id) (s : ByteArray) (hs : s.size ≤ 140737488355328) (en pl : Int) (hrd : qm5 s = .err en pl) (hE : ErrOk w) :
    Calls Tryz.prog 12 #[.pointer (some ⟨bb, 0, none⟩), .int .i64 id, .string s] w fun e w' => e = .returned (.tuple #[.int .i64 en, .int .i64 pl]) ∧ Below w.heap.size w w' := by
  obtain ⟨hF, sv, tv, rv, l, hB, hL, hfoot⟩ := h
  have hnl : ∀ x ∈ l, x.id ≠ id := fun x hx => by have := hno x.su (by rw [← hL]; exact List.mem_map_of_mem hx); exact this
  have FD := v6 (vd0 hB hnl)
  generalize qb7 (l.map Sx.sb) id = P at *
  have RD : Hid (∀ w', Below w.heap.size w w' → Calls Tryz.prog 31 #[.string s] w' (qt2 w' (.err en pl))) := v6 fun w' hb => hrd ▸ qr1 s w' (hE.below hb (Nat.le_refl _)) hs
  have he := qw5 hrd
  have hd : (en != 0) = true := by simp; omega
  clear hB hL hfoot hF hnl hno hrd hE he
  go_enter Tryz.func12, Tryz.ntmps12
  go_wp2_with (first | (go_at_call 30; refine (q9 FD).mono ?_; rintro e w1 ⟨rfl, hb1⟩; have B1 := v6 hb1; clear hb1) | (go_at_call 31; refine (q9 RD _ (q9 B1)).mono ?_; rintro e w2 ⟨hb2, rfl⟩; have B2 := v6 (v7 (q9 B1) hb2); clear hb2))
  go_ret2
  exact ⟨rfl, q9 B2⟩
set_option maxHeartbeats 4000000 in
set_option maxRecDepth 100000 in
theorem sub_terms (w : World) (F : Nat → Prop) (bb : Nat) (last : Int) (L : List Su) (h : Br w F bb last L) (id : Int) (hno : ∀ x ∈ L, x.id ≠ id) (s : List UInt8) (c : Co) (htx : TxOk s c) (h8 : L.length < 8) (hL : LibOk w)
    (h80 : 80 < (qn5 (jc3 L (qs8 L id) ⟨id, c, []⟩)).1.length) :
    Calls Tryz.prog 12 #[.pointer (some ⟨bb, 0, none⟩), .int .i64 id, .string (BS s)] w fun e w' => e = .returned (.tuple #[.int .i64 8, .int .i64 0]) ∧ Below w.heap.size w w' := by
  obtain ⟨hF, sv, tv, rv, l, hB, hLl, hfoot⟩ := h
  obtain ⟨t, hrd, hcore, hin, hgood, hsize, hslen⟩ := htx
  have hnl : ∀ x ∈ l, x.id ≠ id := fun x hx => by have := hno x.su (by rw [← hLl]; exact List.mem_map_of_mem hx); exact this
  have hll : l.length = L.length := by rw [← hLl, List.length_map]
  have FD := v6 (vd0 hB hnl)
  obtain ⟨P, hP⟩ : ∃ P, qb7 (l.map Sx.sb) id = P := ⟨_, rfl⟩
  have hPS : qs8 L id = P := by rw [← hP, ← hLl, vz9]
  have hPle : P ≤ l.length := by have := vq6 (l.map Sx.sb) id; rw [List.length_map, hP] at this; exact this
  rw [hP] at FD
  rw [hPS] at h80
  obtain ⟨a, cp, rfl⟩ : ∃ a cp, sv = .slice a l.length cp := by
    obtain ⟨a, cp, e⟩ := qc5 hB.row
    exact ⟨a, cp, by rw [e, List.length_map]⟩
  obtain ⟨n, hn⟩ : ∃ n, l.length = n := ⟨_, rfl⟩
  have hn8 : n < 8 := by omega
  have RD : Hid (∀ w', Below w.heap.size w w' → Calls Tryz.prog 31 #[.string (BS s)] w' (qt2 w' (.ok t))) := v6 fun w' hb => hrd ▸ qr1 (BS s) w' (hL.below hb (Nat.le_refl _)).err (by rw [qc0]; exact hslen)
  have CELLS : Hid (∀ w', Below w.heap.size w w' → w'.cell? ⟨bb, 1, none⟩ = some (.slice a n cp)) := v6 fun w' hb => by rw [← hn]; exact (hB.below hb).cells.2.1
  have CL : Hid (∀ w', Below w.heap.size w w' → Calls Tryz.prog 33 #[.slice a n cp] w' fun e w'' => ∃ a3 c3, e = .returned (.slice a3 n c3) ∧ Hid (SbRow w'' w'.heap.size (.slice a3 n c3) (l.map Sx.sb)) ∧ Hid (Below w'.heap.size w' w'')) := v6 (by
    intro w' hb
    have hr := (hB.below hb).row
    rw [hn] at hr
    refine (vh3 (l.map Sx.sb) (by rw [List.length_map]; omega) _ 0 w' hr).mono ?_
    rintro e w'' ⟨v', rfl, h1, h2⟩
    obtain ⟨a3, c3, e3⟩ := qc5 h1
    rw [List.length_map, hn] at e3
    subst e3
    exact ⟨a3, c3, rfl, v6 h1, v6 h2⟩)
  have CO : Hid (∀ (lo : Nat) (U U' : World) (v : Value), Below w.heap.size w U → Below U.heap.size U U' → IsNode lo U v t → Calls Tryz.prog 34 #[v] U' (qv5 U'.heap.size U' c)) := v6 fun lo U U' v hU hU' hnd => hcore ▸ vh5 lo t hin (vd4 hrd) U'.heap.size U' v (Nat.le_refl _) (hL.below (v7 hU hU') (Nat.le_refl _)) (hnd.above ⟨hU'.size, fun k _ h2 => hU'.block k h2⟩)
  have INS : Hid (∀ (w2 w3 w4 : World) (a3 : Option Addr) (c3 b4 : Nat), Below w.heap.size w w2 → Below w2.heap.size w2 w3 → SbRow w3 w2.heap.size (.slice a3 n c3) (l.map Sx.sb) → Below w3.heap.size w3 w4 → CoAt w3.heap.size w4.heap.size w4 (.pointer (some ⟨b4, 0, none⟩)) c →
      Calls Tryz.prog 32 #[.slice a3 n c3, .int .i64 P, .slice (some ⟨w4.heap.size, 0, none⟩) 1 1] (w4.alloc (.cells #[.int .i64 id, .pointer (some ⟨b4, 0, none⟩), .slice none 0 0] 83)) fun e W => ∃ g cap x, e = .returned (.slice (some ⟨g, 0, none⟩) (n + 1) cap) ∧ Hid (SbReady w (l.map Sx.sb) P n id c W g cap x)) := v6 (by
    intro w2 w3 w4 a3 c3 b4 hb2 hb3 hr3 hb4 hc4
    obtain ⟨x, hx⟩ : ∃ x : Sx, x = ⟨id, some ⟨b4, 0, none⟩, w3.heap.size, w4.heap.size, c, none, 0, []⟩ := ⟨_, rfl⟩
    have hz2 := hb2.size
    have hz3 := hb3.size
    have hz4 := hb4.size
    obtain ⟨w5, hw5⟩ : ∃ w5, w5 = w4.alloc (.cells #[.int .i64 id, .pointer (some ⟨b4, 0, none⟩), .slice none 0 0] 83) := ⟨_, rfl⟩
    have hz5 : w5.heap.size = w4.heap.size + 1 := by rw [hw5]; simp
    have hb5 : Below w4.heap.size w4 w5 := by rw [hw5]; exact (Below.refl _ _).alloc (Nat.le_refl _) _
    have hr5 : SbRow w5 w2.heap.size (.slice a3 n c3) (l.map Sx.sb) := v9 hr3 fun k hk => by
      have := (hr3.lt k hk).2
      rw [hb5.block k (by omega), hb4.block k (by omega)]
    have hne5 : (Value.slice a3 n c3).ownBlock ≠ some w4.heap.size := fun e => by have := (hr3.lt _ e).2; omega
    rw [← hw5]
    refine (vq2 (l.map Sx.sb) x.sb P (by rw [List.length_map]; exact hPle) (by rw [List.length_map]; omega) _ w2.heap.size w4.heap.size w5 hr5 hne5 (by rw [hw5, hx]; exact heap_alloc_new w4 _) (by omega)).mono ?_
    rintro e W ⟨g, cap, rfl, h1, h2, h3⟩
    rw [qh1, List.length_map, hn] at h1 ⊢
    have hzW := h2.size
    have keep : ∀ k, w3.heap.size ≤ k → k < w4.heap.size → W.heap[k]? = w4.heap[k]? := fun k k1 k2 => by
      rw [h2.block k (by omega) (fun e => by have := (hr3.lt _ e.symm).2; omega), hb5.block k k2]
    refine ⟨g, cap, x, rfl, v6 ⟨⟨?_, ?_, ?_, by omega, fun k hk => ?_⟩, y9 h1 (by omega), ?_, ?_, ?_, ?_, by rw [hx], by rw [hx], by rw [hx], by rw [hx], by rw [hx]⟩⟩
    · exact h2.os.trans (hb5.os.trans (hb4.os.trans (hb3.os.trans hb2.os)))
    · exact h2.tape.trans (hb5.tape.trans (hb4.tape.trans (hb3.tape.trans hb2.tape)))
    · exact h2.output.trans (hb5.output.trans (hb4.output.trans (hb3.output.trans hb2.output)))
    · rw [h2.block k (by omega) (fun e => by have := (hr3.lt _ e.symm).1; omega), hb5.block k (by omega), hb4.block k (by omega), hb3.block k (by omega), hb2.block k hk]
    · rw [hx]
      exact CoAt.keep (Nat.le_refl _) keep (by omega) hc4
    · rw [hx]; exact Nat.le_trans hz2 hz3
    · rw [hx]; show w4.heap.size ≤ _; omega
    · rw [hx]
      show g < w3.heap.size ∨ w4.heap.size ≤ g
      rcases h3 with e | e
      · left; exact (hr3.lt _ e).2
      · right; omega)
  have TG : Hid (∀ (W : World) (g cap : Nat) (x : Sx), SbReady w (l.map Sx.sb) P n id c W g cap x → Calls Tryz.prog 35 #[.slice (some ⟨g, 0, none⟩) (n + 1) cap] W fun e W' => ∃ a7 n7 c7 a8 n8 c8, e = .returned (.agg #[.slice a7 n7 c7, .slice a8 n8 c8]) ∧ 80 < n7 ∧ Hid (Below w.heap.size w W')) := v6 (by
    intro W g cap x hR
    have hlen : (qv8 (l.map Sx.sb) P x.sb).length = n + 1 := by rw [qh1, List.length_map, hn]
    have hcl : (qj8 (qt7 l P x)).length = n + 1 := by unfold qj8; rw [List.length_map, qq3, hn]
    have T := qx0 (qv8 (l.map Sx.sb) P x.sb) (qj8 (qt7 l P x)) (by rw [hcl, hlen]) (by rw [hlen]; omega) (.slice (some ⟨g, 0, none⟩) (n + 1) cap) W (SbRow.subs hR.row) (by
      intro k s' cc hs hc
      rw [← vt6, List.getElem?_map] at hs
      unfold qj8 at hc
      rw [List.getElem?_map] at hc
      cases hz : (qt7 l P x)[k]? with
      | none => rw [hz] at hs; cases hs
      | some z =>
        rw [hz] at hs hc
        simp at hs hc
        subst hs hc
        rcases qn9 (List.mem_of_getElem? hz) with rfl | hzm
        · refine ⟨?_, by rw [hR.eco]; exact hgood, by rw [hR.eco]; exact hsize⟩
          have q := hR.core
          rw [← hR.eco] at q
          exact CoAt.low (Nat.zero_le _) (CoAt.keep hR.hi (fun _ _ _ => rfl) (Nat.le_refl _) q)
        · obtain ⟨q1, q2, q3, q4⟩ := (hB.below hR.below).cos z hzm
          exact ⟨CoAt.low (Nat.zero_le _) (CoAt.keep q2 (fun _ _ _ => rfl) (Nat.le_refl _) q1), q3, q4⟩)
    refine T.mono ?_
    rintro e W' ⟨tv', rv', rfl, hr, hb'⟩
    rw [hlen] at hr
    have hSu : (qt7 l P x).map Sx.su = jc3 L P ⟨id, c, []⟩ := by
      rw [insX_su, hLl]
      congr 1
      unfold Sx.su
      rw [hR.eid, hR.eco, hR.e2]
    have hpS := qx6 (qt7 l P x)
    rw [hSu] at hpS
    have h80' : 80 < (tsX (qt7 l P x)).length := by rw [hpS] at h80; exact h80
    have hr' : RowsAt W' W.heap.size tv' rv' (tsX (qt7 l P x)) (rsX (qt7 l P x)) := by
      unfold tsX rsX
      rw [qq3, hn]
      exact hr
    obtain ⟨a7, c7, e7⟩ := qc5 hr'.ats
    obtain ⟨a8, c8, e8⟩ := qc5 hr'.ars
    subst e7 e8
    exact ⟨a7, _, c7, a8, _, c8, rfl, h80', v6 (v7 hR.below hb')⟩)
  have hd8 : decide ((n : Int) = 8) = false := decide_eq_false (by omega)
  clear hB hLl hfoot hn hF hin hrd hcore hgood hsize hslen hnl hll hPle hL h80 hPS hP hno
  go_enter Tryz.func12, Tryz.ntmps12
  go_wp2_with (first | (go_at_call 30; refine (q9 FD).mono ?_; rintro e w1 ⟨rfl, hb1⟩; have B1 := v6 hb1; clear hb1) | (go_at_call 31; refine (q9 RD _ (q9 B1)).mono ?_; rintro e w2 ⟨hb2, v2, rfl, hn2⟩; obtain ⟨vb, rfl⟩ := hn2.ptr; have N2 := v6 hn2; have B2 := v6 (v7 (q9 B1) hb2); have c2 := q9 CELLS w2 (q9 B2); clear hn2 hb2) | (go_at_call 33; refine (q9 CL _ (q9 B2)).mono ?_; rintro e w3 ⟨a3, c3, rfl, R3, B3⟩) | (go_at_call 34; refine (q9 CO _ _ _ _ (q9 B2) (q9 B3) (q9 N2)).mono ?_; rintro e w4 ⟨b4, rfl, hc4, hb4⟩; have C4 := v6 hc4; have B4 := v6 hb4; clear hc4 hb4) | (go_at_call 32; refine (q9 INS _ _ _ _ _ _ (q9 B2) (q9 B3) (q9 R3) (q9 B4) (q9 C4)).mono ?_; rintro e w6 ⟨g6, cap6, x6, rfl, R6⟩) | (go_at_call 35; refine (q9 TG _ _ _ _ (q9 R6)).mono ?_; rintro e w7 ⟨a7, n7, c7, a8, n8, c8, rfl, h80, E7⟩) | (go_at_call 36; obtain ⟨U, hU⟩ : ∃ U, U = w7.alloc (.cells #[.slice a7 n7 c7, .slice a8 n8 c8] 65) := ⟨_, rfl⟩; rw [← hU]; have t0 : U.cell? ⟨w7.heap.size, 0, none⟩ = some (.slice a7 n7 c7) := (by rw [hU]; simp [go_sem]); have E8 : Hid (Below w.heap.size w U) := v6 (v7 (q9 E7) (by rw [hU]; exact qq0 _ _)); clear hU; refine (vm4 _ 0 n7 a7 c7 U t0).mono ?_; rintro e w8 ⟨rfl, rfl⟩))
  go_ret2
  exact ⟨rfl, q9 E8⟩
end
section
attribute [local go_sem ↓] qc8
def pubF (F : Nat → Prop) (w w' : World) (mv fv : Value) (k : Nat) : Prop := upF F w w' k ∧ mv.ownBlock ≠ some k ∧ fv.ownBlock ≠ some k
def metS (ps : List Pr) (L : List Su) : List Nat := metR ps (qn5 L).1 (qn5 L).2
theorem metS_lt (ps : List Pr) (L : List Su) : ∀ p ∈ metS ps L, p < L.length := by
  intro p hp
  have := metK_lt _ _ _ p hp
  have e : (qn5 L).2.length = L.length := (qp5 _ _).1
  rw [e] at this
  exact this
theorem vi8 (ps : List Pr) (L : List Su) : (metS ps L).length ≤ L.length := by
  have := vi7 (qr0 ps (qn5 L).1 (qn5 L).1.length) (qn5 L).2 (qn5 L).2.length
  have e : (qn5 L).2.length = L.length := (qp5 _ _).1
  rw [e] at this
  unfold metS metR
  rw [e]
  exact this
theorem PubAt.begun {w w1 w2 : World} {F : Nat → Prop} {bb : Nat} {last last' : Int} {sv tv rv posv : Value} {l : List Sx} {pos : List Nat} (hB : BrAt w bb last sv tv rv l) (hF : ∀ k, F k → k < w.heap.size) (hfoot : ∀ k, vg8 bb sv tv rv l k → F k) (h1 : Below w.heap.size w w1)
    (h2 : Below w1.heap.size (w1.setCell ⟨bb, 0, none⟩ (.int .i64 last')) w2) (hp : IsAt w2 w1.heap.size posv pos) : PubAt w w2 F bb last' sv tv rv posv pos (l.map Sx.su, [], []) (.slice none 0 0) (.slice none 0 0) w2 := by
  have hz1 := h1.size
  have hz2 := h2.size
  rw [x8] at hz2
  have hB1 := hB.below h1
  have same : ∀ k, k < w1.heap.size → k ≠ bb → w2.heap[k]? = w1.heap[k]? := fun k k1 k2 => by
    rw [h2.block k k1, Below.heap_setCell _ ⟨bb, 0, none⟩ _ k (by show k ≠ bb; exact k2)]
  have hlt := hB1.lt
  have r1 : ∀ {b s m : Nat} {e : TypeId} {v : Value} {xs : List Value}, w1.ownsRow b e s v m xs → e ≠ 67 → w2.ownsRow b e s v m xs := fun ho hne => v9 ho fun k hk => same k (ho.lt k hk).2 (fun e => by subst e; exact qm6 ho hB1.blk hne hk)
  refine ⟨⟨l, ⟨?_, r1 hB1.row (by decide), ⟨r1 hB1.rows.ats (by decide), r1 hB1.rows.ars (by decide), hB1.rows.ne⟩, fun x hx => r1 (hB1.hps x hx) (by decide), hB1.dis, fun x hx => ?_, hB1.out, hB1.up, hB1.n8, hB1.m6, hB1.prg⟩, rfl, fun k hk => .inl (hfoot k hk)⟩, ?_, hF, by omega, Nat.le_refl _, y9 hp hz1, fun k hk => (hp.lt k hk).2, ZsAt.nil _ _, ZsAt.nil _ _, fun k hk => by simp [Value.ownBlock] at hk⟩
  · rw [h2.block bb hlt]
    exact blk_set0 hB1.blk _
  · obtain ⟨q1, q2, q3⟩ := hB1.cos x hx
    exact ⟨CoAt.keep (Nat.le_refl _) (fun k k1 k2 => same k (by omega) (fun e => by have := hB1.out x hx k (.inl e); omega)) (by omega) q1, by omega, q3⟩
  · refine ⟨h2.os.trans h1.os, h2.tape.trans h1.tape, h2.output.trans h1.output, by omega, fun k k1 k2 => ?_⟩
    rw [same k (by omega) (fun e => k2 (hfoot k (.inl (.inl e)))), h1.block k k1]
theorem PubAt.done {w w2 : World} {F : Nat → Prop} {bb : Nat} {last : Int} {sv tv rv posv : Value} {pos : List Nat} {st : List Su × List Int × List Int} {mv fv : Value} {wr : World} (h : PubAt w w2 F bb last sv tv rv posv pos st mv fv wr) :
    Br wr (pubF F w wr mv fv) bb last st.1 ∧ Grow F w wr ∧ ZsAt wr w.heap.size mv st.2.1 ∧ ZsAt wr w.heap.size fv st.2.2 := by
  obtain ⟨l, h1, h2, h3⟩ := h.ex
  have hz := h.grow.size
  refine ⟨⟨fun k hk => ?_, sv, tv, rv, l, h1, h2, fun k hk => ?_⟩, h.grow, y9 h.met h.zw, y9 h.full h.zw⟩
  · rcases hk.1 with e | e
    · have := h.hF k e; omega
    · exact e.2
  · refine ⟨?_, fun e => PubAt.not_foot h.hF h.zw h1 h3 h.met e hk, fun e => PubAt.not_foot h.hF h.zw h1 h3 h.full e hk⟩
    rcases h3 k hk with e | ⟨e, _⟩
    · exact .inl e
    · exact .inr ⟨e, h1.foot_lt hk⟩
theorem PubAt.pos_cell {w w2 : World} {F : Nat → Prop} {bb : Nat} {last : Int} {sv tv rv : Value} {a : Option Addr} {m c : Nat} {pos : List Nat} {st : List Su × List Int × List Int} {mv fv : Value} {wr : World} (h : PubAt w w2 F bb last sv tv rv (.slice a m c) pos st mv fv wr) {k p : Nat} (hp : pos[k]? = some p) : ∃ d, a = some ⟨d, 0, none⟩ ∧ wr.cell? ⟨d, k, none⟩ = some (.int .i64 p) := by
  rcases qd6 h.pos with ⟨_, h0⟩ | ⟨g, c', hv⟩
  · have := (List.getElem?_eq_some_iff.1 hp).1
    omega
  · have e : a = some ⟨g, 0, none⟩ := by simp at hv; exact hv.1
    refine ⟨g, e, ?_⟩
    have := World.ownsRow.cells h.pos (g := g) (by rw [e]; rfl) k (.int .i64 p) (by simp [qj5, hp])
    rwa [qj3, Nat.zero_add] at this
set_option maxHeartbeats 4000000 in
set_option maxRecDepth 100000 in
theorem pub_ok (w : World) (F : Nat → Prop) (bb : Nat) (last : Int) (L : List Su) (h : Br w F bb last L) (pri : Int) (h0 : 0 ≤ pri) (h9 : pri ≤ 9) (hlast : 0 ≤ last ∧ last < 4611686018427387904) (ps : List Pr) (ev : Value)
    (hev : ∀ w', Grow F w w' → EvIn w' ev ps) (hg : EvGood ps) (hok : ve6 ps = true)
    (Q : Ending → World → Prop) (hQ : ∀ w' mv fv, Br w' (pubF F w w' mv fv) bb (last + 1) (pubR ⟨pri, last + 1⟩ L (metS ps L)).1 → Grow F w w' → ZsAt w' w.heap.size mv (pubR ⟨pri, last + 1⟩ L (metS ps L)).2.1 → ZsAt w' w.heap.size fv (pubR ⟨pri, last + 1⟩ L (metS ps L)).2.2 → Q (.returned (.tuple #[mv, fv, .int .i64 0])) w') :
    Calls Tryz.prog 15 #[.pointer (some ⟨bb, 0, none⟩), .int .i64 pri, ev] w Q := by
  obtain ⟨hF, sv, tv, rv, l, hB, hL, hfoot⟩ := h
  have hev0 := hev w (Grow.of_below (Below.refl _ _))
  have HV := v6 (vc4 hev0 hg)
  rw [hok] at HV
  obtain ⟨ea, en, ec, rfl⟩ := hev0.slice
  have hpr : qn5 L = (tsX l, rsX l) := by rw [← hL, qx6]
  obtain ⟨pos, hpos⟩ : ∃ pos, metS ps L = pos := ⟨_, rfl⟩
  have hposlt := metS_lt ps L
  have hposlen := vi8 ps L
  have hL8 : L.length ≤ 8 := by rw [← hL, List.length_map]; exact hB.n8
  rw [hpos] at hQ hposlt hposlen
  obtain ⟨m, hm⟩ : ∃ m, pos.length = m := ⟨_, rfl⟩
  obtain ⟨M, hM⟩ : ∃ M : Mg, M = ⟨pri, last + 1⟩ := ⟨_, rfl⟩
  rw [← hM] at hQ
  have hMp : M.pri = pri := by rw [hM]
  have hMn : M.num = last + 1 := by rw [hM]
  have hbb0 : Hid (∀ w1, Below w.heap.size w w1 → w1.cell? ⟨bb, 0, none⟩ = some (.int .i64 last) ∧ w1.frozen? ⟨bb, 0, none⟩ = false ∧ bb < w1.heap.size) := v6 fun w1 hb => by
    have hB1 := hB.below hb
    exact ⟨hB1.cells.1, hB1.cells.2.2.2.2 0, hB1.lt⟩
  have PR : Hid (∀ w1, Below w.heap.size w w1 → Calls Tryz.prog 42 #[.pointer (some ⟨bb, 2, none⟩), .slice ea en ec] (w1.setCell ⟨bb, 0, none⟩ (.int .i64 (last + 1))) fun e w2 => ∃ a c, e = .returned (.slice a m c) ∧ Hid (PubAt w w2 F bb (last + 1) sv tv rv (.slice a m c) pos (vc6 M L pos 0) (.slice none 0 0) (.slice none 0 0) w2)) := v6 (by
    intro w1 hb1
    have hB1 := hB.below hb1
    have hz1 := hb1.size
    have hlt1 := hB1.lt
    obtain ⟨wS, hS⟩ : ∃ wS, wS = w1.setCell ⟨bb, 0, none⟩ (.int .i64 (last + 1)) := ⟨_, rfl⟩
    have hzS : wS.heap.size = w1.heap.size := by rw [hS]; simp
    have hP1 := PubAt.begun (last' := last + 1) (w2 := wS) (posv := .slice none 0 0) (pos := []) hB hF hfoot hb1 (by rw [hS]; exact Below.refl _ _) (IsAt.nil _ _)
    obtain ⟨l', b1, b2, _⟩ := hP1.ex
    have hpr' : qn5 L = (tsX l', rsX l') := by rw [← qx6, b2, hL]
    have PA : ProgAt wS bb 2 (qn5 L).1 (qn5 L).2 := by
      rw [hpr']
      exact ⟨b1.lt, ⟨_, _, b1.cells.2.2.1, b1.rows.ats⟩, _, _, b1.cells.2.2.2.1, b1.rows.ars⟩
    have PG : Prg (qn5 L).1 (qn5 L).2 := by rw [hpr']; exact b1.prg
    have hevS := hev wS ⟨by rw [hS]; exact hb1.os, by rw [hS]; exact hb1.tape, by rw [hS]; exact hb1.output, by omega, fun k k1 k2 => by
      rw [hS, Below.heap_setCell _ ⟨bb, 0, none⟩ _ k (by show k ≠ bb; exact fun e => k2 (hfoot k (.inl (.inl e)))), hb1.block k k1]⟩
    rw [← hS]
    refine (jn4 ps _ bb 2 _ _ wS PA PG (hevS.arg (evOk_8 hok)) hg.rng (vt3 hok)).mono ?_
    rintro e w2 ⟨v, rfl, hi, hb2⟩
    have hi' : IsAt w2 wS.heap.size v pos := by rw [← hpos]; exact hi
    obtain ⟨a, c, hv⟩ := hi'.form
    rw [hm] at hv
    subst hv
    refine ⟨a, c, rfl, v6 ?_⟩
    have := PubAt.begun (last' := last + 1) hB hF hfoot hb1 (by rw [← hS, ← hzS]; exact hb2) (by rw [← hzS]; exact hi')
    rw [hL] at this
    exact this)
  have HPOS : Hid (∀ k p, pos[k]? = some p → ∃ x, (vc6 M L pos k).1[p]? = some x) := v6 fun k p hp => by
    have := hposlt p (List.mem_of_getElem? hp)
    exact ⟨_, List.getElem?_eq_getElem (by rw [jh9]; exact this)⟩
  have HEND : Hid (∀ w2 mv fv posv wr, PubAt w w2 F bb (last + 1) sv tv rv posv pos (vc6 M L pos m) mv fv wr → Q (.returned (.tuple #[mv, fv, .int .i64 0])) wr) := v6 (by
    intro w2 mv fv posv wr hP
    have e : vc6 M L pos m = pubR M L pos := by unfold vc6 pubR; rw [← hm, List.take_length]
    rw [e] at hP
    obtain ⟨q1, q2, q3, q4⟩ := hP.done
    exact hQ wr mv fv q1 q2 q3 q4)
  have hm8 : m ≤ 8 := by omega
  have HM := v6 hm
  have hd0 : decide (pri < 0) = false := decide_eq_false (by omega)
  have hd9 : decide (pri > 9) = false := decide_eq_false (by omega)
  have hd9' : decide (9 < pri) = false := decide_eq_false (by omega)
  have hw : IntKind.i64.wrap (last + 1) = last + 1 := by rw [IntKind.wrap_i64]; omega
  clear hB hL hfoot hQ hF hev hg hok hev0 hpr hpos hposlt hposlen hL8 hm hM
  go_enter Tryz.func15, Tryz.ntmps15
  go_wp2_with (first | (go_at_call 40; refine (q9 HV).mono ?_; rintro e w1 ⟨rfl, hb1⟩; have B1 := v6 hb1; obtain ⟨c1, f1, l1⟩ := q9 hbb0 w1 hb1; clear hb1) | (go_at_call 42; refine (q9 PR w1 (q9 B1)).mono ?_; rintro e w2 ⟨a2, c2, rfl, P2⟩))
  go_loopw [9, 10, 38] (fun mv fv i wr => ∃ k : Nat, k ≤ m ∧ i = .int .i64 k ∧ Hid (PubAt w w2 F bb (last + 1) sv tv rv (.slice a2 m c2) pos (vc6 M L pos k) mv fv wr)) (fun _ _ i _ => m - (intOf i).toNat)
  case atStart => exact ⟨0, Nat.zero_le _, rfl, P2⟩
  case round =>
    obtain ⟨k, hk, rfl, PA⟩ := hrel
    by_cases hlt : k < m
    · obtain ⟨p, hp⟩ : ∃ p, pos[k]? = some p := ⟨_, List.getElem?_eq_getElem (by have := q9 HM; omega)⟩
      obtain ⟨x, hx⟩ := q9 HPOS k p hp
      obtain ⟨g, n, c, rfl⟩ := (q9 PA).form hx
      have hS : Hid (vc6 M L pos (k + 1) = qg7 M (vc6 M L pos k) p) := v6 (vj6 M L pos k p hp)
      obtain ⟨hsm1, hsm2⟩ := jv9 M L pos k
      obtain ⟨f1, f0, fi, hpn, h6, hv, hq⟩ := (q9 PA).facts hx
      obtain ⟨d, hd⟩ := (q9 PA).pos_cell hp
      obtain ⟨ma, mc, rfl⟩ := (q9 PA).met.form
      obtain ⟨fa, fc, rfl⟩ := (q9 PA).full.form
      have hzb : w2.heap.size ≤ wr.heap.size := (q9 PA).z
      obtain ⟨ml, hml⟩ : ∃ ml, (vc6 M L pos k).2.1.length = ml := ⟨_, rfl⟩
      obtain ⟨fl, hfl⟩ : ∃ fl, (vc6 M L pos k).2.2.length = fl := ⟨_, rfl⟩
      obtain ⟨g5, cap5, w5, r5, Z5, G5, N5⟩ := (q9 PA).met.app hzb x.id (by omega) 29 wr.heap.size rfl rfl
      have hP5 := (q9 PA).more_met (q9 Z5) (q9 G5) (fun j hj => by
        have e : g5 = j := by simpa [Value.ownBlock] using hj
        rw [← e]; exact q9 N5)
      obtain ⟨f51, f50, f5i, _, _, hv5, hq5⟩ := hP5.facts (x := x) (p := p) hx
      rw [hml] at r5
      have P5 := v6 hP5
      rw [hml, hfl] at P5
      have LEN := v6 (hlen_any g (p * 3 + 2) 0 hv5 x.ms w5 hq5)
      have hk0 : (0 : Int) ≤ (k : Int) := by omega
      have hk1 : (k : Int) < (m : Int) := by omega
      have hp0 : (0 : Int) ≤ (p : Int) := by omega
      have hp1 : (p : Int) < (n : Int) := by omega
      have z5 : w2.heap.size ≤ w5.heap.size := (q9 P5).z
      obtain ⟨rfl, dc⟩ := hd
      rw [hml, hfl]
      clear HEND PR HPOS Z5 G5 N5 hP5 hq hbb0 B1 P2
      by_cases h66 : x.ms.length = 6
      · have hstep : Hid (vc6 M L pos (k + 1) = ((vc6 M L pos k).1, (vc6 M L pos k).2.1 ++ [x.id], (vc6 M L pos k).2.2 ++ [x.id])) := v6 (by
          rw [q9 hS]
          unfold qg7
          rw [hx]
          simp only
          rw [if_pos h66])
        rw [h66] at LEN
        obtain ⟨g6, cap6, w6, r6, Z6, G6, N6⟩ := (q9 P5).full.app z5 x.id (by rw [hfl]; omega) 29 w5.heap.size rfl rfl
        have P6 := v6 ((q9 P5).more_full (q9 Z6) (q9 G6) (fun j hj => by
          have e : g6 = j := by simpa [Value.ownBlock] using hj
          rw [← e]; exact q9 N6))
        simp only [hfl] at r6 P6
        have HS6 : Hid (∃ q, q ≤ m ∧ (Value.int .i64 ((k : Int) + 1)) = .int .i64 (q : Nat) ∧ Hid (PubAt w w2 F bb (last + 1) (.slice (some ⟨g, 0, none⟩) n c) tv rv (.slice (some ⟨d, 0, none⟩) m c2) pos (vc6 M L pos q) (.slice (some ⟨g5, 0, none⟩) (ml + 1) cap5) (.slice (some ⟨g6, 0, none⟩) (fl + 1) cap6) w6)) := v6 ⟨k + 1, by omega, rfl, v6 (by rw [q9 hstep]; exact q9 P6)⟩
        clear Z6 G6 N6 P6 hstep hS hx hq5 P5 PA h66
        go_wp2_with (go_at_call 43; refine (q9 LEN).mono ?_; rintro e w7 ⟨rfl, rfl⟩)
        exact ⟨q9 HS6, by simp [intOf]; omega⟩
      · have hstep : Hid (vc6 M L pos (k + 1) = ((vc6 M L pos k).1.set p { x with ms := vn8 x.ms M }, (vc6 M L pos k).2.1 ++ [x.id], (vc6 M L pos k).2.2)) := v6 (by
          rw [q9 hS]
          unfold qg7
          rw [hx]
          simp only
          rw [if_neg h66])
        have PUSH : Hid (∀ U, Below w5.heap.size w5 U → Calls Tryz.prog 44 #[.pointer (some ⟨g, p * 3 + 2, none⟩), .agg #[.int .i64 pri, .int .i64 (last + 1)]] U fun e w' => e = .returned (.tuple #[]) ∧ Hid (∃ q, q ≤ m ∧ (Value.int .i64 ((k : Int) + 1)) = .int .i64 (q : Nat) ∧ Hid (PubAt w w2 F bb (last + 1) (.slice (some ⟨g, 0, none⟩) n c) tv rv (.slice (some ⟨d, 0, none⟩) m c2) pos (vc6 M L pos q) (.slice (some ⟨g5, 0, none⟩) (ml + 1) cap5) (.slice fa fl fc) w'))) := v6 (by
          intro U hU
          have hPU := (q9 P5).below hU
          obtain ⟨_, _, _, _, _, hvU, hqU⟩ := hPU.facts (x := x) (p := p) hx
          have hmg : Value.agg #[.int .i64 pri, .int .i64 (last + 1)] = mgV M := by unfold mgV; rw [hMp, hMn]
          rw [hmg]
          refine (push_any g (p * 3 + 2) 0 hvU x.ms M (by omega) U hqU (Nat.zero_le _)).mono ?_
          rintro e w' ⟨v', rfl, h1, h2⟩
          refine ⟨rfl, v6 ⟨k + 1, by omega, rfl, v6 ?_⟩⟩
          rw [q9 hstep]
          exact hPU.pushed (p := p) hx hqU h1 h2 (by rw [ja2]; omega))
        obtain ⟨q, hq⟩ : ∃ q, x.ms.length = q := ⟨_, rfl⟩
        rw [hq] at LEN h66
        have hd6 : decide ((q : Int) = 6) = false := decide_eq_false (by omega)
        clear hstep hS hx hq5 PA hq h6
        go_wp2_with (go_at_call 43; refine (q9 LEN).mono ?_; rintro e w7 ⟨rfl, rfl⟩)
        go_region_with (go_at_call 44; refine (q9 PUSH _ (by repeat (first | exact Below.refl _ _ | apply Below.drew))).mono ?_; rintro e w8 ⟨rfl, S8⟩)
        all_goals go_wp2_with (go_at_call 44; refine (q9 PUSH _ (by repeat (first | exact Below.refl _ _ | apply Below.drew))).mono ?_; rintro e w8 ⟨rfl, S8⟩)
        all_goals exact ⟨q9 S8, by simp [intOf]; omega⟩
    · have hkm : k = m := by omega
      subst hkm
      have HE : Hid _ := v6 (q9 HEND w2 _ _ _ wr (q9 PA))
      clear HEND
      go_wp2_with fail
      refine bodyPost_ret (by simp [results, Tryz.results15, go_sem] <;> rfl) rfl ?_
      exact q9 HE
end
end Go.Proofs.YtfkcaldjphakpabGreatDoor
