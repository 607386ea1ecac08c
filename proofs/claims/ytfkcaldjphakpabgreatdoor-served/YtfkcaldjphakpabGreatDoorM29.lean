/- Publish. A broker that was made since, and two rows beside it. Served: what its calls do to the broker. Served. -/
import Derived.Test.YtfkcaldjphakpabGreatDoorM26
import Derived.Test.YtfkcaldjphakpabGreatDoorM28
import Derived.Test.YtfkcaldjphakpabGreatDoorM31
namespace Go.Proofs.YtfkcaldjphakpabGreatDoor
open Go.RowKit

section
attribute [local go_sem ↓] app_fold

/-- A broker's blocks when Publish has ended: its old ones and the new ones, but the rows of the answer. -/
def pubF (F : Nat → Prop) (w w' : World) (mv fv : Value) (k : Nat) : Prop := upF F w w' k ∧ mv.ownBlock ≠ some k ∧ fv.ownBlock ≠ some k

/-- Who is met. -/
def metS (ps : List Pr) (L : List Su) : List Nat := metR ps (progS L).1 (progS L).2
theorem metS_lt (ps : List Pr) (L : List Su) : ∀ p ∈ metS ps L, p < L.length := by
  intro p hp
  have := metK_lt _ _ _ p hp
  have e : (progS L).2.length = L.length := (addK_roots _ _).1
  rw [e] at this
  exact this
theorem metS_length (ps : List Pr) (L : List Su) : (metS ps L).length ≤ L.length := by
  have := metK_length (valsK ps (progS L).1 (progS L).1.length) (progS L).2 (progS L).2.length
  have e : (progS L).2.length = L.length := (addK_roots _ _).1
  rw [e] at this
  unfold metS metR
  rw [e]
  exact this

/-- The broker has the number of the message, and Run has told who is met. -/
theorem PubAt.begun {w w1 w2 : World} {F : Nat → Prop} {bb : Nat} {last last' : Int} {sv tv rv posv : Value} {l : List Sx} {pos : List Nat} (hB : BrAt w bb last sv tv rv l) (hF : ∀ k, F k → k < w.heap.size) (hfoot : ∀ k, BFoot bb sv tv rv l k → F k) (h1 : Below w.heap.size w w1)
    (h2 : Below w1.heap.size (w1.setCell ⟨bb, 0, none⟩ (.int .i64 last')) w2) (hp : IsAt w2 w1.heap.size posv pos) : PubAt w w2 F bb last' sv tv rv posv pos (l.map Sx.su, [], []) (.slice none 0 0) (.slice none 0 0) w2 := by
  have hz1 := h1.size
  have hz2 := h2.size
  rw [size_setCell] at hz2
  have hB1 := hB.below h1
  have same : ∀ k, k < w1.heap.size → k ≠ bb → w2.heap[k]? = w1.heap[k]? := fun k k1 k2 => by
    rw [h2.block k k1, Below.heap_setCell _ ⟨bb, 0, none⟩ _ k (by show k ≠ bb; exact k2)]
  have hlt := hB1.lt
  have r1 : ∀ {b s m : Nat} {e : TypeId} {v : Value} {xs : List Value}, w1.ownsRow b e s v m xs → e ≠ 67 → w2.ownsRow b e s v m xs := fun ho hne => ownsRow_same ho fun k hk => same k (ho.lt k hk).2 (fun e => by subst e; exact row_ne_bb ho hB1.blk hne hk)
  refine ⟨⟨l, ⟨?_, r1 hB1.row (by decide), ⟨r1 hB1.rows.ats (by decide), r1 hB1.rows.ars (by decide), hB1.rows.ne⟩, fun x hx => r1 (hB1.hps x hx) (by decide), hB1.dis, fun x hx => ?_, hB1.out, hB1.up, hB1.n8, hB1.m6, hB1.prg⟩, rfl, fun k hk => .inl (hfoot k hk)⟩, ?_, hF, by omega, Nat.le_refl _, ownsRow_le' hp hz1, fun k hk => (hp.lt k hk).2, ZsAt.nil _ _, ZsAt.nil _ _, fun k hk => by simp [Value.ownBlock] at hk⟩
  · rw [h2.block bb hlt]
    exact blk_set0 hB1.blk _
  · obtain ⟨q1, q2, q3⟩ := hB1.cos x hx
    exact ⟨CoAt.keep (Nat.le_refl _) (fun k k1 k2 => same k (by omega) (fun e => by have := hB1.out x hx k (.inl e); omega)) (by omega) q1, by omega, q3⟩
  · refine ⟨h2.os.trans h1.os, h2.tape.trans h1.tape, h2.output.trans h1.output, by omega, fun k k1 k2 => ?_⟩
    rw [same k (by omega) (fun e => k2 (hfoot k (.inl (.inl e)))), h1.block k k1]

/-- Publish has ended. -/
theorem PubAt.done {w w2 : World} {F : Nat → Prop} {bb : Nat} {last : Int} {sv tv rv posv : Value} {pos : List Nat} {st : List Su × List Int × List Int} {mv fv : Value} {wr : World} (h : PubAt w w2 F bb last sv tv rv posv pos st mv fv wr) :
    Br wr (pubF F w wr mv fv) bb last st.1 ∧ Grow F w wr ∧ ZsAt wr w.heap.size mv st.2.1 ∧ ZsAt wr w.heap.size fv st.2.2 := by
  obtain ⟨l, h1, h2, h3⟩ := h.ex
  have hz := h.grow.size
  refine ⟨⟨fun k hk => ?_, sv, tv, rv, l, h1, h2, fun k hk => ?_⟩, h.grow, ownsRow_le' h.met h.zw, ownsRow_le' h.full h.zw⟩
  · rcases hk.1 with e | e
    · have := h.hF k e; omega
    · exact e.2
  · refine ⟨?_, fun e => PubAt.not_foot h.hF h.zw h1 h3 h.met e hk, fun e => PubAt.not_foot h.hF h.zw h1 h3 h.full e hk⟩
    rcases h3 k hk with e | ⟨e, _⟩
    · exact .inl e
    · exact .inr ⟨e, h1.foot_lt hk⟩

theorem PubAt.pos_cell {w w2 : World} {F : Nat → Prop} {bb : Nat} {last : Int} {sv tv rv : Value} {a : Option Addr} {m c : Nat} {pos : List Nat} {st : List Su × List Int × List Int} {mv fv : Value} {wr : World} (h : PubAt w w2 F bb last sv tv rv (.slice a m c) pos st mv fv wr) {k p : Nat} (hp : pos[k]? = some p) : ∃ d, a = some ⟨d, 0, none⟩ ∧ wr.cell? ⟨d, k, none⟩ = some (.int .i64 p) := by
  rcases row_forms h.pos with ⟨_, h0⟩ | ⟨g, c', hv⟩
  · have := (List.getElem?_eq_some_iff.1 hp).1
    omega
  · have e : a = some ⟨g, 0, none⟩ := by simp at hv; exact hv.1
    refine ⟨g, e, ?_⟩
    have := World.ownsRow.cells h.pos (g := g) (by rw [e]; rfl) k (.int .i64 p) (by simp [intCells, hp])
    rwa [addr_off, Nat.zero_add] at this

set_option maxHeartbeats 4000000 in
set_option maxRecDepth 100000 in
theorem pub_ok (w : World) (F : Nat → Prop) (bb : Nat) (last : Int) (L : List Su) (h : Br w F bb last L) (pri : Int) (h0 : 0 ≤ pri) (h9 : pri ≤ 9) (hlast : 0 ≤ last ∧ last < 4611686018427387904) (ps : List Pr) (ev : Value)
    (hev : ∀ w', w.heap.size ≤ w'.heap.size → (∀ k, k < w.heap.size → ¬ F k → w'.heap[k]? = w.heap[k]?) → EvIn w' ev ps) (hg : EvGood ps) (hok : evOk ps = true)
    (Q : Ending → World → Prop) (hQ : ∀ w' mv fv, Br w' (pubF F w w' mv fv) bb (last + 1) (pubR ⟨pri, last + 1⟩ L (metS ps L)).1 → Grow F w w' → ZsAt w' w.heap.size mv (pubR ⟨pri, last + 1⟩ L (metS ps L)).2.1 → ZsAt w' w.heap.size fv (pubR ⟨pri, last + 1⟩ L (metS ps L)).2.2 → Q (.returned (.tuple #[mv, fv, .int .i64 0])) w') :
    Calls Tryz.prog 15 #[.pointer (some ⟨bb, 0, none⟩), .int .i64 pri, ev] w Q := by
  obtain ⟨hF, sv, tv, rv, l, hB, hL, hfoot⟩ := h
  have hev0 := hev w (Nat.le_refl _) (fun _ _ _ => rfl)
  have HV := hide (valid_in hev0 hg)
  rw [hok] at HV
  obtain ⟨ea, en, ec, rfl⟩ := hev0.slice
  have hpr : progS L = (tsX l, rsX l) := by rw [← hL, progS_of]
  obtain ⟨pos, hpos⟩ : ∃ pos, metS ps L = pos := ⟨_, rfl⟩
  have hposlt := metS_lt ps L
  have hposlen := metS_length ps L
  have hL8 : L.length ≤ 8 := by rw [← hL, List.length_map]; exact hB.n8
  rw [hpos] at hQ hposlt hposlen
  obtain ⟨m, hm⟩ : ∃ m, pos.length = m := ⟨_, rfl⟩
  obtain ⟨M, hM⟩ : ∃ M : Mg, M = ⟨pri, last + 1⟩ := ⟨_, rfl⟩
  rw [← hM] at hQ
  have hMp : M.pri = pri := by rw [hM]
  have hMn : M.num = last + 1 := by rw [hM]
  have hbb0 : Hid (∀ w1, Below w.heap.size w w1 → w1.cell? ⟨bb, 0, none⟩ = some (.int .i64 last) ∧ w1.frozen? ⟨bb, 0, none⟩ = false ∧ bb < w1.heap.size) := hide fun w1 hb => by
    have hB1 := hB.below hb
    exact ⟨hB1.cells.1, hB1.cells.2.2.2.2 0, hB1.lt⟩
  have PR : Hid (∀ w1, Below w.heap.size w w1 → Calls Tryz.prog 42 #[.pointer (some ⟨bb, 2, none⟩), .slice ea en ec] (w1.setCell ⟨bb, 0, none⟩ (.int .i64 (last + 1))) fun e w2 => ∃ a c, e = .returned (.slice a m c) ∧ Hid (PubAt w w2 F bb (last + 1) sv tv rv (.slice a m c) pos (pubK M L pos 0) (.slice none 0 0) (.slice none 0 0) w2)) := hide (by
    intro w1 hb1
    have hB1 := hB.below hb1
    have hz1 := hb1.size
    have hlt1 := hB1.lt
    obtain ⟨wS, hS⟩ : ∃ wS, wS = w1.setCell ⟨bb, 0, none⟩ (.int .i64 (last + 1)) := ⟨_, rfl⟩
    have hzS : wS.heap.size = w1.heap.size := by rw [hS]; simp
    have hP1 := PubAt.begun (last' := last + 1) (w2 := wS) (posv := .slice none 0 0) (pos := []) hB hF hfoot hb1 (by rw [hS]; exact Below.refl _ _) (IsAt.nil _ _)
    obtain ⟨l', b1, b2, _⟩ := hP1.ex
    have hpr' : progS L = (tsX l', rsX l') := by rw [← progS_of, b2, hL]
    have PA : ProgAt wS bb 2 (progS L).1 (progS L).2 := by
      rw [hpr']
      exact ⟨b1.lt, ⟨_, _, b1.cells.2.2.1, b1.rows.ats⟩, _, _, b1.cells.2.2.2.1, b1.rows.ars⟩
    have PG : Prg (progS L).1 (progS L).2 := by rw [hpr']; exact b1.prg
    have hevS := hev wS (by omega) (fun k k1 k2 => by
      rw [hS, Below.heap_setCell _ ⟨bb, 0, none⟩ _ k (by show k ≠ bb; exact fun e => k2 (hfoot k (.inl (.inl e)))), hb1.block k k1])
    rw [← hS]
    refine (prun_any ps _ bb 2 _ _ wS PA PG (hevS.arg (evOk_8 hok)) hg.rng (evSh_of hok)).mono ?_
    rintro e w2 ⟨v, rfl, hi, hb2⟩
    have hi' : IsAt w2 wS.heap.size v pos := by rw [← hpos]; exact hi
    obtain ⟨a, c, hv⟩ := hi'.form
    rw [hm] at hv
    subst hv
    refine ⟨a, c, rfl, hide ?_⟩
    have := PubAt.begun (last' := last + 1) hB hF hfoot hb1 (by rw [← hS, ← hzS]; exact hb2) (by rw [← hzS]; exact hi')
    rw [hL] at this
    exact this)
  have HPOS : Hid (∀ k p, pos[k]? = some p → ∃ x, (pubK M L pos k).1[p]? = some x) := hide fun k p hp => by
    have := hposlt p (List.mem_of_getElem? hp)
    exact ⟨_, List.getElem?_eq_getElem (by rw [pubK_length]; exact this)⟩
  have HEND : Hid (∀ w2 mv fv posv wr, PubAt w w2 F bb (last + 1) sv tv rv posv pos (pubK M L pos m) mv fv wr → Q (.returned (.tuple #[mv, fv, .int .i64 0])) wr) := hide (by
    intro w2 mv fv posv wr hP
    have e : pubK M L pos m = pubR M L pos := by unfold pubK pubR; rw [← hm, List.take_length]
    rw [e] at hP
    obtain ⟨q1, q2, q3, q4⟩ := hP.done
    exact hQ wr mv fv q1 q2 q3 q4)
  have hm8 : m ≤ 8 := by omega
  have HM := hide hm
  have hd0 : decide (pri < 0) = false := decide_eq_false (by omega)
  have hd9 : decide (pri > 9) = false := decide_eq_false (by omega)
  have hd9' : decide (9 < pri) = false := decide_eq_false (by omega)
  have hw : IntKind.i64.wrap (last + 1) = last + 1 := by rw [IntKind.wrap_i64]; omega
  clear hB hL hfoot hQ hF hev hg hok hev0 hpr hpos hposlt hposlen hL8 hm hM
  go_enter Tryz.func15, Tryz.ntmps15
  go_wp2_with (first | (go_at_call 40; refine (unhide HV).mono ?_; rintro e w1 ⟨rfl, hb1⟩; have B1 := hide hb1; obtain ⟨c1, f1, l1⟩ := unhide hbb0 w1 hb1; clear hb1) | (go_at_call 42; refine (unhide PR w1 (unhide B1)).mono ?_; rintro e w2 ⟨a2, c2, rfl, P2⟩))
  go_loopw [9, 10, 38] (fun mv fv i wr => ∃ k : Nat, k ≤ m ∧ i = .int .i64 k ∧ Hid (PubAt w w2 F bb (last + 1) sv tv rv (.slice a2 m c2) pos (pubK M L pos k) mv fv wr)) (fun _ _ i _ => m - (intOf i).toNat)
  case atStart => exact ⟨0, Nat.zero_le _, rfl, P2⟩
  case round =>
    obtain ⟨k, hk, rfl, PA⟩ := hrel
    by_cases hlt : k < m
    · obtain ⟨p, hp⟩ : ∃ p, pos[k]? = some p := ⟨_, List.getElem?_eq_getElem (by have := unhide HM; omega)⟩
      obtain ⟨x, hx⟩ := unhide HPOS k p hp
      obtain ⟨g, n, c, rfl⟩ := (unhide PA).form hx
      have hS : Hid (pubK M L pos (k + 1) = pubStep M (pubK M L pos k) p) := hide (pubK_succ M L pos k p hp)
      obtain ⟨hsm1, hsm2⟩ := pubK_small M L pos k
      obtain ⟨f1, f0, fi, hpn, h6, hv, hq⟩ := (unhide PA).facts hx
      obtain ⟨d, hd⟩ := (unhide PA).pos_cell hp
      obtain ⟨ma, mc, rfl⟩ := (unhide PA).met.form
      obtain ⟨fa, fc, rfl⟩ := (unhide PA).full.form
      have hzb : w2.heap.size ≤ wr.heap.size := (unhide PA).z
      obtain ⟨ml, hml⟩ : ∃ ml, (pubK M L pos k).2.1.length = ml := ⟨_, rfl⟩
      obtain ⟨fl, hfl⟩ : ∃ fl, (pubK M L pos k).2.2.length = fl := ⟨_, rfl⟩
      obtain ⟨g5, cap5, w5, r5, Z5, G5, N5⟩ := (unhide PA).met.app hzb x.id (by omega) 29 wr.heap.size rfl rfl
      have hP5 := (unhide PA).more_met (unhide Z5) (unhide G5) (fun j hj => by
        have e : g5 = j := by simpa [Value.ownBlock] using hj
        rw [← e]; exact unhide N5)
      obtain ⟨f51, f50, f5i, _, _, hv5, hq5⟩ := hP5.facts (x := x) (p := p) hx
      rw [hml] at r5
      have P5 := hide hP5
      rw [hml, hfl] at P5
      have LEN := hide (hlen_any g (p * 3 + 2) 0 hv5 x.ms w5 hq5)
      have hk0 : (0 : Int) ≤ (k : Int) := by omega
      have hk1 : (k : Int) < (m : Int) := by omega
      have hp0 : (0 : Int) ≤ (p : Int) := by omega
      have hp1 : (p : Int) < (n : Int) := by omega
      have z5 : w2.heap.size ≤ w5.heap.size := (unhide P5).z
      obtain ⟨rfl, dc⟩ := hd
      rw [hml, hfl]
      clear HEND PR HPOS Z5 G5 N5 hP5 hq hbb0 B1 P2
      by_cases h66 : x.ms.length = 6
      · have hstep : Hid (pubK M L pos (k + 1) = ((pubK M L pos k).1, (pubK M L pos k).2.1 ++ [x.id], (pubK M L pos k).2.2 ++ [x.id])) := hide (by
          rw [unhide hS]
          unfold pubStep
          rw [hx]
          simp only
          rw [if_pos h66])
        rw [h66] at LEN
        obtain ⟨g6, cap6, w6, r6, Z6, G6, N6⟩ := (unhide P5).full.app z5 x.id (by rw [hfl]; omega) 29 w5.heap.size rfl rfl
        have P6 := hide ((unhide P5).more_full (unhide Z6) (unhide G6) (fun j hj => by
          have e : g6 = j := by simpa [Value.ownBlock] using hj
          rw [← e]; exact unhide N6))
        simp only [hfl] at r6 P6
        have HS6 : Hid (∃ q, q ≤ m ∧ (Value.int .i64 ((k : Int) + 1)) = .int .i64 (q : Nat) ∧ Hid (PubAt w w2 F bb (last + 1) (.slice (some ⟨g, 0, none⟩) n c) tv rv (.slice (some ⟨d, 0, none⟩) m c2) pos (pubK M L pos q) (.slice (some ⟨g5, 0, none⟩) (ml + 1) cap5) (.slice (some ⟨g6, 0, none⟩) (fl + 1) cap6) w6)) := hide ⟨k + 1, by omega, rfl, hide (by rw [unhide hstep]; exact unhide P6)⟩
        clear Z6 G6 N6 P6 hstep hS hx hq5 P5 PA h66
        go_wp2_with (go_at_call 43; refine (unhide LEN).mono ?_; rintro e w7 ⟨rfl, rfl⟩)
        exact ⟨unhide HS6, by simp [intOf]; omega⟩
      · have hstep : Hid (pubK M L pos (k + 1) = ((pubK M L pos k).1.set p { x with ms := pushL x.ms M }, (pubK M L pos k).2.1 ++ [x.id], (pubK M L pos k).2.2)) := hide (by
          rw [unhide hS]
          unfold pubStep
          rw [hx]
          simp only
          rw [if_neg h66])
        have PUSH : Hid (∀ U, Below w5.heap.size w5 U → Calls Tryz.prog 44 #[.pointer (some ⟨g, p * 3 + 2, none⟩), .agg #[.int .i64 pri, .int .i64 (last + 1)]] U fun e w' => e = .returned (.tuple #[]) ∧ Hid (∃ q, q ≤ m ∧ (Value.int .i64 ((k : Int) + 1)) = .int .i64 (q : Nat) ∧ Hid (PubAt w w2 F bb (last + 1) (.slice (some ⟨g, 0, none⟩) n c) tv rv (.slice (some ⟨d, 0, none⟩) m c2) pos (pubK M L pos q) (.slice (some ⟨g5, 0, none⟩) (ml + 1) cap5) (.slice fa fl fc) w'))) := hide (by
          intro U hU
          have hPU := (unhide P5).below hU
          obtain ⟨_, _, _, _, _, hvU, hqU⟩ := hPU.facts (x := x) (p := p) hx
          have hmg : Value.agg #[.int .i64 pri, .int .i64 (last + 1)] = mgV M := by unfold mgV; rw [hMp, hMn]
          rw [hmg]
          refine (push_any g (p * 3 + 2) 0 hvU x.ms M (by omega) U hqU (Nat.zero_le _)).mono ?_
          rintro e w' ⟨v', rfl, h1, h2⟩
          refine ⟨rfl, hide ⟨k + 1, by omega, rfl, hide ?_⟩⟩
          rw [unhide hstep]
          exact hPU.pushed (p := p) hx hqU h1 h2 (by rw [pushL_length]; omega))
        obtain ⟨q, hq⟩ : ∃ q, x.ms.length = q := ⟨_, rfl⟩
        rw [hq] at LEN h66
        have hd6 : decide ((q : Int) = 6) = false := decide_eq_false (by omega)
        clear hstep hS hx hq5 PA hq h6
        go_wp2_with (go_at_call 43; refine (unhide LEN).mono ?_; rintro e w7 ⟨rfl, rfl⟩)
        go_region_with (go_at_call 44; refine (unhide PUSH _ (by repeat (first | exact Below.refl _ _ | apply Below.drew))).mono ?_; rintro e w8 ⟨rfl, S8⟩)
        all_goals go_wp2_with (go_at_call 44; refine (unhide PUSH _ (by repeat (first | exact Below.refl _ _ | apply Below.drew))).mono ?_; rintro e w8 ⟨rfl, S8⟩)
        all_goals exact ⟨unhide S8, by simp [intOf]; omega⟩
    · have hkm : k = m := by omega
      subst hkm
      have HE : Hid _ := hide (unhide HEND w2 _ _ _ wr (unhide PA))
      clear HEND
      go_wp2_with fail
      refine bodyPost_ret (by simp [results, Tryz.results15, go_sem] <;> rfl) rfl ?_
      exact unhide HE
end

section
structure SvF (w0 : World) (F : Nat → Prop) (w : World) (bb : Nat) (last : Int) (L : List Su) (wv hv : Value) (ws ns : List Int) : Prop where
  br : Br w F bb last L
  new : ∀ k, F k → w0.heap.size ≤ k
  below : Below w0.heap.size w0 w
  ws : ZsAt w w0.heap.size wv ws
  ns : ZsAt w w0.heap.size hv ns
  wF : ∀ k, wv.ownBlock = some k → ¬ F k
  nF : ∀ k, hv.ownBlock = some k → ¬ F k
  ne : ∀ k, wv.ownBlock = some k → hv.ownBlock ≠ some k
def SvAt (w0 w : World) (bb : Nat) (last : Int) (L : List Su) (wv hv : Value) (ws ns : List Int) : Prop := ∃ F, SvF w0 F w bb last L wv hv ws ns

theorem SvF.op {w0 : World} {F F' : Nat → Prop} {w w' : World} {bb : Nat} {last last' : Int} {L L' : List Su} {wv hv : Value} {ws ns : List Int} (h : SvF w0 F w bb last L wv hv ws ns) (hg : Grow F w w') (hF' : ∀ k, F' k → upF F w w' k) (hb : Br w' F' bb last' L') : SvAt w0 w' bb last' L' wv hv ws ns := by
  have hz := h.below.size
  refine ⟨F', hb, fun k hk => ?_, ⟨hg.os.trans h.below.os, hg.tape.trans h.below.tape, hg.output.trans h.below.output, Nat.le_trans hz hg.size, fun k hk => (hg.block k (by omega) (fun e => by have := h.new k e; omega)).trans (h.below.block k hk)⟩, ownsRow_same h.ws fun k hk => hg.block k (h.ws.lt k hk).2 (h.wF k hk), ownsRow_same h.ns fun k hk => hg.block k (h.ns.lt k hk).2 (h.nF k hk), fun k hk e => ?_, fun k hk e => ?_, h.ne⟩
  · rcases hF' k hk with e | e
    · exact h.new k e
    · omega
  · rcases hF' k e with e | e
    · exact h.wF k hk e
    · have := (h.ws.lt k hk).2; omega
  · rcases hF' k e with e | e
    · exact h.nF k hk e
    · have := (h.ns.lt k hk).2; omega
theorem SvAt.keep {w0 w w' : World} {bb : Nat} {last : Int} {L : List Su} {wv hv : Value} {ws ns : List Int} (h : SvAt w0 w bb last L wv hv ws ns) (hb : Below w.heap.size w w') : SvAt w0 w' bb last L wv hv ws ns := by
  obtain ⟨F, hf⟩ := h
  exact hf.op (F' := F) (Grow.of_below hb) (fun k hk => .inl hk) (hf.br.below hb)
theorem SvAt.app_w {w0 w w' : World} {bb : Nat} {last : Int} {L : List Su} {wv hv wv' : Value} {ws ns ws' : List Int} (h : SvAt w0 w bb last L wv hv ws ns) (hz : ZsAt w' w0.heap.size wv' ws') (hg : w.grownBy w' wv.ownBlock) (hn : ∀ k, wv'.ownBlock = some k → wv.ownBlock = some k ∨ w.heap.size ≤ k) : SvAt w0 w' bb last L wv' hv ws' ns := by
  obtain ⟨F, hf⟩ := h
  have hzz := hf.below.size
  refine ⟨F, hf.br.frame hg.size fun k hk => hg.block k (hf.br.1 k hk) (fun e => hf.wF k e.symm hk), hf.new, ⟨hg.os.trans hf.below.os, hg.tape.trans hf.below.tape, hg.output.trans hf.below.output, Nat.le_trans hzz hg.size, fun k hk => (hg.block k (by omega) (fun e => by have := (hf.ws.lt k e.symm).1; omega)).trans (hf.below.block k hk)⟩, hz, ownsRow_same hf.ns fun k hk => hg.block k (hf.ns.lt k hk).2 (fun e => hf.ne k e.symm hk), fun k hk e => ?_, hf.nF, fun k hk e => ?_⟩
  · rcases hn k hk with e' | e'
    · exact hf.wF k e' e
    · have := hf.br.1 k e; omega
  · rcases hn k hk with e' | e'
    · exact hf.ne k e' e
    · have := (hf.ns.lt k e).2; omega
theorem SvAt.app_n {w0 w w' : World} {bb : Nat} {last : Int} {L : List Su} {wv hv hv' : Value} {ws ns ns' : List Int} (h : SvAt w0 w bb last L wv hv ws ns) (hz : ZsAt w' w0.heap.size hv' ns') (hg : w.grownBy w' hv.ownBlock) (hn : ∀ k, hv'.ownBlock = some k → hv.ownBlock = some k ∨ w.heap.size ≤ k) : SvAt w0 w' bb last L wv hv' ws ns' := by
  obtain ⟨F, hf⟩ := h
  have hzz := hf.below.size
  refine ⟨F, hf.br.frame hg.size fun k hk => hg.block k (hf.br.1 k hk) (fun e => hf.nF k e.symm hk), hf.new, ⟨hg.os.trans hf.below.os, hg.tape.trans hf.below.tape, hg.output.trans hf.below.output, Nat.le_trans hzz hg.size, fun k hk => (hg.block k (by omega) (fun e => by have := (hf.ns.lt k e.symm).1; omega)).trans (hf.below.block k hk)⟩, ownsRow_same hf.ws fun k hk => hg.block k (hf.ws.lt k hk).2 (fun e => hf.ne k hk e.symm), hz, hf.wF, fun k hk e => ?_, fun k hk e => ?_⟩
  · rcases hn k hk with e' | e'
    · exact hf.nF k e' e
    · have := hf.br.1 k e; omega
  · rcases hn k e with e' | e'
    · exact hf.ne k hk e'
    · have := (hf.ws.lt k hk).2; omega
theorem SvAt.wsAt {w0 w : World} {bb : Nat} {last : Int} {L : List Su} {wv hv : Value} {ws ns : List Int} (h : SvAt w0 w bb last L wv hv ws ns) : ZsAt w w0.heap.size wv ws ∧ ZsAt w w0.heap.size hv ns ∧ Below w0.heap.size w0 w := by
  obtain ⟨F, hf⟩ := h
  exact ⟨hf.ws, hf.ns, hf.below⟩
theorem ZsAt.cell {w : World} {base : Nat} {v : Value} {l : List Int} (h : ZsAt w base v l) {i : Nat} {x : Int} (hi : l[i]? = some x) : ∃ g c, v = .slice (some ⟨g, 0, none⟩) l.length c ∧ w.cell? ⟨g, i, none⟩ = some (.int .i64 x) := by
  rcases row_forms h with ⟨_, h0⟩ | ⟨g, c, rfl⟩
  · have := (List.getElem?_eq_some_iff.1 hi).1
    omega
  · refine ⟨g, c, rfl, ?_⟩
    have := World.ownsRow.cells h (g := g) rfl i (.int .i64 x) (by simp [zCells, hi])
    rwa [addr_off, Nat.zero_add] at this

/-- A broker that has just been made. -/
theorem br_new (w : World) : SvAt w (w.alloc (.cells #[.int .i64 0, .slice none 0 0, .slice none 0 0, .slice none 0 0] 67)) w.heap.size 0 [] (.slice none 0 0) (.slice none 0 0) [] [] := by
  refine ⟨fun k => k = w.heap.size, ⟨fun k hk => by simp; omega, .slice none 0 0, .slice none 0 0, .slice none 0 0, [], ⟨?_, World.ownsRow_nil _ _ _ _, ⟨TsAt.nil _ _, IsAt.nil _ _, fun g hg => by simp [Value.ownBlock] at hg⟩, fun x hx => by simp at hx, List.Pairwise.nil, fun x hx => by simp at hx, fun x hx => by simp at hx, List.Pairwise.nil, Nat.zero_le _, fun x hx => by simp at hx, ⟨Nat.zero_le _, Nat.zero_le _, fun i t h => by simp [tsX, addK] at h, fun r hr => by simp [rsX, addK] at hr⟩⟩, rfl, fun k hk => ?_⟩, fun k hk => by omega, below1 _ _, ZsAt.nil _ _, ZsAt.nil _ _, fun k hk => by simp [Value.ownBlock] at hk, fun k hk => by simp [Value.ownBlock] at hk, fun k hk => by simp [Value.ownBlock] at hk⟩
  · exact heap_alloc_new w _
  · rcases hk with (e | e | e | e | ⟨x, hx, _⟩) | ⟨x, hx, _⟩
    · exact e
    · simp [Value.ownBlock] at e
    · simp [Value.ownBlock] at e
    · simp [Value.ownBlock] at e
    · simp at hx
    · simp at hx

theorem evIn_none (w : World) : EvIn w (.slice none 0 0) [] := .inl ⟨rfl, none, 0, rfl⟩
theorem evGood_none : EvGood [] := ⟨fun p hp => by simp at hp, fun p hp => by simp at hp, by decide⟩
theorem evOk_none : evOk [] = true := by kernel_rfl
end

section
def trueT : List UInt8 := [84, 82, 85, 69]
def falseT : List UInt8 := [70, 65, 76, 83, 69]
def trueA : Ast := .leaf ⟨3, 0, 0, [], [], []⟩
def falseA : Ast := .leaf ⟨4, 0, 0, [], [], []⟩
def trueC : Co := .leaf ⟨3, 0, [], []⟩
def falseC : Co := .leaf ⟨4, 0, [], []⟩
set_option maxRecDepth 100000 in
theorem readTrue : readR (BS trueT) = .ok trueA := by kernel_rfl
set_option maxRecDepth 100000 in
theorem readFalse : readR (BS falseT) = .ok falseA := by kernel_rfl
theorem coreTrue : coreA trueA = trueC := by kernel_rfl
theorem coreFalse : coreA falseA = falseC := by kernel_rfl
theorem trueC_good : GoodC trueC := ⟨⟨by decide, by decide⟩, rng0, by decide, by decide⟩
theorem falseC_good : GoodC falseC := ⟨⟨by decide, by decide⟩, rng0, by decide, by decide⟩
theorem txTrue : TxOk trueT trueC := ⟨trueA, readTrue, coreTrue, fun h => absurd h (by simp [trueA, HasIn]), trueC_good, by decide, by decide⟩
theorem txFalse : TxOk falseT falseC := ⟨falseA, readFalse, coreFalse, fun h => absurd h (by simp [falseA, HasIn]), falseC_good, by decide, by decide⟩

/-- A subscription 7 with TRUE, one 9 with FALSE. -/
def s7 (ms : List Mg) : Su := ⟨7, trueC, ms⟩
def s9 : Su := ⟨9, falseC, []⟩
def L2 (ms : List Mg) : List Su := [s7 ms, s9]
theorem prog2 (ms : List Mg) : progS (L2 ms) = ([⟨3, 0, 0, 0, [], []⟩, ⟨4, 0, 0, 0, [], []⟩], [0, 1]) := by
  show addK [trueC, falseC] 2 = _
  kernel_rfl
theorem prog7 (ms : List Mg) : progS [s7 ms] = ([⟨3, 0, 0, 0, [], []⟩], [0]) := by
  show addK [trueC] 1 = _
  kernel_rfl
theorem prog9 : progS [s9] = ([⟨4, 0, 0, 0, [], []⟩], [0]) := by
  show addK [falseC] 1 = _
  kernel_rfl
theorem prg2 (ms : List Mg) : PrgS (L2 ms) := by
  unfold PrgS
  rw [prog2]
  refine ⟨by decide, by decide, fun i t h => ?_, by decide⟩
  match i, h with
  | 0, h => obtain rfl := Option.some.inj h; exact ⟨by decide, rng0, by decide, by decide, by decide⟩
  | 1, h => obtain rfl := Option.some.inj h; exact ⟨by decide, rng0, by decide, by decide, by decide⟩
  | i + 2, h => simp at h
theorem prg7 (ms : List Mg) : PrgS [s7 ms] := by
  unfold PrgS
  rw [prog7]
  refine ⟨by decide, by decide, fun i t h => ?_, by decide⟩
  match i, h with
  | 0, h => obtain rfl := Option.some.inj h; exact ⟨by decide, rng0, by decide, by decide, by decide⟩
  | i + 1, h => simp at h
theorem prg9 : PrgS [s9] := by
  unfold PrgS
  rw [prog9]
  refine ⟨by decide, by decide, fun i t h => ?_, by decide⟩
  match i, h with
  | 0, h => obtain rfl := Option.some.inj h; exact ⟨by decide, rng0, by decide, by decide, by decide⟩
  | i + 1, h => simp at h
theorem met2 (ms : List Mg) : metS [] (L2 ms) = [0] := by
  unfold metS
  rw [prog2]
  kernel_rfl
theorem pub2_full (ms : List Mg) (m : Mg) (h : ms.length = 6) : pubR m (L2 ms) [0] = (L2 ms, [7], [7]) := by
  simp [pubR, pubStep, L2, s7, h]
theorem pub2_room (ms : List Mg) (m : Mg) (h : ms.length ≠ 6) : pubR m (L2 ms) [0] = (L2 (pushL ms m), [7], []) := by
  simp [pubR, pubStep, L2, s7, h]

section
variable {w0 w : World} {bb : Nat} {last : Int} {wv hv : Value} {ws ns : List Int}

theorem sv_sub7 (hL : LibOk w0) (h : SvAt w0 w bb last [] wv hv ws ns) : Calls Tryz.prog 12 #[.pointer (some ⟨bb, 0, none⟩), .int .i64 7, .string (BS trueT)] w fun e w' => e = .returned (.tuple #[.int .i64 0, .int .i64 0]) ∧ SvAt w0 w' bb last [s7 []] wv hv ws ns := by
  obtain ⟨F, hf⟩ := h
  exact sub_ok w F bb last [] hf.br 7 (fun x hx => by simp at hx) trueT trueC txTrue (by decide) (hL.below hf.below (Nat.le_refl _)) (by show (progS [s7 []]).1.length ≤ 80; rw [prog7]; decide) (prg7 []) _ fun w' h1 h2 => ⟨rfl, hf.op h2 (fun _ hk => hk) h1⟩
theorem sv_sub9 (hL : LibOk w0) (h : SvAt w0 w bb last [s7 []] wv hv ws ns) : Calls Tryz.prog 12 #[.pointer (some ⟨bb, 0, none⟩), .int .i64 9, .string (BS falseT)] w fun e w' => e = .returned (.tuple #[.int .i64 0, .int .i64 0]) ∧ SvAt w0 w' bb last (L2 []) wv hv ws ns := by
  obtain ⟨F, hf⟩ := h
  exact sub_ok w F bb last [s7 []] hf.br 9 (fun x hx => by simp at hx; subst hx; decide) falseT falseC txFalse (by decide) (hL.below hf.below (Nat.le_refl _)) (by show (progS (L2 [])).1.length ≤ 80; rw [prog2]; decide) (prg2 []) _ fun w' h1 h2 => ⟨rfl, hf.op h2 (fun _ hk => hk) h1⟩
theorem sv_sub7' (hL : LibOk w0) (h : SvAt w0 w bb last [s9] wv hv ws ns) : Calls Tryz.prog 12 #[.pointer (some ⟨bb, 0, none⟩), .int .i64 7, .string (BS trueT)] w fun e w' => e = .returned (.tuple #[.int .i64 0, .int .i64 0]) ∧ SvAt w0 w' bb last (L2 []) wv hv ws ns := by
  obtain ⟨F, hf⟩ := h
  exact sub_ok w F bb last [s9] hf.br 7 (fun x hx => by simp at hx; subst hx; decide) trueT trueC txTrue (by decide) (hL.below hf.below (Nat.le_refl _)) (by show (progS (L2 [])).1.length ≤ 80; rw [prog2]; decide) (prg2 []) _ fun w' h1 h2 => ⟨rfl, hf.op h2 (fun _ hk => hk) h1⟩
theorem sv_poll7 {ms : List Mg} (h : SvAt w0 w bb last (L2 ms) wv hv ws ns) : Calls Tryz.prog 22 #[.pointer (some ⟨bb, 0, none⟩), .int .i64 7] w fun e w' => e = .returned (.tuple #[.int .i64 (headN ms), .int .i64 0]) ∧ SvAt w0 w' bb last (L2 (popM ms)) wv hv ws ns := by
  obtain ⟨F, hf⟩ := h
  exact poll_at w F bb last (L2 ms) hf.br 0 (s7 ms) rfl _ fun w' h1 h2 => ⟨rfl, hf.op h2 (fun _ hk => hk) h1⟩
theorem sv_poll9 {ms : List Mg} (h : SvAt w0 w bb last (L2 ms) wv hv ws ns) : Calls Tryz.prog 22 #[.pointer (some ⟨bb, 0, none⟩), .int .i64 9] w fun e w' => e = .returned (.tuple #[.int .i64 0, .int .i64 0]) ∧ SvAt w0 w' bb last (L2 ms) wv hv ws ns := by
  obtain ⟨F, hf⟩ := h
  exact poll_at w F bb last (L2 ms) hf.br 1 s9 rfl _ fun w' h1 h2 => ⟨rfl, hf.op h2 (fun _ hk => hk) h1⟩
theorem sv_pollNo (h : SvAt w0 w bb last [s9] wv hv ws ns) : Calls Tryz.prog 22 #[.pointer (some ⟨bb, 0, none⟩), .int .i64 7] w fun e w' => e = .returned (.tuple #[.int .i64 0, .int .i64 5]) ∧ SvAt w0 w' bb last [s9] wv hv ws ns := by
  have h0 := h
  obtain ⟨F, hf⟩ := h
  refine (poll_no w F bb last [s9] hf.br 7 (fun x hx => by simp at hx; subst hx; decide)).mono ?_
  rintro e w' ⟨rfl, hb⟩
  exact ⟨rfl, h0.keep hb⟩
theorem sv_unsub7 {ms : List Mg} (h : SvAt w0 w bb last (L2 ms) wv hv ws ns) : Calls Tryz.prog 19 #[.pointer (some ⟨bb, 0, none⟩), .int .i64 7] w fun e w' => e = .returned (.int .i64 0) ∧ SvAt w0 w' bb last [s9] wv hv ws ns := by
  obtain ⟨F, hf⟩ := h
  exact unsub_at w F bb last (L2 ms) hf.br 0 (s7 ms) rfl prg9 _ fun w' h1 h2 => ⟨rfl, hf.op h2 (fun _ hk => hk) h1⟩

theorem sv_pub {ms : List Mg} {pri : Int} (h0 : 0 ≤ pri) (h9 : pri ≤ 9) (hl : 0 ≤ last ∧ last < 4611686018427387904) (h : SvAt w0 w bb last (L2 ms) wv hv ws ns) : Calls Tryz.prog 15 #[.pointer (some ⟨bb, 0, none⟩), .int .i64 pri, .slice none 0 0] w fun e w' => ∃ mv fv, e = .returned (.tuple #[mv, fv, .int .i64 0]) ∧ ZsAt w' w.heap.size mv (pubR ⟨pri, last + 1⟩ (L2 ms) [0]).2.1 ∧ ZsAt w' w.heap.size fv (pubR ⟨pri, last + 1⟩ (L2 ms) [0]).2.2 ∧ SvAt w0 w' bb (last + 1) (pubR ⟨pri, last + 1⟩ (L2 ms) [0]).1 wv hv ws ns := by
  obtain ⟨F, hf⟩ := h
  refine pub_ok w F bb last (L2 ms) hf.br pri h0 h9 hl [] _ (fun w' _ _ => evIn_none w') evGood_none evOk_none _ fun w' mv fv h1 h2 h3 h4 => ?_
  rw [met2] at h1 h3 h4
  exact ⟨mv, fv, rfl, h3, h4, hf.op h2 (fun _ hk => hk.1) h1⟩
/-- There is room: none is told that there was not. -/
theorem sv_pubR {ms : List Mg} {pri : Int} (h0 : 0 ≤ pri) (h9 : pri ≤ 9) (hl : 0 ≤ last ∧ last < 4611686018427387904) (hm : ms.length ≠ 6) (h : SvAt w0 w bb last (L2 ms) wv hv ws ns) : Calls Tryz.prog 15 #[.pointer (some ⟨bb, 0, none⟩), .int .i64 pri, .slice none 0 0] w fun e w' => ∃ g c fa fc, e = .returned (.tuple #[.slice (some ⟨g, 0, none⟩) 1 c, .slice fa 0 fc, .int .i64 0]) ∧ w'.cell? ⟨g, 0, none⟩ = some (.int .i64 7) ∧ SvAt w0 w' bb (last + 1) (L2 (pushL ms ⟨pri, last + 1⟩)) wv hv ws ns := by
  refine (sv_pub h0 h9 hl h).mono ?_
  rintro e w' ⟨mv, fv, rfl, h1, h2, h3⟩
  rw [pub2_room ms _ hm] at h1 h2 h3
  obtain ⟨g, c, rfl, hc⟩ := h1.cell (i := 0) (x := 7) rfl
  obtain ⟨fa, fc, rfl⟩ := h2.form
  exact ⟨g, c, fa, fc, rfl, hc, h3⟩
/-- There is none: it is told. -/
theorem sv_pubF {ms : List Mg} {pri : Int} (h0 : 0 ≤ pri) (h9 : pri ≤ 9) (hl : 0 ≤ last ∧ last < 4611686018427387904) (hm : ms.length = 6) (h : SvAt w0 w bb last (L2 ms) wv hv ws ns) : Calls Tryz.prog 15 #[.pointer (some ⟨bb, 0, none⟩), .int .i64 pri, .slice none 0 0] w fun e w' => ∃ g c f fc, e = .returned (.tuple #[.slice (some ⟨g, 0, none⟩) 1 c, .slice (some ⟨f, 0, none⟩) 1 fc, .int .i64 0]) ∧ w'.cell? ⟨g, 0, none⟩ = some (.int .i64 7) ∧ w'.cell? ⟨f, 0, none⟩ = some (.int .i64 7) ∧ SvAt w0 w' bb (last + 1) (L2 ms) wv hv ws ns := by
  refine (sv_pub h0 h9 hl h).mono ?_
  rintro e w' ⟨mv, fv, rfl, h1, h2, h3⟩
  rw [pub2_full ms _ hm] at h1 h2 h3
  obtain ⟨g, c, rfl, hc⟩ := h1.cell (i := 0) (x := 7) rfl
  obtain ⟨f, fc, rfl, hd⟩ := h2.cell (i := 0) (x := 7) rfl
  exact ⟨g, c, f, fc, rfl, hc, hd, h3⟩
end
end

section
attribute [local go_sem ↓] app_fold

/-- A list of numbers, to be read. -/
def IntsAt (w : World) (v : Value) (zs : List Int) : Prop := ∃ a cap, v = .slice a zs.length cap ∧ zs.length ≤ 140737488355328 ∧ ∀ (i : Nat) (x : Int), zs[i]? = some x → Rng x ∧ ∃ b off, a = some ⟨b, off, none⟩ ∧ b < w.heap.size ∧ w.cell? ⟨b, off + i, none⟩ = some (.int .i64 x)

def prio (zs : List Int) (j : Nat) : Int := pickZ (zs.getD j 0) 10
theorem prio_in (zs : List Int) (j : Nat) : 0 ≤ prio zs j ∧ prio zs j ≤ 9 := pickZ_10 _
theorem first_in {zs : List Int} {k : Nat} : ∀ m ∈ firstM (prio zs) k, 0 ≤ m.pri ∧ m.pri ≤ 9 := by
  intro m hm
  obtain ⟨i, hi⟩ := List.getElem?_of_mem hm
  obtain ⟨_, rfl⟩ := firstM_get hi
  exact prio_in zs i

/-- Where Served stands: the broker, and the priorities and numbers of those that wait. -/
def SvM (w0 w : World) (last : Int) (ms : List Mg) (wv hv : Value) (M : List Mg) : Prop := SvAt w0 w w0.heap.size last (L2 ms) wv hv (M.map Mg.pri) (M.map Mg.num)

theorem SvM.form {w0 w : World} {last : Int} {ms : List Mg} {wv hv : Value} {M : List Mg} (h : SvM w0 w last ms wv hv M) : ∃ wa wc ha hc, wv = .slice wa M.length wc ∧ hv = .slice ha M.length hc := by
  obtain ⟨h1, h2, _⟩ := SvAt.wsAt h
  obtain ⟨wa, wc, e1⟩ := h1.form
  obtain ⟨ha, hc, e2⟩ := h2.form
  rw [List.length_map] at e1 e2
  exact ⟨wa, wc, ha, hc, e1, e2⟩

theorem SvM.app {w0 w : World} {last : Int} {ms : List Mg} {wv hv : Value} {M : List Mg} (h : SvM w0 w last ms wv hv M) (hM : M.length ≤ 6) (m : Mg) :
    ∃ g c w6 g' c' w7, (appSem #[29, 29] 29 #[wv, .slice (some ⟨w.heap.size, 0, none⟩) 1 1]).run Tryz.prog (w.alloc (.cells #[.int .i64 m.pri] 3)) = .ok (.slice (some ⟨g, 0, none⟩) (M.length + 1) c) w6 ∧
      (appSem #[29, 29] 29 #[hv, .slice (some ⟨w6.heap.size, 0, none⟩) 1 1]).run Tryz.prog (w6.alloc (.cells #[.int .i64 m.num] 3)) = .ok (.slice (some ⟨g', 0, none⟩) (M.length + 1) c') w7 ∧
      Hid (SvM w0 w7 last ms (.slice (some ⟨g, 0, none⟩) (M.length + 1) c) (.slice (some ⟨g', 0, none⟩) (M.length + 1) c') (M ++ [m])) := by
  obtain ⟨h1, h2, hb⟩ := SvAt.wsAt h
  obtain ⟨g, c, w6, r1, z1, g1, n1⟩ := h1.app hb.size m.pri (by rw [List.length_map]; omega) 29 w.heap.size rfl rfl
  rw [List.length_map] at r1 z1
  have s1 := SvAt.app_w h (unhide z1) (unhide g1) (fun k hk => by
    have e : g = k := by simpa [Value.ownBlock] using hk
    rw [← e]; exact unhide n1)
  obtain ⟨_, h2', hb'⟩ := SvAt.wsAt s1
  obtain ⟨g', c', w7, r2, z2, g2, n2⟩ := h2'.app hb'.size m.num (by rw [List.length_map]; omega) 29 w6.heap.size rfl rfl
  rw [List.length_map] at r2 z2
  have s2 := SvAt.app_n s1 (unhide z2) (unhide g2) (fun k hk => by
    have e : g' = k := by simpa [Value.ownBlock] using hk
    rw [← e]; exact unhide n2)
  refine ⟨g, c, w6, g', c', w7, r1, r2, hide ?_⟩
  unfold SvM
  rw [List.map_append, List.map_append]
  exact s2

theorem SvM.at_ {w0 w : World} {last : Int} {ms : List Mg} {wv hv : Value} {M : List Mg} (h : SvM w0 w last ms wv hv M) {j : Nat} {x : Mg} (hj : M[j]? = some x) : ∃ g c g' c', wv = .slice (some ⟨g, 0, none⟩) M.length c ∧ hv = .slice (some ⟨g', 0, none⟩) M.length c' ∧ w.cell? ⟨g, j, none⟩ = some (.int .i64 x.pri) ∧ w.cell? ⟨g', j, none⟩ = some (.int .i64 x.num) := by
  obtain ⟨h1, h2, _⟩ := SvAt.wsAt h
  obtain ⟨g, c, e1, c1⟩ := h1.cell (i := j) (x := x.pri) (by rw [List.getElem?_map, hj]; rfl)
  obtain ⟨g', c', e2, c2⟩ := h2.cell (i := j) (x := x.num) (by rw [List.getElem?_map, hj]; rfl)
  rw [List.length_map] at e1 e2
  exact ⟨g, c, g', c', e1, e2, c1, c2⟩
end

end Go.Proofs.YtfkcaldjphakpabGreatDoor
