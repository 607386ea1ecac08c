/- Compile of selectors that are all read, and together have no more terms than there may be. find; Live, Nodes, New. -/
import Derived.Test.YtfkcaldjphakpabGreatDoorT23
import Derived.Test.YtfkcaldjphakpabGreatDoorT26
import Derived.Test.YtfkcaldjphakpabGreatDoorT30
namespace Go.Proofs.YtfkcaldjphakpabGreatDoor
open Go.RowKit
section
def qh0 (cs : List Co) : Nat → List Tm × List Nat
  | 0 => ([], [])
  | k + 1 => ((j9 (qh0 cs k).1 (cs.getD k (.leaf ⟨3, 0, [], []⟩))).1, (qh0 cs k).2 ++ [(j9 (qh0 cs k).1 (cs.getD k (.leaf ⟨3, 0, [], []⟩))).2])
theorem qp5 (cs : List Co) (k : Nat) : (qh0 cs k).2.length = k ∧ ∀ r ∈ (qh0 cs k).2, r < (qh0 cs k).1.length := by
  induction k with
  | zero => exact ⟨rfl, fun r hr => by simp [qh0] at hr⟩
  | succ k ih =>
    have hp := qp7 (qh0 cs k).1 (cs.getD k (.leaf ⟨3, 0, [], []⟩))
    refine ⟨by rw [qh0, List.length_append, ih.1]; rfl, fun r hr => ?_⟩
    rw [qh0, List.mem_append] at hr
    rw [qh0]
    rcases hr with hr | hr
    · have := ih.2 r hr
      show r < (j9 (qh0 cs k).1 (cs.getD k (.leaf ⟨3, 0, [], []⟩))).1.length
      omega
    · simp at hr
      subst hr
      exact hp.2.2
def TxOk (s : List UInt8) (c : Co) : Prop := ∃ t, qm5 (BS s) = .ok t ∧ j6 t = c ∧ (vf4 t → vc8) ∧ vf3 c ∧ qs1 c ≤ 250000000 ∧ s.length ≤ 140737488355328
theorem MkAt.prog {W : World} {mb mp : Nat} {ts : List Tm} {rs : List Nat} {tv rv : Value} (h : MkAt W mb mp ts rs tv rv) : ProgAt W mb 0 ts rs := ⟨h.lt, ⟨tv, _, h.c0, h.ats⟩, rv, _, h.c1, h.ars⟩
theorem jj9 {w W W' : World} {mb mp : Nat} {ts : List Tm} {rs : List Nat} {tv rv tv' rv' : Value} (hb : Below w.heap.size w W) (hm : MkAt W mb mp ts rs tv rv) (hk : MkKept mb mp tv rv tv' rv' W W') (hp : w.heap.size ≤ mp) : Below w.heap.size w W' := by
  have hlo := hm.lo
  refine ⟨hk.os.trans hb.os, hk.tape.trans hb.tape, hk.output.trans hb.output, Nat.le_trans hb.size hk.size, fun k hlt => (hk.block k (by have := hb.size; omega) (fun ho => ?_)).trans (hb.block k hlt)⟩
  rcases ho with rfl | rfl | ho | ho
  · omega
  · omega
  · have := (hm.ats.lt k ho).1; omega
  · have := (hm.ars.lt k ho).1; omega
theorem add_ends (c : Co) (hg : vf3 c) (B mb mp : Nat) (W : World) (v : Value) (ts : List Tm) (rs : List Nat) (tv rv : Value) (hm : MkAt W mb mp ts rs tv rv) (hs : CoAt B W.heap.size W v c) (ho : Out B W.heap.size mb mp tv rv) (hn : ts.length + qs1 c ≤ 2500000000) (hr : rs.length ≤ 1000) :
    Calls Tryz.prog 38 #[.pointer (some ⟨mb, 0, none⟩), v] W fun e w' => ∃ tv' rv', e = .returned (.tuple #[]) ∧ MkAt w' mb mp (j9 ts c).1 (rs ++ [(j9 ts c).2]) tv' rv' ∧ MkKept mb mp tv rv tv' rv' W w' :=
  jm8 c hg B W.heap.size mb mp W v ts rs tv rv hm hs (Nat.le_refl _) ho hn hr _ fun _ tv' rv' h1 h2 => ⟨tv', rv', rfl, h1, h2⟩
set_option maxHeartbeats 2000000 in
set_option maxRecDepth 100000 in
theorem jr4 (ss : List (List UInt8)) (cs : List Co) (hlen : cs.length = ss.length) (h8 : ss.length ≤ 8) (htx : ∀ (k : Nat) (s : List UInt8) (c : Co), ss[k]? = some s → cs[k]? = some c → TxOk s c) (h80 : ∀ k, k ≤ ss.length → (qh0 cs k).1.length ≤ 80)
    (hw : ∀ t ∈ (qh0 cs ss.length).1, SmallT t ∧ jc5 t) (a : Option Addr) (cap : Nat) (w : World) (hL : LibOk w) (hss : ∀ (k : Nat) (s : List UInt8), ss[k]? = some s → ∃ sb so, a = some ⟨sb, so, none⟩ ∧ sb < w.heap.size ∧ w.cell? ⟨sb, so + k, none⟩ = some (.string (BS s)))
    (Q : Ending → World → Prop) (hQ : ∀ v w', OB w' w.heap.size v (jk2 (qh0 cs ss.length).1 (qh0 cs ss.length).2) → Below w.heap.size w w' → Q (.returned (.tuple #[v, .int .i64 0, .int .i64 0])) w') :
    Calls Tryz.prog 13 #[.slice a ss.length cap] w Q := by
  have HQ := v6 hQ
  have HL := v6 hL
  have HSS := v6 hss
  have HTX := v6 htx
  have H80 := v6 h80
  have HW := v6 hw
  have HLEN := v6 hlen
  have NM := v6 (ve9 w)
  clear hQ hL hss htx h80 hw hlen
  obtain ⟨n, hn⟩ : ∃ n, ss.length = n := ⟨_, rfl⟩
  rw [hn] at HQ H80 HW HLEN h8 ⊢
  have HN := v6 hn
  clear hn
  have hd8 : decide ((n : Int) > 8) = false := decide_eq_false (by omega)
  go_enter Tryz.func13, Tryz.ntmps13
  go_wp2_with (go_at_call 37; refine (q9 NM).mono ?_; rintro e w1 ⟨rfl, hm1, hb1⟩; have M1 := v6 hm1; have B1 := v6 hb1; clear hm1 hb1)
  go_loopw [17] (fun i wr => ∃ (k : Nat) (tv rv : Value), k ≤ n ∧ i = .int .i64 k ∧ Hid (MkAt wr (w.heap.size + 1) w.heap.size (qh0 cs k).1 (qh0 cs k).2 tv rv) ∧ Hid (Below w.heap.size w wr)) (fun i _ => n - (intOf i).toNat)
  case atStart => exact ⟨0, _, _, Nat.zero_le _, rfl, M1, B1⟩
  case round =>
    obtain ⟨k, tv, rv, hk, rfl, MK, HB⟩ := hrel
    by_cases hlt : k < n
    · obtain ⟨s, hs⟩ : ∃ s, ss[k]? = some s := ⟨_, List.getElem?_eq_getElem (by have := q9 HN; omega)⟩
      obtain ⟨c, hc⟩ : ∃ c, cs[k]? = some c := ⟨_, List.getElem?_eq_getElem (by have := q9 HLEN; omega)⟩
      obtain ⟨sb, so, rfl, sblt, s0⟩ := q9 HSS k s hs
      obtain ⟨t, hrd, hcore, hin, hgood, hsize, hslen⟩ := q9 HTX k s c hs hc
      have hbz := (q9 HB).size
      have d0 : wr.cell? ⟨sb, so + k, none⟩ = some (.string (BS s)) := ((q9 HB).cell (p := ⟨sb, so + k, none⟩) sblt).trans s0
      have hk0 : (0 : Int) ≤ (k : Int) := by omega
      have hk1 : (k : Int) < (n : Int) := by omega
      have RD : Hid (Calls Tryz.prog 31 #[.string (BS s)] wr (qt2 wr (.ok t))) := v6 (hrd ▸ qr1 (BS s) wr ((q9 HL).below (q9 HB) (Nat.le_refl _)).err (by rw [qc0]; exact hslen))
      have CO : Hid (∀ (lo : Nat) (U : World) (v : Value), Below wr.heap.size wr U → IsNode lo U v t → Calls Tryz.prog 34 #[v] U (qv5 wr.heap.size U c)) := v6 fun lo U v hU hn => hcore ▸ vh5 lo t hin (vd4 hrd) wr.heap.size U v hU.size ((q9 HL).below (v7 (q9 HB) hU) (Nat.le_refl _)) hn
      have hS : Hid (qh0 cs (k + 1) = ((j9 (qh0 cs k).1 c).1, (qh0 cs k).2 ++ [(j9 (qh0 cs k).1 c).2])) := v6 (by rw [qh0, List.getD_eq_getElem?_getD, hc]; rfl)
      have hle := q9 H80 k hk
      have hrl := (qp5 cs k).1
      have AD : Hid (∀ (U : World) (v : Value), Below wr.heap.size wr U → CoAt wr.heap.size U.heap.size U v c → Calls Tryz.prog 38 #[.pointer (some ⟨w.heap.size + 1, 0, none⟩), v] U fun e w' => ∃ tv' rv', e = .returned (.tuple #[]) ∧ MkAt w' (w.heap.size + 1) w.heap.size (qh0 cs (k + 1)).1 (qh0 cs (k + 1)).2 tv' rv' ∧ Below w.heap.size w w') := v6 (by
        intro U v hU hcU
        have hmU := (q9 MK).below hU
        refine (add_ends c hgood wr.heap.size _ _ U v _ _ tv rv hmU hcU (fun j hj => .inl ((q9 MK).own_lt hj)) (by omega) (by omega)).mono ?_
        rintro e w' ⟨tv', rv', rfl, h1, h2⟩
        rw [q9 hS]
        exact ⟨tv', rv', rfl, h1, jj9 (v7 (q9 HB) hU) hmU h2 (Nat.le_refl _)⟩)
      have hle2 := q9 H80 (k + 1) (by omega)
      have hd80 : decide (((qh0 cs (k + 1)).1.length : Int) > 80) = false := decide_eq_false (by omega)
      obtain ⟨R, hR⟩ : ∃ R, qh0 cs (k + 1) = R := ⟨_, rfl⟩
      rw [hR] at AD hd80
      have HR := v6 hR
      clear hS hle hrl hle2 hR hs hc hrd hcore hin hgood hsize hslen
      go_wp2_with (first | (go_at_call 31; refine (q9 RD).mono ?_; rintro e w2 ⟨hb2, v2, rfl, hn2⟩; obtain ⟨vb, rfl⟩ := hn2.ptr; have N2 := v6 hn2; have B2 := v6 hb2; clear hn2 hb2) | (go_at_call 34; refine (q9 CO _ _ _ (q9 B2) (q9 N2)).mono ?_; rintro e w3 ⟨b3, rfl, hc3, hb3⟩; have C3 := v6 hc3; have B3 := v6 (v7 (q9 B2) hb3); clear hc3 hb3) | (go_at_call 38; refine (q9 AD _ _ (q9 B3) (q9 C3)).mono ?_; rintro e w4 ⟨tv4, rv4, rfl, hm4, hb4⟩; have M4 := v6 hm4; have B4 := v6 hb4; obtain ⟨a4, c4, rfl⟩ := hm4.ats.form; have e4 := hm4.c0; clear hm4 hb4) | (go_at_call 36; refine (vm4 _ 0 _ _ _ _ e4).mono ?_; rintro e w5 ⟨rfl, rfl⟩))
      exact ⟨⟨k + 1, _, _, by omega, rfl, by rw [q9 HR]; exact M4, B4⟩, by simp [intOf]; omega⟩
    · have : k = n := by omega
      subst this
      have hP := (q9 MK).prog
      have hroots := qp5 cs k
      have hle := q9 H80 k (Nat.le_refl _)
      have BY := v6 (jv3 (w.heap.size + 1) 0 _ _ wr hP (by omega) (by omega) (fun t ht => (q9 HW t ht).1) (fun t ht => (q9 HW t ht).2) (fun r hr => by have := hroots.2 r hr; omega) _ (fun e w' h => h))
      clear hP hroots hle
      go_wp2_with (go_at_call 39; refine (q9 BY).mono ?_; rintro e w2 ⟨v2, rfl, ho2, hb2⟩; have O2 := v6 ho2; have B2 := v6 hb2; obtain ⟨a2, c2, rfl⟩ := ho2.form; clear ho2 hb2)
      refine bodyPost_ret (by simp [results, Tryz.results13, go_sem] <;> rfl) rfl ?_
      exact q9 HQ _ _ (by
        have h := q9 O2
        refine ⟨h.1, ?_⟩
        rcases h.2 with hn | ⟨g, cap, cur, hv, hbg, rest⟩
        · exact .inl hn
        · exact .inr ⟨g, cap, cur, hv, Nat.le_trans (q9 HB).size hbg, rest⟩) ((q9 HB).trans ((q9 B2).mono (q9 HB).size))
end
section
attribute [local go_sem ↓] qc8
theorem SubsAt.form {w : World} {lo : Nat} {v : Value} {l : List Sb} (h : SubsAt w lo v l) : ∃ a c, v = .slice a l.length c := by
  obtain ⟨a, c, hv, _⟩ := h
  exact ⟨a, c, hv⟩
set_option maxHeartbeats 400000 in
theorem va1 (bb : Nat) (l : List Sb) (id : Int) (v : Value) (w : World) (hc : w.cell? ⟨bb, 1, none⟩ = some v) (h : SubsAt w w.heap.size v l) (hup : qn1 l) (hn : l.length ≤ 8) :
    Calls Tryz.prog 30 #[.pointer (some ⟨bb, 0, none⟩), .int .i64 id] w fun e w' => e = .returned (.tuple #[.int .i64 (qb7 l id), .bool (l.any fun s => s.id == id)]) ∧ Below w.heap.size w w' := by
  have BS := v6 (jd0 l id v w h hup hn)
  obtain ⟨a, c, rfl⟩ := h.form
  obtain ⟨F, hF⟩ : ∃ F, (l.any fun s => s.id == id) = F := ⟨_, rfl⟩
  obtain ⟨P, hP⟩ : ∃ P, qb7 l id = P := ⟨_, rfl⟩
  rw [hF, hP] at BS ⊢
  clear hF hP h
  go_enter Tryz.func30, Tryz.ntmps30
  go_wp2_with (go_at_call 51; refine (q9 BS).mono ?_; rintro e w1 ⟨rfl, hb1⟩; have B1 := v6 hb1; clear hb1)
  go_ret2
  exact ⟨rfl, q9 B1⟩
set_option maxHeartbeats 400000 in
theorem new_any (w : World) : Calls Tryz.prog 10 #[] w fun e w' => e = .returned (.pointer (some ⟨w.heap.size, 0, none⟩)) ∧ w' = w.alloc (.cells #[.int .i64 0, .slice none 0 0, .slice none 0 0, .slice none 0 0] 67) := by
  go_enter Tryz.func10, Tryz.ntmps10
  go_wp2_with fail
  go_ret
  exact ⟨rfl, rfl⟩
end
end Go.Proofs.YtfkcaldjphakpabGreatDoor
