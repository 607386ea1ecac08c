/- Served of any list of numbers. A list of numbers as an argument of a law. -/
import Derived.Test.YtfkcaldjphakpabGreatDoorM29
import Derived.Test.YtfkcaldjphakpabGreatDoorM31
namespace Go.Proofs.YtfkcaldjphakpabGreatDoor
open Go.RowKit

section
attribute [local go_sem ↓] app_fold

set_option maxHeartbeats 8000000 in
set_option maxRecDepth 100000 in
theorem served_all (zs : List Int) (v : Value) (w : World) (h : IntsAt w v zs) (hL : LibOk w) : Calls Tryz.prog 5 #[v] w fun e w' => e = .returned (.bool true) ∧ Below w.heap.size w w' := by
  obtain ⟨a, cap, rfl, hbig, hx⟩ := h
  have HX := hide hx
  obtain ⟨n, hn⟩ : ∃ n, zs.length = n := ⟨_, rfl⟩
  rw [hn] at hbig ⊢
  have HN := hide hn
  clear hx hn
  have NEW : Hid (Calls Tryz.prog 10 #[] w fun e w' => e = .returned (.pointer (some ⟨w.heap.size, 0, none⟩)) ∧ Hid (SvAt w w' w.heap.size 0 [] (.slice none 0 0) (.slice none 0 0) [] [])) := hide ((new_any w).mono (by rintro e w' ⟨rfl, rfl⟩; exact ⟨rfl, hide (br_new w)⟩))
  have SUB7 : Hid (∀ U, SvAt w U w.heap.size 0 [] (.slice none 0 0) (.slice none 0 0) [] [] → Calls Tryz.prog 12 #[.pointer (some ⟨w.heap.size, 0, none⟩), .int .i64 7, .string ⟨#[84, 82, 85, 69]⟩] U fun e w' => e = .returned (.tuple #[.int .i64 0, .int .i64 0]) ∧ Hid (SvAt w w' w.heap.size 0 [s7 []] (.slice none 0 0) (.slice none 0 0) [] [])) := hide fun U hU => (sv_sub7 hL hU).mono (by rintro e w' ⟨rfl, h⟩; exact ⟨rfl, hide h⟩)
  have SUB9 : Hid (∀ U, SvAt w U w.heap.size 0 [s7 []] (.slice none 0 0) (.slice none 0 0) [] [] → Calls Tryz.prog 12 #[.pointer (some ⟨w.heap.size, 0, none⟩), .int .i64 9, .string ⟨#[70, 65, 76, 83, 69]⟩] U fun e w' => e = .returned (.tuple #[.int .i64 0, .int .i64 0]) ∧ Hid (SvM w w' 0 [] (.slice none 0 0) (.slice none 0 0) [])) := hide fun U hU => (sv_sub9 hL hU).mono (by rintro e w' ⟨rfl, h⟩; exact ⟨rfl, hide h⟩)
  have PUBR : Hid (∀ U last ms wv hv M pri, 0 ≤ pri → pri ≤ 9 → 0 ≤ last ∧ last < 4611686018427387904 → ms.length ≠ 6 → SvM w U last ms wv hv M → Calls Tryz.prog 15 #[.pointer (some ⟨w.heap.size, 0, none⟩), .int .i64 pri, .slice none 0 0] U fun e w' => ∃ g c fa fc, e = .returned (.tuple #[.slice (some ⟨g, 0, none⟩) 1 c, .slice fa 0 fc, .int .i64 0]) ∧ w'.cell? ⟨g, 0, none⟩ = some (.int .i64 7) ∧ Hid (SvM w w' (last + 1) (pushL ms ⟨pri, last + 1⟩) wv hv M)) := hide fun U last ms wv hv M pri h0 h9 hl hm hU => (sv_pubR h0 h9 hl hm hU).mono (by rintro e w' ⟨g, c, fa, fc, rfl, h1, h2⟩; exact ⟨g, c, fa, fc, rfl, h1, hide h2⟩)
  have PUBF : Hid (∀ U last ms wv hv M pri, 0 ≤ pri → pri ≤ 9 → 0 ≤ last ∧ last < 4611686018427387904 → ms.length = 6 → SvM w U last ms wv hv M → Calls Tryz.prog 15 #[.pointer (some ⟨w.heap.size, 0, none⟩), .int .i64 pri, .slice none 0 0] U fun e w' => ∃ g c f fc, e = .returned (.tuple #[.slice (some ⟨g, 0, none⟩) 1 c, .slice (some ⟨f, 0, none⟩) 1 fc, .int .i64 0]) ∧ w'.cell? ⟨g, 0, none⟩ = some (.int .i64 7) ∧ w'.cell? ⟨f, 0, none⟩ = some (.int .i64 7) ∧ Hid (SvM w w' (last + 1) ms wv hv M)) := hide fun U last ms wv hv M pri h0 h9 hl hm hU => (sv_pubF h0 h9 hl hm hU).mono (by rintro e w' ⟨g, c, f, fc, rfl, h1, h2, h3⟩; exact ⟨g, c, f, fc, rfl, h1, h2, hide h3⟩)
  have POLL : Hid (∀ U last ms wv hv M, SvM w U last ms wv hv M → Calls Tryz.prog 22 #[.pointer (some ⟨w.heap.size, 0, none⟩), .int .i64 7] U fun e w' => e = .returned (.tuple #[.int .i64 (headN ms), .int .i64 0]) ∧ Hid (SvM w w' last (popM ms) wv hv M)) := hide fun U last ms wv hv M hU => (sv_poll7 hU).mono (by rintro e w' ⟨rfl, h⟩; exact ⟨rfl, hide h⟩)
  have POLL9 : Hid (∀ U last ms wv hv M, SvM w U last ms wv hv M → Calls Tryz.prog 22 #[.pointer (some ⟨w.heap.size, 0, none⟩), .int .i64 9] U fun e w' => e = .returned (.tuple #[.int .i64 0, .int .i64 0]) ∧ Hid (SvM w w' last ms wv hv M)) := hide fun U last ms wv hv M hU => (sv_poll9 hU).mono (by rintro e w' ⟨rfl, h⟩; exact ⟨rfl, hide h⟩)
  have UNS : Hid (∀ U last ms wv hv ws ns, SvAt w U w.heap.size last (L2 ms) wv hv ws ns → Calls Tryz.prog 19 #[.pointer (some ⟨w.heap.size, 0, none⟩), .int .i64 7] U fun e w' => e = .returned (.int .i64 0) ∧ Hid (SvAt w w' w.heap.size last [s9] wv hv ws ns)) := hide fun U last ms wv hv ws ns hU => (sv_unsub7 hU).mono (by rintro e w' ⟨rfl, h⟩; exact ⟨rfl, hide h⟩)
  have PNO : Hid (∀ U last wv hv ws ns, SvAt w U w.heap.size last [s9] wv hv ws ns → Calls Tryz.prog 22 #[.pointer (some ⟨w.heap.size, 0, none⟩), .int .i64 7] U fun e w' => e = .returned (.tuple #[.int .i64 0, .int .i64 5]) ∧ Hid (SvAt w w' w.heap.size last [s9] wv hv ws ns)) := hide fun U last wv hv ws ns hU => (sv_pollNo hU).mono (by rintro e w' ⟨rfl, h⟩; exact ⟨rfl, hide h⟩)
  have SUBE : Hid (∀ U last wv hv ws ns, SvAt w U w.heap.size last [s9] wv hv ws ns → Calls Tryz.prog 12 #[.pointer (some ⟨w.heap.size, 0, none⟩), .int .i64 7, .string ⟨#[84, 82, 85, 69]⟩] U fun e w' => e = .returned (.tuple #[.int .i64 0, .int .i64 0]) ∧ Hid (SvAt w w' w.heap.size last (L2 []) wv hv ws ns)) := hide fun U last wv hv ws ns hU => (sv_sub7' hL hU).mono (by rintro e w' ⟨rfl, h⟩; exact ⟨rfl, hide h⟩)
  have POLLE : Hid (∀ U last wv hv ws ns, SvAt w U w.heap.size last (L2 []) wv hv ws ns → Calls Tryz.prog 22 #[.pointer (some ⟨w.heap.size, 0, none⟩), .int .i64 7] U fun e w' => e = .returned (.tuple #[.int .i64 0, .int .i64 0]) ∧ Hid (SvAt w w' w.heap.size last (L2 []) wv hv ws ns)) := hide fun U last wv hv ws ns hU => (sv_poll7 hU).mono (by rintro e w' ⟨rfl, h⟩; exact ⟨rfl, hide h⟩)
  clear hL
  go_enter Tryz.func5, Tryz.ntmps5
  go_wp2_with (first | (go_at_call 10; refine (unhide NEW).mono ?_; rintro e w1 ⟨rfl, S1⟩) | (go_at_call 12; refine (unhide SUB7 _ (unhide S1)).mono ?_; clear SUB7; rintro e w2 ⟨rfl, S2⟩) | (go_at_call 12; refine (unhide SUB9 _ (unhide S2)).mono ?_; clear SUB9; rintro e w3 ⟨rfl, S3⟩))
  clear NEW S1 S2
  go_loopw [8, 9, 10] (fun wv hv i wr => ∃ (k : Nat) (ms : List Mg), k ≤ n ∧ i = .int .i64 k ∧ Hid (SvM w wr k ms wv hv (firstM (prio zs) (min k 6))) ∧ Hid (HeapL ms ∧ ms.Perm (firstM (prio zs) (min k 6)))) (fun _ _ i _ => n - (intOf i).toNat)
  case atStart => exact ⟨0, [], Nat.zero_le _, rfl, S3, hide ⟨HeapL.nil, List.Perm.refl _⟩⟩
  case round =>
    obtain ⟨k, ms, hk, rfl, SV, HP⟩ := hrel
    by_cases hlt : k < n
    · obtain ⟨x, hxk⟩ : ∃ x, zs[k]? = some x := ⟨_, List.getElem?_eq_getElem (by have := unhide HN; omega)⟩
      obtain ⟨hrx, b, off, rfl, hb, hc⟩ := unhide HX k x hxk
      have d0 : wr.cell? ⟨b, off + k, none⟩ = some (.int .i64 x) := ((SvAt.wsAt (unhide SV)).2.2.cell (p := ⟨b, off + k, none⟩) hb).trans hc
      have hp : prio zs k = pickZ x 10 := by unfold prio; rw [List.getD_eq_getElem?_getD, hxk]; rfl
      have PK : Hid (Calls Tryz.prog 21 #[.int .i64 x, .int .i64 10] wr fun e w' => e = .returned (.int .i64 (prio zs k)) ∧ w' = wr) := hide (by rw [hp]; exact pick_any x 10 hrx (by decide) wr)
      obtain ⟨p, hpe⟩ : ∃ p, prio zs k = p := ⟨_, rfl⟩
      have hpi := prio_in zs k
      rw [hpe] at PK hpi
      have hk0 : (0 : Int) ≤ (k : Int) := by omega
      have hk1 : (k : Int) < (n : Int) := by omega
      have hk2 : (k : Int) < 4611686018427387904 := by omega
      have hml : ms.length = min k 6 := by rw [(unhide HP).2.length_eq, firstM_length]
      obtain ⟨wa, wc, ha, hc', e1, e2⟩ := (unhide SV).form
      rw [firstM_length] at e1 e2
      subst e1 e2
      clear hb hc hrx hxk hp
      by_cases h6 : k < 6
      · have hmin : min k 6 = k := by omega
        have hmin' : min (k + 1) 6 = k + 1 := by omega
        rw [hmin] at SV HP hml ⊢
        have PUB : Hid _ := hide (unhide PUBR wr k ms _ _ _ p hpi.1 hpi.2 ⟨hk0, hk2⟩ (by omega) (unhide SV))
        have APP : Hid (∀ U ms', SvM w U (k + 1) ms' (.slice wa k wc) (.slice ha k hc') (firstM (prio zs) k) → ∃ g c w6 g' c' w7, (appSem #[29, 29] 29 #[.slice wa k wc, .slice (some ⟨U.heap.size, 0, none⟩) 1 1]).run Tryz.prog (U.alloc (.cells #[.int .i64 p] 3)) = .ok (.slice (some ⟨g, 0, none⟩) (k + 1) c) w6 ∧ (appSem #[29, 29] 29 #[.slice ha k hc', .slice (some ⟨w6.heap.size, 0, none⟩) 1 1]).run Tryz.prog (w6.alloc (.cells #[.int .i64 ((k : Int) + 1)] 3)) = .ok (.slice (some ⟨g', 0, none⟩) (k + 1) c') w7 ∧ Hid (SvM w w7 (k + 1) ms' (.slice (some ⟨g, 0, none⟩) (k + 1) c) (.slice (some ⟨g', 0, none⟩) (k + 1) c') (firstM (prio zs) (k + 1)))) := hide (by
          intro U ms' hU
          obtain ⟨g, c, w6, g', c', w7, r1, r2, s⟩ := hU.app (by rw [firstM_length]; omega) ⟨p, (k : Int) + 1⟩
          rw [firstM_length] at r1 r2 s
          refine ⟨g, c, w6, g', c', w7, r1, r2, ?_⟩
          rw [firstM_succ, hpe]
          exact s)
        have HP' : Hid (HeapL (pushL ms ⟨p, (k : Int) + 1⟩) ∧ (pushL ms ⟨p, (k : Int) + 1⟩).Perm (firstM (prio zs) (k + 1))) := hide (by
          obtain ⟨q1, q2⟩ := push_heap (unhide HP).1 ⟨p, (k : Int) + 1⟩
          refine ⟨q1, q2.trans ?_⟩
          rw [firstM_succ, hpe]
          exact ((unhide HP).2.cons _).trans (List.perm_append_singleton _ _).symm)
        have hd6 : decide ((k : Int) < 6) = true := decide_eq_true (by omega)
        have hd6' : decide ((k : Int) ≥ 6) = false := decide_eq_false (by omega)
        have hd6'' : decide (6 ≤ (k : Int)) = false := decide_eq_false (by omega)
        clear hpi hml hmin hpe SV HP
        go_wp2_with (first | (go_at_call 21; refine (unhide PK).mono ?_; rintro e w4 ⟨rfl, rfl⟩) | (go_at_call 15; refine (unhide PUB).mono ?_; rintro e w5 ⟨g5, c5, fa5, fc5, rfl, e5, S5⟩; obtain ⟨g6, c6, w6, g7, c7, w7, r6, r7, S7⟩ := unhide APP _ _ (unhide S5)))
        refine ⟨⟨k + 1, pushL ms ⟨p, (k : Int) + 1⟩, by omega, rfl, ?_, ?_⟩, by simp [intOf]; omega⟩
        · rw [hmin']; exact S7
        · rw [hmin']; exact HP'
      · have hmin : min k 6 = 6 := by omega
        have hmin' : min (k + 1) 6 = 6 := by omega
        rw [hmin] at SV HP hml ⊢
        have PUB : Hid _ := hide (unhide PUBF wr k ms _ _ _ p hpi.1 hpi.2 ⟨hk0, hk2⟩ hml (unhide SV))
        have hd6' : decide ((k : Int) ≥ 6) = true := decide_eq_true (by omega)
        have hd6'' : decide (6 ≤ (k : Int)) = true := decide_eq_true (by omega)
        clear hpi hml hmin hpe SV
        go_wp2_with (first | (go_at_call 21; refine (unhide PK).mono ?_; rintro e w4 ⟨rfl, rfl⟩) | (go_at_call 15; refine (unhide PUB).mono ?_; rintro e w5 ⟨g5, c5, f5, fc5, rfl, e5, e6, S5⟩))
        refine ⟨⟨k + 1, ms, by omega, rfl, ?_, ?_⟩, by simp [intOf]; omega⟩
        · rw [hmin']; exact S5
        · rw [hmin']; exact HP
    · have hkn : k = n := by omega
      subst hkn
      obtain ⟨K, hK⟩ : ∃ K, min k 6 = K := ⟨_, rfl⟩
      rw [hK] at SV HP
      have hK6 : K ≤ 6 := by omega
      obtain ⟨M, hM⟩ : ∃ M, firstM (prio zs) K = M := ⟨_, rfl⟩
      have HMI : Hid (∀ m ∈ M, 0 ≤ m.pri ∧ m.pri ≤ 9) := hide (by rw [← hM]; exact first_in)
      have hMl : M.length = K := by rw [← hM, firstM_length]
      have HB : Hid (∀ (q : Int) (j : Nat) (x : Mg), M[j]? = some x → x.pri = q → ∀ a ∈ remM M q (j + 1), bef x a = true) := hide (by rw [← hM]; exact fun q j x h1 h2 => remM_bef h1 h2)
      rw [hM] at SV HP
      obtain ⟨wa, wc, ha, hc', e1, e2⟩ := (unhide SV).form
      rw [hMl] at e1 e2
      subst e1 e2
      have HML := hide hMl
      have HP0 : Hid (HeapL ms ∧ ms.Perm (remM M (9 - ((0 : Nat) : Int)) 0)) := hide ⟨(unhide HP).1, (unhide HP).2.trans (remM_start fun m hm => (unhide HMI m hm).2)⟩
      clear hM hMl HP PUBF hK hlt hk
      go_wp2_with fail
      go_loopw [15] (fun p wr => ∃ (q : Nat) (ms : List Mg), q ≤ 10 ∧ p = .int .i64 (9 - (q : Int)) ∧ Hid (SvM w wr k ms (.slice wa K wc) (.slice ha K hc') M) ∧ Hid (HeapL ms ∧ ms.Perm (remM M (9 - (q : Int)) 0))) (fun p _ => (intOf p + 1).toNat)
      case atStart => exact ⟨0, ms, by omega, rfl, SV, HP0⟩
      case round =>
        clear SV HP0
        obtain ⟨q, ms, hq, rfl, SV, HP⟩ := hrel
        by_cases hq10 : q < 10
        · have hdq : decide (9 - (q : Int) ≥ 0) = true := decide_eq_true (by omega)
          have hdq' : decide (0 ≤ 9 - (q : Int)) = true := decide_eq_true (by omega)
          obtain ⟨P, hP⟩ : ∃ P, 9 - (q : Int) = P := ⟨_, rfl⟩
          rw [hP] at HP hdq hdq' ⊢
          go_wp2_with fail
          go_loopw [16] (fun i wr => ∃ (j : Nat) (ms : List Mg), j ≤ K ∧ i = .int .i64 j ∧ Hid (SvM w wr k ms (.slice wa K wc) (.slice ha K hc') M) ∧ Hid (HeapL ms ∧ ms.Perm (remM M P j))) (fun i _ => K - (intOf i).toNat)
          case atStart => exact ⟨0, ms, by omega, rfl, SV, HP⟩
          case round =>
            clear SV HP
            obtain ⟨j, ms, hj, rfl, SV, HP⟩ := hrel
            by_cases hjK : j < K
            · obtain ⟨x, hx⟩ : ∃ x, M[j]? = some x := ⟨_, List.getElem?_eq_getElem (by have := unhide HML; omega)⟩
              obtain ⟨g, c, g', c', e1, e2, d1, d2⟩ := (unhide SV).at_ hx
              rw [unhide HML] at e1 e2
              simp at e1 e2
              obtain ⟨rfl, rfl⟩ := e1
              obtain ⟨rfl, rfl⟩ := e2
              have hj0 : (0 : Int) ≤ (j : Int) := by omega
              have hj1 : (j : Int) < (K : Int) := by omega
              by_cases hxp : x.pri = P
              · have hPF := pop_first (unhide HP).1 ((remM_take hx hxp) ▸ (unhide HP).2) (unhide HB P j x hx hxp)
                have hnum : headN ms = x.num := by unfold headN; rw [hPF.1]; rfl
                have HP2 : Hid (HeapL (popM ms) ∧ (popM ms).Perm (remM M P (j + 1))) := hide hPF.2
                have PO : Hid (Calls Tryz.prog 22 #[.pointer (some ⟨w.heap.size, 0, none⟩), .int .i64 7] wr fun e w' => e = .returned (.tuple #[.int .i64 x.num, .int .i64 0]) ∧ w'.cell? ⟨g', j, none⟩ = some (.int .i64 x.num) ∧ Hid (SvM w w' k (popM ms) (.slice (some ⟨g, 0, none⟩) K wc) (.slice (some ⟨g', 0, none⟩) K hc') M)) := hide ((unhide POLL wr k ms _ _ M (unhide SV)).mono (by
                  rintro e w' ⟨rfl, S⟩
                  obtain ⟨g2, c2, g3, c3, e1, e2, d1, d2⟩ := (unhide S).at_ hx
                  simp at e1 e2
                  rw [hnum]
                  refine ⟨rfl, ?_, S⟩
                  rw [e2.1]
                  exact d2))
                subst hxp
                clear hPF hnum HP SV d2
                go_wp2_with (go_at_call 22; refine (unhide PO).mono ?_; rintro e w5 ⟨rfl, d5, S5⟩)
                exact ⟨⟨j + 1, _, by omega, rfl, S5, HP2⟩, by simp [intOf]; omega⟩
              · have hdx : decide (x.pri = P) = false := decide_eq_false hxp
                have HP2 : Hid (HeapL ms ∧ ms.Perm (remM M P (j + 1))) := hide (by rw [← remM_skip hx hxp]; exact unhide HP)
                clear HP d2
                go_wp2_with fail
                exact ⟨⟨j + 1, ms, by omega, rfl, SV, HP2⟩, by simp [intOf]; omega⟩
            · have hjK' : j = K := by omega
              subst hjK'
              have hwr : IntKind.i64.wrap (P - 1) = P - 1 := by rw [IntKind.wrap_i64]; omega
              have HP2 : Hid (HeapL ms ∧ ms.Perm (remM M (P - 1) 0)) := hide ⟨(unhide HP).1, (unhide HP).2.trans (remM_end (by have := unhide HML; omega))⟩
              have hPq : P - 1 = 9 - ((q + 1 : Nat) : Int) := by omega
              go_wp2_with fail
              exact ⟨⟨q + 1, ms, by omega, rfl, SV, by rw [← hPq]; exact HP2⟩, by simp [intOf]; omega⟩
        · have hq' : q = 10 := by omega
          subst hq'
          have hms : ms = [] := by
            have := (unhide HP).2
            rw [show (9 - ((10 : Nat) : Int)) = -1 by decide, remM_none (fun m hm => (unhide HMI m hm).1)] at this
            exact this.eq_nil
          subst hms
          have PUB1 : Hid _ := hide fun U hU => unhide PUBR U k [] (.slice wa K wc) (.slice ha K hc') M 1 (by decide) (by decide) ⟨by omega, by omega⟩ (by decide) hU
          have POLL1 : Hid _ := hide fun U hU => unhide POLL U k [] (.slice wa K wc) (.slice ha K hc') M hU
          have hd1 : decide ((9 : Int) - ((10 : Nat) : Int) ≥ 0) = false := by decide
          clear POLL PUBR HP
          go_wp2_with (first | (go_at_call 22; refine (unhide POLL1 _ (unhide SV)).mono ?_; clear POLL1; rintro e w5 ⟨rfl, S5⟩) | (go_at_call 22; refine (unhide POLL9 _ _ _ _ _ _ (unhide S5)).mono ?_; clear POLL9; rintro e w6 ⟨rfl, S6⟩) | (go_at_call 15; refine (unhide PUB1 _ (unhide S6)).mono ?_; rintro e w7 ⟨g7, c7, fa7, fc7, rfl, d7, S7⟩) | (go_at_call 19; refine (unhide UNS _ _ _ _ _ _ _ (unhide S7)).mono ?_; rintro e w8 ⟨rfl, S8⟩) | (go_at_call 22; refine (unhide PNO _ _ _ _ _ _ (unhide S8)).mono ?_; clear PNO; rintro e w9 ⟨rfl, S9⟩) | (go_at_call 12; refine (unhide SUBE _ _ _ _ _ _ (unhide S9)).mono ?_; rintro e w10 ⟨rfl, S10⟩) | (go_at_call 22; refine (unhide POLLE _ _ _ _ _ _ (unhide S10)).mono ?_; rintro e w11 ⟨rfl, S11⟩))
          go_ret
          exact ⟨rfl, (SvAt.wsAt (unhide S11)).2.2⟩
end

section
open Go.ChangeShapes Go.WideShapes Go.ChangeAt Go.RowKit Go.Deep

theorem bytesInt : Tryz.prog.bytesOf 3 = 8 := by kernel_rfl

section
variable {H : Type} {enc : TypeId × Value → H}

set_option maxRecDepth 100000 in
/-- A list of numbers, opened. -/
theorem open_ints {W : World} {base : Nat} {v : Value} {d : DataW H} {pl : List MemPlace} (hval : Value.okWide Tryz.prog W .any base 29 v) (h : DataW.Trod enc Tryz.prog W 0 (fun _ => true) true 29 v d pl)
    (hw : ∀ n ∈ d.weights Tryz.prog 29, n ≤ reachBytes) : ∃ zs, IntsAt W v zs := by
  obtain ⟨fuel, ht⟩ := h
  obtain ⟨a0, len0, cap0, rfl⟩ := okWide_slice Tryz.underlying29 hval
  rcases open_slice Tryz.underlying29 ht with ⟨hc, hx⟩ | ⟨a, len, cap, m, n, D, Pl, hc, _, hl, hm, hmm, hx, hall⟩
  · simp [Value.cells] at hc
    obtain ⟨rfl, rfl, rfl⟩ := hc
    exact ⟨[], none, 0, rfl, Nat.zero_le _, fun i x hi => by simp at hi⟩
  · simp [Value.cells] at hc
    obtain ⟨rfl, rfl, rfl⟩ := hc
    simp only [if_true] at hmm
    subst hmm
    simp only [Prod.mk.injEq] at hx
    obtain ⟨rfl, rfl⟩ := hx
    rw [cellsInt] at hall
    have each : ∀ i, i < len0 → ∃ x : Int, Rng x ∧ W.cell? (a.add i) = some (.int .i64 x) := by
      intro i hi
      obtain ⟨cs', h1, h2⟩ := hall i (by omega)
      obtain ⟨k, h3, _, wk⟩ := DataW.trod_int Tryz.underlying3 h2
      subst h3
      obtain ⟨_, _, hcell⟩ := World.cells?_some h1
      have c0 := hcell 0 (by decide)
      rw [add_add, Nat.mul_one, Nat.add_zero] at c0
      exact ⟨k, wf_rng wk, c0⟩
    have inh : Inhabited Int := ⟨0⟩
    obtain ⟨f, hf⟩ := choose_lt each
    have hlen : ((List.range len0).map f).length = len0 := by rw [List.length_map, List.length_range]
    have hget : ∀ (k : Nat) (p : Int), ((List.range len0).map f)[k]? = some p → k < len0 ∧ p = f k := by
      intro k p hk
      rw [List.getElem?_map] at hk
      cases hr : (List.range len0)[k]? with
      | none => rw [hr] at hk; cases hk
      | some j =>
        rw [hr] at hk
        obtain ⟨h1, h2⟩ := List.getElem?_eq_some_iff.1 hr
        rw [List.length_range] at h1
        rw [List.getElem_range] at h2
        subst h2
        exact ⟨h1, by simpa using hk.symm⟩
    have hwt := hw
    rw [DataW.weights, Tryz.underlying29] at hwt
    simp only [List.mem_cons, List.mem_append] at hwt
    refine ⟨(List.range len0).map f, some a, _, by rw [hlen], ?_, fun i x hi => ?_⟩
    · have := hwt _ (.inl rfl)
      rw [bytesInt, List.length_map, List.length_range] at this
      rw [hlen]
      unfold reachBytes at this
      omega
    · obtain ⟨h1, rfl⟩ := hget i x hi
      obtain ⟨hr, hc⟩ := hf i h1
      obtain ⟨b, off, spot⟩ := a
      have hs : spot = none := by
        have := World.cell?_spot (hf 0 (by omega)).2
        simpa [Addr.add] using this
      subst hs
      have hadd : (⟨b, off, none⟩ : Addr).add i = ⟨b, off + i, none⟩ := by simp [Addr.add]
      rw [hadd] at hc
      exact ⟨hr, b, off, rfl, block_lt_of_cell hc, hc⟩
end
end

end Go.Proofs.YtfkcaldjphakpabGreatDoor
