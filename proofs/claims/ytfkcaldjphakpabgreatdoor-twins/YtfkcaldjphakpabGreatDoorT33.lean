/- strconv.ErrRange lies where the rows say. digits. Op.Join: operator 19. Op.Join: operator none. A block that is left at its end. The world behind x, y = Int(0), x. Contracts of package events: validName, validValue. The contract of events.Valid. The contract of events.Valid of lists that are no event. Texts in a slice: Values, AppendSeq, Collect. -/
import Derived.Test.YtfkcaldjphakpabGreatDoorT00
import Derived.Test.YtfkcaldjphakpabGreatDoorRows
import Derived.LaidLaws
import Derived.Lib.LaidU8
import Derived.MakeChecks
import Derived.Test.YtfkcaldjphakpabGreatDoorT02
import Derived.Laws.IdiomStrings
import Derived.Laws.Concat
import Derived.Test.YtfkcaldjphakpabGreatDoorT09
import Derived.Deep.RegionWith
import Derived.Test.YtfkcaldjphakpabGreatDoorT10
import Derived.RegionTactic
import Derived.Deep.RegionHeld3
import Derived.RangeFuncBox
import Derived.RangeFuncLeaves
import Derived.Shelf.Abstract
import Derived.WalkKit
import Derived.OwnWalkIn
import Derived.TacticsInMore
import Derived.LoopNIn
import Derived.LoopIn
import Derived.Maps.AppendAt
import Derived.Test.YtfkcaldjphakpabGreatDoorT03
namespace Go.Proofs.YtfkcaldjphakpabGreatDoor
open Go.RowKit
section
theorem jm1 : Tryz.prog.globalNamed "strconv.ErrRange" = some 3 := by kernel_rfl
theorem vy3 : (Tryz.prog.globals[3]?).map (·.type) = some 278 := by kernel_rfl
theorem err_of {W : World} {l : List (String × DataW Unit)} (hm : ("strconv.ErrRange", Rows.laid_strconv_ErrRange) ∈ l) (h : laidMet Tryz.prog l W) : ErrOk W := by
  obtain ⟨g, t, cs, fuel, p, h1, h2, h3, h4⟩ := Lib.laidMet.reads h hm
  obtain rfl : 3 = g := Option.some.inj (jm1.symm.trans h1)
  obtain rfl : 278 = t := Option.some.inj (vy3.symm.trans h2)
  obtain ⟨f1, u, v, hcs, _, _⟩ := iface_of_trod Tryz.underlying278 h4
  unfold World.var? at h3
  rw [jm1] at h3
  simp only [Option.bind_some] at h3
  split at h3
  · rename_i c ty fz hh
    injection h3 with h3
    subst h3
    refine ⟨(Array.getElem?_eq_some_iff.1 hh).1, .iface u v, ?_, .inr ⟨u, v, rfl⟩⟩
    have h0 : c[0]? = some (.iface u v) := by
      rw [← Array.getElem?_toList, hcs]; rfl
    rw [World.cell?]
    simp [hh, h0]
  · cases h3
end
section
def dig (n : Nat) : UInt8 := UInt8.ofNat (48 + n % 10)
theorem qj7 (a b : List UInt8) : BS a ++ BS b = BS (a ++ b) := by
  apply ByteArray.ext
  show (BS a ++ BS b).data = _
  rw [ByteArray.data_append]
  simp [BS]
end
section
set_option maxHeartbeats 1000000 in
set_option maxRecDepth 100000 in
theorem join_19 (x y : V) (hx : Rng x.num) : qj2 19 x y (divV x y) := by
  intro w
  have CON := v6 (fun w => jj4 x y hx w)
  conv => arg 3; simp only [vV]
  go_enter Tryz.func106, Tryz.ntmps106
  repeat ((fail_if_success (with_reducible refine wp_exit ?_)); go_step)
  with_reducible refine wp_exit ?_
  repeat (first | (with_reducible refine qd7 ?_) | (with_reducible refine qa2 ?_) | ((with_reducible refine y5 ?hne ?_); (case hne => rfl)))
  with_reducible refine qa3 ?_
  go_wp2_with (go_at_call 157; refine (q9 CON _).mono ?_; rintro e w1 ⟨rfl, hb1⟩; obtain ⟨hc1, hf1⟩ := j5 hb1; have hz1 : w.heap.size + 2 < w1.heap.size := (by have := hb1.size; simp at this; omega); simp only [vV])
  refine bodyPost_ret (by simp [results, Tryz.results106, go_sem, hc1] <;> rfl) rfl ⟨rfl, ?_⟩
  exact ((((v7 (qb2 _ _ _ _) hb1).setCell (by simp; omega) _).setCell (by simp; omega) _).setCell (by simp; omega) _)
end
section
set_option maxHeartbeats 1000000 in
set_option maxRecDepth 100000 in
theorem join_none (op : Int) (x y : V) (h5 : ¬ op = 5) (h6 : ¬ op = 6) (h7 : ¬ op = 7) (h8 : ¬ op = 8) (h9 : ¬ op = 9) (h12 : ¬ op = 12) (h10 : ¬ op = 10) (h13 : ¬ op = 13) (h11 : ¬ op = 11) (h14 : ¬ op = 14) (h16 : ¬ op = 16) (h15 : ¬ op = 15) (h17 : ¬ op = 17) (h18 : ¬ op = 18) (h19 : ¬ op = 19) : qj2 op x y (bV (x.kind == 0)) := by
  intro w
  have CON := v6 (fun w => jj5 x w)
  have e5 : (op == 5) = false := beq_eq_false_iff_ne.2 h5
  have e6 : (op == 6) = false := beq_eq_false_iff_ne.2 h6
  have e7 : (op == 7) = false := beq_eq_false_iff_ne.2 h7
  have e8 : (op == 8) = false := beq_eq_false_iff_ne.2 h8
  have e9 : (op == 9) = false := beq_eq_false_iff_ne.2 h9
  have e12 : (op == 12) = false := beq_eq_false_iff_ne.2 h12
  have e10 : (op == 10) = false := beq_eq_false_iff_ne.2 h10
  have e13 : (op == 13) = false := beq_eq_false_iff_ne.2 h13
  have e11 : (op == 11) = false := beq_eq_false_iff_ne.2 h11
  have e14 : (op == 14) = false := beq_eq_false_iff_ne.2 h14
  have e16 : (op == 16) = false := beq_eq_false_iff_ne.2 h16
  have e15 : (op == 15) = false := beq_eq_false_iff_ne.2 h15
  have e17 : (op == 17) = false := beq_eq_false_iff_ne.2 h17
  have e18 : (op == 18) = false := beq_eq_false_iff_ne.2 h18
  have e19 : (op == 19) = false := beq_eq_false_iff_ne.2 h19
  clear h5 h6 h7 h8 h9 h12 h10 h13 h11 h14 h16 h15 h17 h18 h19
  obtain ⟨r, hr⟩ : ∃ r, bV (x.kind == 0) = r := ⟨_, rfl⟩
  rw [hr] at CON ⊢
  clear hr
  conv => arg 3; simp only [vV]
  go_enter Tryz.func106, Tryz.ntmps106
  repeat ((fail_if_success (with_reducible refine wp_exit ?_)); go_step)
  with_reducible refine wp_exit ?_
  repeat (first | (with_reducible refine qd7 ?_) | (with_reducible refine qa2 ?_) | ((with_reducible refine y5 ?hne ?_); (case hne => rfl)))
  with_reducible refine qa3 ?_
  go_wp2_with (go_at_call 158; refine (q9 CON _).mono ?_; rintro e w1 ⟨rfl, hb1⟩; obtain ⟨hc1, hf1⟩ := j5 hb1; have hz1 : w.heap.size + 2 < w1.heap.size := (by have := hb1.size; simp at this; omega); simp only [vV])
  refine bodyPost_ret (by simp [results, Tryz.results106, go_sem, hc1] <;> rfl) rfl ⟨rfl, ?_⟩
  exact ((((v7 (qb2 _ _ _ _) hb1).setCell (by simp; omega) _).setCell (by simp; omega) _).setCell (by simp; omega) _)
end
section
theorem qy6 {id : Nat} {Q : Exit → Act → World → Prop} {a : Act} {w : World} (h : Q .normal a w) : Exit.inBlock id Q .normal a w := h
end
section
structure SignAt (w W2 : World) (x : V) : Prop where
  a0 : W2.cell? ⟨w.heap.size, 0, none⟩ = some (.int .i64 (iV 0).kind)
  a1 : W2.cell? ⟨w.heap.size, 1, none⟩ = some (.int .i64 (iV 0).num)
  a2 : W2.cell? ⟨w.heap.size, 2, none⟩ = some (.string (BS (iV 0).str))
  b0 : W2.cell? ⟨w.heap.size + 1, 0, none⟩ = some (.int .i64 x.kind)
  b1 : W2.cell? ⟨w.heap.size + 1, 1, none⟩ = some (.int .i64 x.num)
  b2 : W2.cell? ⟨w.heap.size + 1, 2, none⟩ = some (.string (BS x.str))
  r0 : W2.cell? ⟨w.heap.size + 2, 0, none⟩ = some (.int .i64 0)
  r1 : W2.cell? ⟨w.heap.size + 2, 1, none⟩ = some (.int .i64 0)
  r2 : W2.cell? ⟨w.heap.size + 2, 2, none⟩ = some (.string ⟨#[]⟩)
  fz : ∀ j, W2.frozen? ⟨w.heap.size + 2, j, none⟩ = false
  lt : w.heap.size + 2 < W2.heap.size
  below : Below w.heap.size w W2
theorem vr1 (w w0 W2 : World) (x y : V) (hb : Below ((((w.alloc (.cells #[.int .i64 x.kind, .int .i64 x.num, .string (BS x.str)] 118)).alloc (.cells #[.int .i64 y.kind, .int .i64 y.num, .string (BS y.str)] 118)).alloc (.cells #[.int .i64 0, .int .i64 0, .string ⟨#[]⟩] 118)).drew).heap.size ((((w.alloc (.cells #[.int .i64 x.kind, .int .i64 x.num, .string (BS x.str)] 118)).alloc (.cells #[.int .i64 y.kind, .int .i64 y.num, .string (BS y.str)] 118)).alloc (.cells #[.int .i64 0, .int .i64 0, .string ⟨#[]⟩] 118)).drew) w0) (h2 : ((((((w0.setCell ⟨w.heap.size, 0, none⟩ (.int .i64 (iV 0).kind)).setCell ⟨w.heap.size, 1, none⟩ (.int .i64 (iV 0).num)).setCell ⟨w.heap.size, 2, none⟩ (.string (BS (iV 0).str))).setCell ⟨w.heap.size + 1, 0, none⟩ (.int .i64 x.kind)).setCell ⟨w.heap.size + 1, 1, none⟩ (.int .i64 x.num)).setCell ⟨w.heap.size + 1, 2, none⟩ (.string (BS x.str))) = W2) : SignAt w W2 x := by
  subst h2
  have hz := hb.size
  simp at hz
  obtain ⟨hc, hf⟩ := j5 hb
  have x0 := (hc w.heap.size 0 (by simp; omega)).trans (show _ = some (.int .i64 x.kind) by rw [World.cell?_drew, World.cell?_alloc_past _ _ _ (by simp; omega), World.cell?_alloc_past _ _ _ (by simp), World.cell?_alloc_at _ _ _ _ rfl]; rfl)
  have x1 := (hc w.heap.size 1 (by simp; omega)).trans (show _ = some (.int .i64 x.num) by rw [World.cell?_drew, World.cell?_alloc_past _ _ _ (by simp; omega), World.cell?_alloc_past _ _ _ (by simp), World.cell?_alloc_at _ _ _ _ rfl]; rfl)
  have x2 := (hc w.heap.size 2 (by simp; omega)).trans (show _ = some (.string (BS x.str)) by rw [World.cell?_drew, World.cell?_alloc_past _ _ _ (by simp; omega), World.cell?_alloc_past _ _ _ (by simp), World.cell?_alloc_at _ _ _ _ rfl]; rfl)
  have y0 := (hc (w.heap.size + 1) 0 (by simp)).trans (show _ = some (.int .i64 y.kind) by rw [World.cell?_drew, World.cell?_alloc_past _ _ _ (by simp), World.cell?_alloc_at _ _ _ _ (by simp)]; rfl)
  have y1 := (hc (w.heap.size + 1) 1 (by simp)).trans (show _ = some (.int .i64 y.num) by rw [World.cell?_drew, World.cell?_alloc_past _ _ _ (by simp), World.cell?_alloc_at _ _ _ _ (by simp)]; rfl)
  have y2 := (hc (w.heap.size + 1) 2 (by simp)).trans (show _ = some (.string (BS y.str)) by rw [World.cell?_drew, World.cell?_alloc_past _ _ _ (by simp), World.cell?_alloc_at _ _ _ _ (by simp)]; rfl)
  have z0 := (hc (w.heap.size + 2) 0 (by simp)).trans (show _ = some (.int .i64 0) by rw [World.cell?_drew, World.cell?_alloc_at _ _ _ _ (by simp)]; rfl)
  have z1 := (hc (w.heap.size + 2) 1 (by simp)).trans (show _ = some (.int .i64 0) by rw [World.cell?_drew, World.cell?_alloc_at _ _ _ _ (by simp)]; rfl)
  have z2 := (hc (w.heap.size + 2) 2 (by simp)).trans (show _ = some (.string ⟨#[]⟩) by rw [World.cell?_drew, World.cell?_alloc_at _ _ _ _ (by simp)]; rfl)
  have zf : ∀ j, w0.frozen? ⟨w.heap.size + 2, j, none⟩ = false := fun j => (hf (w.heap.size + 2) j (by simp)).trans (by rw [World.frozen?_drew, World.frozen?_alloc_at _ _ _ _ (by simp)])
  refine ⟨?_, ?_, ?_, ?_, ?_, ?_, ?_, ?_, ?_, fun j => ?_, ?_, ?_⟩
  · simp [go_sem, x0]
  · simp [go_sem, x1]
  · simp [go_sem, x2]
  · simp [go_sem, y0]
  · simp [go_sem, y1]
  · simp [go_sem, y2]
  · simp [go_sem, z0]
  · simp [go_sem, z1]
  · simp [go_sem, z2]
  · simp [go_sem, zf]
  · simp; omega
  · exact (((((((v7 ((qb2 w _ _ _).drew) hb).setCell (by simp) _).setCell (by simp) _).setCell (by simp) _).setCell (by simp) _).setCell (by simp) _).setCell (by simp) _)
end
section
set_option maxHeartbeats 400000 in
theorem qj6 (s : ByteArray) (hs : s.size ≤ 140737488355328) (w : World) :
    Calls Tryz.prog 64 #[.string s] w fun e w' => e = .returned (.bool (qv0 s.data.toList)) ∧ Below w.heap.size w w' := by
  unfold qv0
  rw [qa9]
  obtain ⟨nb, hn⟩ : ∃ nb, nameB s.data.toList = nb := ⟨_, rfl⟩
  rw [hn]
  have HN := v6 hn
  clear hn
  by_cases h : s.size ≤ 16
  · go_enter Tryz.func64, Tryz.ntmps64
    go_wp2_with (go_at_call 97; refine (jt9 _ hs _).mono ?_; rintro e w' ⟨rfl, hb⟩; rw [q9 HN])
    all_goals (go_ret; exact ⟨qe3 (by simp_all), by assumption⟩)
  · go_enter Tryz.func64, Tryz.ntmps64
    go_wp2_with fail
    go_ret
    exact ⟨qe3 (by simp <;> omega), Below.refl _ _⟩
theorem BS_empty (l : List UInt8) : (BS l).toList.isEmpty = l.isEmpty := by rw [qm0]
set_option maxHeartbeats 400000 in
theorem qk8 (v : V) (hv : v.str.length ≤ 140737488355328) (w : World) :
    Calls Tryz.prog 65 #[vV v] w fun e w' => e = .returned (.bool (vv7 v)) ∧ Below w.heap.size w w' := by
  have he := BS_empty v.str
  have hz := qc0 v.str
  unfold vv7
  obtain ⟨em, hem⟩ : ∃ em, v.str.isEmpty = em := ⟨_, rfl⟩
  rw [hem] at he ⊢
  clear hem
  conv => arg 3; simp only [vV]
  cases h0 : (v.kind == 0)
  · cases h1 : (v.kind == 1)
    · cases h2 : (v.kind == 2)
      · cases h3 : (v.kind == 3)
        · simp only [Bool.false_eq_true, if_false]
          go_enter Tryz.func65, Tryz.ntmps65
          go_wp2_with fail
          go_ret
          exact ⟨rfl, (Below.refl _ _).alloc (Nat.le_refl _) _⟩
        · simp only [Bool.false_eq_true, if_false, if_true]
          go_enter Tryz.func65, Tryz.ntmps65
          go_wp2_with fail
          all_goals (go_ret; exact ⟨qe3 (by simp_all <;> omega), (Below.refl _ _).alloc (Nat.le_refl _) _⟩)
      · simp only [Bool.false_eq_true, if_false, if_true]
        go_enter Tryz.func65, Tryz.ntmps65
        go_wp2_with fail
        all_goals (go_ret; exact ⟨qe3 (by simp_all <;> omega), (Below.refl _ _).alloc (Nat.le_refl _) _⟩)
    · simp only [Bool.false_eq_true, if_false, if_true]
      go_enter Tryz.func65, Tryz.ntmps65
      go_wp2_with fail
      all_goals (go_ret; exact ⟨qe3 (by simp_all <;> omega), (Below.refl _ _).alloc (Nat.le_refl _) _⟩)
  · simp only [if_true]
    go_enter Tryz.func65, Tryz.ntmps65
    go_wp2_with fail
    all_goals (go_ret; exact ⟨qe3 (by simp_all <;> omega), (Below.refl _ _).alloc (Nat.le_refl _) _⟩)
end
section
def jz0 (ps : List Pr) (k : Nat) : Bool := match ps[k]? with
  | some p => qv0 p.name && vv7 p.val && !jg0 (ps.take k) p.name
  | none => true
def ve6 (ps : List Pr) : Bool := decide (ps.length ≤ 8) && (List.range ps.length).all (jz0 ps)
theorem evOk_long {ps : List Pr} (h : ¬ ps.length ≤ 8) : ve6 ps = false := by unfold ve6; rw [decide_eq_false h]; rfl
theorem evOk_good {ps : List Pr} (h8 : ps.length ≤ 8) (h : ∀ j, j < ps.length → jz0 ps j = true) : ve6 ps = true := by
  unfold ve6
  rw [decide_eq_true h8, Bool.true_and, List.all_eq_true]
  exact fun j hj => h j (List.mem_range.1 hj)
theorem EvAt.take {w : World} {b off : Nat} {ps : List Pr} (h : EvAt w b off ps) (k : Nat) : EvAt w b off (ps.take k) := by
  intro j p hj
  rw [List.getElem?_take] at hj
  split at hj
  · exact h j p hj
  · cases hj
def Short (ps : List Pr) : Prop := ∀ p ∈ ps, p.name.length ≤ 140737488355328 ∧ p.val.str.length ≤ 140737488355328
theorem has_k {qs : List Pr} {k : Nat} (hq : qs.length = k) (cap : Nat) {b off : Nat} (s : ByteArray) (w : World) (hk : k ≤ 8) (hw : EvAt w b off qs) (hlt : b < w.heap.size) :
    Calls Tryz.prog 66 #[.slice (some ⟨b, off, none⟩) k cap, .string s] w fun e w' => e = .returned (.bool (jg0 qs s.data.toList)) ∧ Below w.heap.size w w' := by
  subst hq; exact has_any b off cap qs s w hk hw hlt
theorem EvAt.later {w W w1 w2 : World} {b off : Nat} {ps : List Pr} {o : Obj} (h : EvAt w b off ps) (hW : W = (w.alloc o).drew) (hlt : b < w.heap.size) (hb1 : Below W.heap.size W w1) (hb2 : Below w1.heap.size w1 w2) : EvAt w2 b off ps := by
  subst hW
  have h1 : EvAt (w.alloc o).drew b off ps := h.below ((Below.refl _ _).alloc (Nat.le_refl _) o).drew hlt
  have hlt1 : b < (w.alloc o).drew.heap.size := by show b < (w.alloc o).heap.size; simp; omega
  exact (h1.below hb1 hlt1).below hb2 (Nat.lt_of_lt_of_le hlt1 hb1.size)
set_option maxHeartbeats 1000000 in
theorem jy2 (b off cap : Nat) (ps : List Pr) (w : World) (hcap : ps.length ≤ cap) (hbig : ps.length ≤ 140737488355328) (hsh : Short ps) (hw : EvAt w b off ps) (hlt : b < w.heap.size) (hok : ve6 ps = true) :
    Calls Tryz.prog 40 #[.slice (some ⟨b, off, none⟩) ps.length cap] w fun e w' => e = .returned (.bool true) ∧ Below w.heap.size w w' := by
  obtain ⟨h8, hg⟩ : ps.length ≤ 8 ∧ ∀ j, j < ps.length → jz0 ps j = true := by
    unfold ve6 at hok
    rw [Bool.and_eq_true, decide_eq_true_eq, List.all_eq_true] at hok
    exact ⟨hok.1, fun j hj => hok.2 j (List.mem_range.2 hj)⟩
  have HG := v6 hg
  clear hg hok
  go_enter Tryz.func40, Tryz.ntmps40
  go_wp2_with fail
  go_loopw [3, 4, 10] (fun _ _ i wr => ∃ k : Nat, k ≤ ps.length ∧ i = .int .i64 k ∧ Hid (∀ j, j < k → jz0 ps j = true) ∧ Below w.heap.size w wr) (fun _ _ i _ => ps.length - (intOf i).toNat)
  case atStart => exact ⟨0, Nat.zero_le _, rfl, v6 (fun j hj => absurd hj (by omega)), Below.refl _ _⟩
  case round =>
    obtain ⟨k, hk, rfl, hh, hb⟩ := hrel
    by_cases hlt2 : k < ps.length
    · obtain ⟨p, hp⟩ : ∃ p, ps[k]? = some p := ⟨_, List.getElem?_eq_getElem hlt2⟩
      have hwr := hw.below hb hlt
      have hltr : b < wr.heap.size := Nat.lt_of_lt_of_le hlt hb.size
      obtain ⟨h1, h2, h3, h4⟩ := hwr k p hp
      obtain ⟨hs1, hs2⟩ := hsh p (List.mem_of_getElem? hp)
      have hok : jz0 ps k = (qv0 p.name && vv7 p.val && !jg0 (ps.take k) p.name) := by unfold jz0; rw [hp]
      have htl : (ps.take k).length = k := by rw [List.length_take]; omega
      have HTK := v6 (hwr.take k)
      have HL := v6 htl
      clear hp hwr htl
      have hall := q9 HG k hlt2
      rw [hok] at hall
      simp only [Bool.and_eq_true, Bool.not_eq_true'] at hall
      obtain ⟨⟨hn, hv⟩, hx⟩ := hall
      have HN := v6 hn
      have HV := v6 hv
      have HOK : Hid (∀ j, j < k + 1 → jz0 ps j = true) := v6 (fun j hj => by
        by_cases hjk : j < k
        · exact q9 hh j hjk
        · have : j = k := by omega
          rw [this, hok, hn, hv, hx]; rfl)
      have HH := v6 hx
      clear hn hok hv hx
      go_wp2_with fail
      go_region_with (first | (go_at_call 64; refine (qj6 _ (by exact hs1) _).mono ?_; rintro e w1 ⟨rfl, hb1⟩; rw [show qv0 (BS p.name).data.toList = true from q9 HN]; obtain ⟨hc1, hf1⟩ := j5 hb1; have hz1 : wr.heap.size < w1.heap.size := (by have := hb1.size; simp at this; omega); have hB1 : Below w.heap.size w w1 := v7 (z9 hb _).drew hb1) | (go_at_call 65; refine (qk8 p.val hs2 _).mono ?_; rintro e w2 ⟨rfl, hb2⟩; rw [q9 HV]; obtain ⟨hc2, hf2⟩ := j5 hb2; have hz2 : wr.heap.size < w2.heap.size := (by have := hb2.size; omega); have hB2 : Below w.heap.size w w2 := v7 hB1 hb2) | (go_at_call 66; refine (has_k (q9 HL) cap (BS p.name) _ (by omega) (by exact (q9 HTK).later rfl hltr hb1 hb2) (by omega)).mono ?_; rintro e w3 ⟨rfl, hb3⟩; rw [show jg0 (ps.take k) (BS p.name).data.toList = false from q9 HH]; have hB3 : Below w.heap.size w w3 := v7 hB2 hb3))
      all_goals (go_wp2_with fail)
      all_goals exact ⟨⟨k + 1, by omega, by go_num, HOK, hB3⟩, by simp [intOf]; omega⟩
    · clear hh
      go_wp2_with fail
      go_ret
      exact ⟨rfl, hb⟩
end
section
set_option maxHeartbeats 1000000 in
theorem jy3 (a : Option Addr) (n cap : Nat) (h8 : 8 < n) (hbig : n ≤ 140737488355328) (w : World) :
    Calls Tryz.prog 40 #[.slice a n cap] w fun e w' => e = .returned (.bool false) ∧ Below w.heap.size w w' := by
  go_enter Tryz.func40, Tryz.ntmps40
  go_wp2_with fail
  go_ret
  exact ⟨rfl, Below.refl _ _⟩
set_option maxHeartbeats 4000000 in
theorem valid_bad (b off cap : Nat) (ps : List Pr) (w : World) (hcap : ps.length ≤ cap) (hbig : ps.length ≤ 140737488355328) (hsh : Short ps) (hw : EvAt w b off ps) (hlt : b < w.heap.size) (h8 : ps.length ≤ 8) (hok : ve6 ps = false) :
    Calls Tryz.prog 40 #[.slice (some ⟨b, off, none⟩) ps.length cap] w fun e w' => e = .returned (.bool false) ∧ Below w.heap.size w w' := by
  have HNO := v6 hok
  clear hok
  go_enter Tryz.func40, Tryz.ntmps40
  go_wp2_with fail
  go_loopw [3, 4, 10] (fun _ _ i wr => ∃ k : Nat, k ≤ ps.length ∧ i = .int .i64 k ∧ Hid (∀ j, j < k → jz0 ps j = true) ∧ Below w.heap.size w wr) (fun _ _ i _ => ps.length - (intOf i).toNat)
  case atStart => exact ⟨0, Nat.zero_le _, rfl, v6 (fun j hj => absurd hj (by omega)), Below.refl _ _⟩
  case round =>
    obtain ⟨k, hk, rfl, hh, hb⟩ := hrel
    by_cases hlt2 : k < ps.length
    · obtain ⟨p, hp⟩ : ∃ p, ps[k]? = some p := ⟨_, List.getElem?_eq_getElem hlt2⟩
      have hwr := hw.below hb hlt
      have hltr : b < wr.heap.size := Nat.lt_of_lt_of_le hlt hb.size
      obtain ⟨h1, h2, h3, h4⟩ := hwr k p hp
      obtain ⟨hs1, hs2⟩ := hsh p (List.mem_of_getElem? hp)
      have hok : jz0 ps k = (qv0 p.name && vv7 p.val && !jg0 (ps.take k) p.name) := by unfold jz0; rw [hp]
      have htl : (ps.take k).length = k := by rw [List.length_take]; omega
      have HTK := v6 (hwr.take k)
      have HL := v6 htl
      clear hp hwr htl
      cases hn : qv0 p.name with
      | false =>
        have HN := v6 hn
        clear hn hok
        go_wp2_with fail
        first | go_region_with (first | (go_at_call 64; refine (qj6 _ (by exact hs1) _).mono ?_; rintro e w1 ⟨rfl, hb1⟩; rw [show qv0 (BS p.name).data.toList = false from q9 HN]; obtain ⟨hc1, hf1⟩ := j5 hb1; have hz1 : wr.heap.size < w1.heap.size := (by have := hb1.size; simp at this; omega); have hB1 : Below w.heap.size w w1 := v7 (z9 hb _).drew hb1)) | fail "no region"
        all_goals (go_wp2_with fail)
        all_goals (go_ret; exact ⟨rfl, hB1⟩)
      | true =>
        have HN := v6 hn
        cases hv : vv7 p.val with
        | false =>
          have HV := v6 hv
          clear hn hv hok
          go_wp2_with fail
          first | go_region_with (first | (go_at_call 64; refine (qj6 _ (by exact hs1) _).mono ?_; rintro e w1 ⟨rfl, hb1⟩; rw [show qv0 (BS p.name).data.toList = true from q9 HN]; obtain ⟨hc1, hf1⟩ := j5 hb1; have hz1 : wr.heap.size < w1.heap.size := (by have := hb1.size; simp at this; omega); have hB1 : Below w.heap.size w w1 := v7 (z9 hb _).drew hb1) | (go_at_call 65; refine (qk8 p.val hs2 _).mono ?_; rintro e w2 ⟨rfl, hb2⟩; rw [q9 HV]; obtain ⟨hc2, hf2⟩ := j5 hb2; have hz2 : wr.heap.size < w2.heap.size := (by have := hb2.size; omega); have hB2 : Below w.heap.size w w2 := v7 hB1 hb2)) | fail "no region"
          all_goals (go_wp2_with fail)
          all_goals (go_ret; exact ⟨rfl, hB2⟩)
        | true =>
          have HV := v6 hv
          cases hx : jg0 (ps.take k) p.name with
          | true =>
            have HH := v6 hx
            clear hn hv hx hok
            go_wp2_with fail
            first | go_region_with (first | (go_at_call 64; refine (qj6 _ (by exact hs1) _).mono ?_; rintro e w1 ⟨rfl, hb1⟩; rw [show qv0 (BS p.name).data.toList = true from q9 HN]; obtain ⟨hc1, hf1⟩ := j5 hb1; have hz1 : wr.heap.size < w1.heap.size := (by have := hb1.size; simp at this; omega); have hB1 : Below w.heap.size w w1 := v7 (z9 hb _).drew hb1) | (go_at_call 65; refine (qk8 p.val hs2 _).mono ?_; rintro e w2 ⟨rfl, hb2⟩; rw [q9 HV]; obtain ⟨hc2, hf2⟩ := j5 hb2; have hz2 : wr.heap.size < w2.heap.size := (by have := hb2.size; omega); have hB2 : Below w.heap.size w w2 := v7 hB1 hb2) | (go_at_call 66; refine (has_k (q9 HL) cap (BS p.name) _ (by omega) (by exact (q9 HTK).later rfl hltr hb1 hb2) (by omega)).mono ?_; rintro e w3 ⟨rfl, hb3⟩; rw [show jg0 (ps.take k) (BS p.name).data.toList = true from q9 HH]; have hB3 : Below w.heap.size w w3 := v7 hB2 hb3)) | fail "no region"
            all_goals (go_wp2_with fail)
            all_goals (go_ret; exact ⟨rfl, hB3⟩)
          | false =>
            have HH := v6 hx
            have HOK : Hid (∀ j, j < k + 1 → jz0 ps j = true) := v6 (fun j hj => by
              by_cases hjk : j < k
              · exact q9 hh j hjk
              · have : j = k := by omega
                rw [this, hok, hn, hv, hx]; rfl)
            clear hn hv hx hok
            go_wp2_with fail
            first | go_region_with (first | (go_at_call 64; refine (qj6 _ (by exact hs1) _).mono ?_; rintro e w1 ⟨rfl, hb1⟩; rw [show qv0 (BS p.name).data.toList = true from q9 HN]; obtain ⟨hc1, hf1⟩ := j5 hb1; have hz1 : wr.heap.size < w1.heap.size := (by have := hb1.size; simp at this; omega); have hB1 : Below w.heap.size w w1 := v7 (z9 hb _).drew hb1) | (go_at_call 65; refine (qk8 p.val hs2 _).mono ?_; rintro e w2 ⟨rfl, hb2⟩; rw [q9 HV]; obtain ⟨hc2, hf2⟩ := j5 hb2; have hz2 : wr.heap.size < w2.heap.size := (by have := hb2.size; omega); have hB2 : Below w.heap.size w w2 := v7 hB1 hb2) | (go_at_call 66; refine (has_k (q9 HL) cap (BS p.name) _ (by omega) (by exact (q9 HTK).later rfl hltr hb1 hb2) (by omega)).mono ?_; rintro e w3 ⟨rfl, hb3⟩; rw [show jg0 (ps.take k) (BS p.name).data.toList = false from q9 HH]; have hB3 : Below w.heap.size w w3 := v7 hB2 hb3)) | fail "no region"
            all_goals (go_wp2_with fail)
            all_goals exact ⟨⟨k + 1, by omega, by go_num, HOK, hB3⟩, by simp [intOf]; omega⟩
    · have hkn : k = ps.length := by omega
      have := evOk_good h8 (fun j hj => q9 hh j (by omega))
      rw [q9 HNO] at this
      cases this
theorem je2 (b off cap : Nat) (ps : List Pr) (w : World) (hcap : ps.length ≤ cap) (hbig : ps.length ≤ 140737488355328) (hsh : Short ps) (hw : EvAt w b off ps) (hlt : b < w.heap.size) :
    Calls Tryz.prog 40 #[.slice (some ⟨b, off, none⟩) ps.length cap] w fun e w' => e = .returned (.bool (ve6 ps)) ∧ Below w.heap.size w w' := by
  cases hok : ve6 ps with
  | true => exact jy2 b off cap ps w hcap hbig hsh hw hlt hok
  | false =>
    by_cases h8 : ps.length ≤ 8
    · exact valid_bad b off cap ps w hcap hbig hsh hw hlt h8 hok
    · exact jy3 _ _ cap (by omega) hbig w
set_option maxHeartbeats 1000000 in
theorem jj6 (a : Option Addr) (cap : Nat) (w : World) :
    Calls Tryz.prog 40 #[.slice a 0 cap] w fun e w' => e = .returned (.bool true) ∧ Below w.heap.size w w' := by
  go_enter Tryz.func40, Tryz.ntmps40
  go_wp2_with fail
  go_loopw [3, 4, 10] (fun _ _ i wr => i = .int .i64 0 ∧ wr = w) (fun _ _ _ _ => 0)
  case atStart => exact ⟨rfl, rfl⟩
  case round =>
    obtain ⟨rfl, rfl⟩ := hrel
    go_wp2_with fail
    go_ret
    exact ⟨rfl, Below.refl _ _⟩
end
section
open Go.RowKit Go.Shelf
attribute [local go_sem] Oper.semAt_some
def vc1 (ts : List (List UInt8)) (k : Nat) : List (List UInt8) := (List.range k).map fun j => ts[j]?.getD []
theorem jj3 (ts : List (List UInt8)) (k : Nat) : vc1 ts (k + 1) = vc1 ts k ++ [ts[k]?.getD []] := by simp [vc1, List.range_succ]
theorem vc2 (ts : List (List UInt8)) (k : Nat) : (vc1 ts k).length = k := by simp [vc1]
theorem jy1 (ts : List (List UInt8)) : vc1 ts ts.length = ts := by
  apply List.ext_getElem
  · simp [vc1]
  · intro i h1 h2
    simp [vc1, h2]
set_option maxRecDepth 100000 in
set_option maxHeartbeats 2000000 in
theorem jy5 (n : Nat) (hn : 1 ≤ n) (l Bs n₀ b cap : Nat) (ts : List (List UInt8)) (hlen : ts.length ≤ 1000) (hb : b < n₀) (J Jx : List (List UInt8) → World → Prop)
    (hY : ∀ pre x W, J pre W → pre.length < ts.length → YieldAt Fence.wide (n - 1) Tryz.prog l #[.string (BS x)] W fun e W' =>
      (e = .returned (.bool true) ∧ J (pre ++ [x]) W' ∧ Below n₀ W W') ∨ (e = .returned (.bool false) ∧ Jx (pre ++ [x]) W'))
    (W : World) (hBs : W.cell? ⟨Bs, 0, none⟩ = some (.slice (some ⟨b, 0, none⟩) ts.length cap)) (hc : ∀ j, j < ts.length → W.cell? ⟨b, j, none⟩ = some (.string (BS (ts[j]?.getD [])))) (h0 : J [] W) :
    CallsIn Fence.wide n Tryz.prog 188 #[.func (.yield l) #[] #[], .pointer (some ⟨Bs, 0, none⟩)] W fun e W' => (∃ v, e = .returned v) ∧
      ((∃ ys, ys = ts ∧ J ys W') ∨ (∃ pre, pre.length ≤ ts.length ∧ Jx pre W')) := by
  obtain ⟨len, hl⟩ : ∃ len, ts.length = len := ⟨_, rfl⟩
  rw [hl] at hlen hY hBs hc
  have HL := v6 hl
  clear hl
  refine callsIn_of_wp Tryz.func188 rfl trivial ?_ rfl
  simp only [Tryz.ntmps188, List.size_toArray, List.length_cons, List.length_nil, Nat.reduceAdd, Nat.reduceSub, Array.replicate_succ, Array.replicate_zero, List.push_toArray, List.append_toArray, List.nil_append, List.cons_append]
  gi_wp2
  gi_loopw [7] (fun i wr => ∃ k : Nat, k ≤ len ∧ i = .int .i64 k ∧ J (vc1 ts k) wr ∧ Below n₀ W wr)
    (fun i _ => len - (intOf i).toNat)
  case atStart => exact ⟨0, Nat.zero_le _, rfl, h0, Below.refl _ _⟩
  case round =>
    obtain ⟨k, hk, rfl, hJs, hnx⟩ := hrel
    have hcx : k < len → wr.cell? ⟨b, k, none⟩ = some (.string (BS (ts[k]?.getD []))) := fun h => (hnx.cell (p := ⟨b, k, none⟩) hb).trans (hc k h)
    by_cases hlt : k < len
    · obtain ⟨fn, tmps, assign, body, hy, hR⟩ := hY _ (ts[k]?.getD []) wr hJs (by rw [vc2]; exact hlt)
      have hcx' := hcx hlt
      gi_wp2
      refine hR.mono ?_
      rintro e W3 (⟨rfl, hJ3, hk3⟩ | ⟨rfl, hJx3⟩)
      · gi_wp2
        go_roundw
        case rel => exact ⟨k + 1, by omega, by simp, by rw [jj3]; exact hJ3, hnx.trans hk3⟩
        case measure => simp [intOf]; omega
      · gi_wp2
        refine bodyPost_ret (results_none rfl _ _ _) rfl ?_
        exact ⟨⟨_, rfl⟩, .inr ⟨_, by rw [List.length_append, vc2, q9 HL]; simp; omega, hJx3⟩⟩
    · obtain rfl : k = len := by omega
      gi_wp2
      go_end0
      exact ⟨⟨_, rfl⟩, .inl ⟨_, by rw [← q9 HL, jy1], hJs⟩⟩
theorem jb9 (n : Nat) (hn : 1 ≤ n) (Bs n₀ b cap : Nat) (ts : List (List UInt8)) (hlen : ts.length ≤ 1000) (hb : b < n₀) (w : World) (hBs : Bs < w.heap.size) (hn₀ : n₀ ≤ w.heap.size)
    (hc : w.cell? ⟨Bs, 0, none⟩ = some (.slice (some ⟨b, 0, none⟩) ts.length cap)) (hcs : ∀ j, j < ts.length → w.cell? ⟨b, j, none⟩ = some (.string (BS (ts[j]?.getD [])))) :
    SeqStopsK Fence.wide n Tryz.prog 188 #[.pointer (some ⟨Bs, 0, none⟩)] (fun x : List UInt8 => #[Value.string (BS x)]) (Below n₀) (fun ys => ys = ts) (fun pre => pre.length ≤ ts.length) ts.length w := fun l J Jx W hW _ _ hY h0 =>
  jy5 n hn l Bs n₀ b cap ts hlen hb J Jx hY W ((hW.cell (p := ⟨Bs, 0, none⟩) hBs).trans hc) (fun j hj => ((hW.mono hn₀).cell (p := ⟨b, j, none⟩) hb).trans (hcs j hj)) h0
theorem info_strg : (Tryz.prog.info? 9).map (fun i => (i.zero, i.size, i.bytes)) = some (some (.string ⟨#[]⟩), 1, 16) := by kernel_rfl
set_option maxRecDepth 100000 in
set_option maxHeartbeats 2000000 in
theorem vx3 (n : Nat) (hn : 2 ≤ n) (Bs b cap : Nat) (ts : List (List UInt8)) (hlen : ts.length ≤ 1000) (w : World) (hb : b < w.heap.size) (hBs : Bs < w.heap.size)
    (hc : w.cell? ⟨Bs, 0, none⟩ = some (.slice (some ⟨b, 0, none⟩) ts.length cap)) (hcs : ∀ j, j < ts.length → w.cell? ⟨b, j, none⟩ = some (.string (BS (ts[j]?.getD [])))) :
    CallsIn Fence.wide n Tryz.prog 217 #[.slice none 0 0, .func (.func 188) #[] #[.pointer (some ⟨Bs, 0, none⟩)]] w fun e w' => ∃ v, e = .returned v ∧ w'.ownsRow w.heap.size 9 1 v ts.length (ts.map fun x => .string (BS x)) ∧ Below w.heap.size w w' := by
  have h1 : 1 ≤ n := by omega
  obtain ⟨i0, hi, hz0, hz1, hz2⟩ := info_parts info_strg
  refine callsIn_of_wp_marks Tryz.func217 rfl trivial ?_ rfl
  simp only [Tryz.ntmps217, List.size_toArray, List.length_cons, List.length_nil, Nat.reduceAdd, Nat.reduceSub, Array.replicate_succ, Array.replicate_zero, List.push_toArray, List.append_toArray, List.nil_append, List.cons_append]
  gi_wp2
  have bO := Boxed.new w 30 (.slice none 0 0)
  have hB0 : Below w.heap.size w (w.alloc (.cells #[.slice none 0 0] 30)) := (Below.refl _ w).alloc (Nat.le_refl _) _
  refine wpIn_rangeFunc_ownG rfl h1 (gf := 188) (lb := #[.pointer (some ⟨Bs, 0, none⟩)]) rfl trivial (enters_of Tryz.func188 (by kernel_rfl) rfl)
    (jb9 (n - 1) (by omega) Bs w.heap.size b cap ts hlen hb (w.alloc (.cells #[.slice none 0 0] 30)) (by simp; omega) (by simp) ((hB0.cell (p := ⟨Bs, 0, none⟩) hBs).trans hc) (fun j hj => (hB0.cell (p := ⟨b, j, none⟩) hb).trans (hcs j hj))) belowK_t (belowK_b (by simp)) (Below.refl _ _) (fun _ => rfl)
    (fun (pre : List (List UInt8)) W => (∃ v, Boxed W w.heap.size 30 v ∧ W.ownsRow w.heap.size 9 1 v pre.length (pre.map fun x => .string (BS x)) ∧ True) ∧ Below w.heap.size w W)
    (fun _ _ _ => False)
    (OwnFrom.and (Own.from (holdsRow_own w.heap.size w.heap.size 30 9 1 (fun (pre : List (List UInt8)) => pre.length) (fun (pre : List (List UInt8)) => pre.map fun x => Value.string (BS x)) (fun _ _ => True)) _) (ownFrom_below (Nat.le_refl _) (by simp)))
    (fun _ _ _ _ _ hs _ _ => hs)
    ⟨⟨_, bO, World.ownsRow_nil _ _ _ _, trivial⟩, hB0⟩
    (fun x => { tmps := #[.slice none 0 0, .func (.func 188) #[] #[.pointer (some ⟨Bs, 0, none⟩)], .pointer (some ⟨w.heap.size, 0, none⟩), undef, .slice none 0 0, .string (BS x), .func (.func 188) #[] #[.pointer (some ⟨Bs, 0, none⟩)], .string (BS x), undef, undef, undef, undef, undef], defers := [] }) ?assign ?body ?done ?stop
  case assign =>
    intro l x W K hK
    gi_wp2
    exact hK
  case body =>
    rintro l pre x W ⟨⟨v, hv, hrow, _⟩, hB⟩ hlt
    have hc := hv.cell
    gi_wp2_with (gi_at_builtin; refine wpListIn_append_own _ rfl _ _ 30 rfl w.heap.size 9 i0 (.string ⟨#[]⟩) 1 16 Tryz.underlying30 hi hz0 hz1 hz2 rfl (by decide) _ _ _ rfl (hrow.alloc _) ⟨W.heap.size, 0, none⟩ 1 1 [.string (BS x)] rfl rfl (cell_one_new _ _ _) (by simp [Value.oneCell']) (by unfold maxLen; omega) (by omega) (by have := hB.size; simp; omega) ?_; intro v' w1 hown' hgrow _; obtain ⟨g', cap', rfl⟩ := ownsRow_succ hown'; obtain ⟨hv1, hv2, hr2, hk2, hb2⟩ := hv.appended (by decide) hrow hB.size (Nat.le_refl _) hown' hgrow; have hc1 := hv1.cell; have hf1 := hv1.frozen)
    exact ⟨hk2.from _, hb2, ⟨_, hv2, by simpa using hr2, trivial⟩, hB.trans hb2⟩
  case done =>
    rintro D ys W hD rfl ⟨⟨v, hv, hrow, _⟩, hB⟩ hK
    have hc := hv.cell
    gi_wp2
    refine ⟨by simp, .inl ⟨_, _, rfl, run_takeDeferred hK, ?_⟩⟩
    exact ⟨_, results_tmp rfl _ _ _, v, rfl, ownsRow_putObj hrow _ hK rfl, hB.trans (belowK_b (w := w) (Nat.le_refl _) W D _ _ (by simp at hD; omega) hK rfl rfl)⟩
  case stop =>
    rintro D c pre W _ _ h _
    exact h.elim
end
end Go.Proofs.YtfkcaldjphakpabGreatDoor
