/- Eval of any text and any list of properties. Subscriptions in memory; where one stands. Rows of elements of several cells: copy, clear, append onto a row's own part. slices.Insert and slices.Clone of subscriptions. slices.Insert of subscriptions, in the middle. slices.Insert of subscriptions where there is room; slices.Clone. slices.Delete of one subscription. A heap's order: what push and pop leave of it, and what pop hands out. -/
import Derived.Test.YtfkcaldjphakpabGreatDoorN17
import Derived.Test.YtfkcaldjphakpabGreatDoorYOf2
import Derived.Test.YtfkcaldjphakpabGreatDoorN26
import Derived.Test.YtfkcaldjphakpabGreatDoorN18
import Derived.Test.YtfkcaldjphakpabGreatDoorYAm1
import Derived.Test.YtfkcaldjphakpabGreatDoorN31
import Derived.Test.YtfkcaldjphakpabGreatDoorShelf
import Derived.RegionTactic
import Derived.Deep.RegionHeld3
import Derived.Deep.RegionWith
import Derived.Test.YtfkcaldjphakpabGreatDoorN22
import Derived.Lib.Overlaps
import Derived.Lib.AppendZerosOnto
import Derived.Lib.SliceRun
namespace Go.Proofs.YtfkcaldjphakpabGreatDoor
open Go.RowKit

section
/-- A list of properties as an argument, an event or not. -/
def EvIn (w : World) (ev : Value) (ps : List Pr) : Prop :=
  (ps = [] ∧ ∃ a cap, ev = .slice a 0 cap) ∨ ∃ b off cap, ev = .slice (some ⟨b, off, none⟩) ps.length cap ∧ ps.length ≤ cap ∧ EvAt w b off ps ∧ b < w.heap.size

theorem EvIn.below {w w' : World} {ev : Value} {ps : List Pr} (h : EvIn w ev ps) (hb : Below w.heap.size w w') : EvIn w' ev ps := by
  rcases h with h | ⟨b, off, cap, rfl, hc, he, hlt⟩
  · exact .inl h
  · exact .inr ⟨b, off, cap, rfl, hc, he.below hb hlt, Nat.lt_of_lt_of_le hlt hb.size⟩
theorem EvIn.slice {w : World} {ev : Value} {ps : List Pr} (h : EvIn w ev ps) : ∃ a n c, ev = .slice a n c := by
  rcases h with ⟨_, a, cap, rfl⟩ | ⟨b, off, cap, rfl, _⟩
  · exact ⟨_, _, _, rfl⟩
  · exact ⟨_, _, _, rfl⟩
end

section
def cmpI (x y : Int) : Int := if x < y then -1 else if y < x then 1 else 0

set_option maxHeartbeats 400000 in
theorem isNaN_any (x : Int) (w : World) : Calls Tryz.prog 83 #[.int .i64 x] w fun e w' => e = .returned (.bool false) ∧ w' = w := by
  go_enter Tryz.func83, Tryz.ntmps83
  go_wp2_with fail
  go_ret
  exact ⟨by simp, rfl⟩

set_option maxHeartbeats 400000 in
theorem compare_any (x y : Int) (w : World) : Calls Tryz.prog 53 #[.int .i64 x, .int .i64 y] w fun e w' => e = .returned (.int .i64 (cmpI x y)) ∧ w' = w := by
  rcases Int.lt_trichotomy x y with h | h | h
  · have hc : cmpI x y = -1 := by unfold cmpI; rw [if_pos h]
    have h1 : decide (x < y) = true := decide_eq_true h
    rw [hc]
    go_enter Tryz.func53, Tryz.ntmps53
    go_wp2_with (go_at_call 83; refine (isNaN_any _ _).mono ?_; rintro e w1 ⟨rfl, rfl⟩)
    go_ret
    exact ⟨rfl, rfl⟩
  · subst h
    have hc : cmpI x x = 0 := by unfold cmpI; simp
    have h1 : decide (x < x) = false := decide_eq_false (by omega)
    have h2 : decide (x > x) = false := decide_eq_false (by omega)
    rw [hc]
    go_enter Tryz.func53, Tryz.ntmps53
    go_wp2_with (go_at_call 83; refine (isNaN_any _ _).mono ?_; rintro e w1 ⟨rfl, rfl⟩)
    go_ret
    exact ⟨rfl, rfl⟩
  · have hc : cmpI x y = 1 := by unfold cmpI; rw [if_neg (by omega), if_pos h]
    have h1 : decide (x < y) = false := decide_eq_false (by omega)
    have h2 : decide (x > y) = true := decide_eq_true h
    rw [hc]
    go_enter Tryz.func53, Tryz.ntmps53
    go_wp2_with (go_at_call 83; refine (isNaN_any _ _).mono ?_; rintro e w1 ⟨rfl, rfl⟩)
    go_ret
    exact ⟨rfl, rfl⟩

set_option maxHeartbeats 400000 in
theorem subCmp_any (x y : Int) (p q : Value) (w : World) : Calls Tryz.prog 52 #[.agg #[.int .i64 x, p, q], .int .i64 y] w fun e w' => e = .returned (.int .i64 (cmpI x y)) ∧ Below w.heap.size w w' := by
  go_enter Tryz.func52, Tryz.ntmps52
  go_wp2_with (go_at_call 53; refine (compare_any _ _ _).mono ?_; rintro e w1 ⟨rfl, rfl⟩)
  go_ret
  exact ⟨rfl, (Below.refl _ _).alloc (Nat.le_refl _) _⟩

/-- A subscription's three cells: its number, its core, its heap's header. -/
structure Sb where
  id : Int
  core : Option Addr
  row : Option Addr
  len : Nat
  cap : Nat
def sbCells (s : Sb) : List Value := [.int .i64 s.id, .pointer s.core, .slice s.row s.len s.cap]
/-- A row of subscriptions, to be read. -/
def SubsAt (w : World) (lo : Nat) (v : Value) (l : List Sb) : Prop :=
  ∃ a c, v = .slice a l.length c ∧ ∀ (i : Nat) (s : Sb), l[i]? = some s → ∃ g, a = some ⟨g, 0, none⟩ ∧ g < lo ∧ w.cell? ⟨g, i * 3, none⟩ = some (.int .i64 s.id) ∧ w.cell? ⟨g, i * 3 + 1, none⟩ = some (.pointer s.core) ∧ w.cell? ⟨g, i * 3 + 2, none⟩ = some (.slice s.row s.len s.cap)

theorem SubsAt.below {w w' : World} {lo : Nat} {v : Value} {l : List Sb} (h : SubsAt w lo v l) (hb : Below lo w w') : SubsAt w' lo v l := by
  obtain ⟨a, c, hv, hx⟩ := h
  refine ⟨a, c, hv, fun i s hi => ?_⟩
  obtain ⟨g, ha, hg, h0, h1, h2⟩ := hx i s hi
  exact ⟨g, ha, hg, (hb.cell (p := ⟨g, i * 3, none⟩) hg).trans h0, (hb.cell (p := ⟨g, i * 3 + 1, none⟩) hg).trans h1, (hb.cell (p := ⟨g, i * 3 + 2, none⟩) hg).trans h2⟩

/-- Where a number stands, or would stand, among rising ones. -/
def placeId (l : List Sb) (id : Int) : Nat := l.countP fun s => decide (s.id < id)
def RisingS (l : List Sb) : Prop := l.Pairwise fun a b => a.id < b.id

theorem count_split {l : List Sb} (h : RisingS l) (id : Int) : ∀ (i : Nat) (s : Sb), l[i]? = some s → (s.id < id ↔ i < placeId l id) := by
  induction l with
  | nil => intro i s hi; simp at hi
  | cons a r ih =>
    have hr := List.pairwise_cons.1 h
    intro i s hi
    unfold placeId
    rw [List.countP_cons]
    cases i with
    | zero =>
      simp at hi
      subst hi
      by_cases hlt : a.id < id
      · simp [hlt]
      · have : r.countP (fun s => decide (s.id < id)) = 0 := List.countP_eq_zero.2 fun b hb => by
          have := hr.1 b hb
          simp; omega
        simp [hlt, this]
    | succ i =>
      have hi' : r[i]? = some s := by simpa using hi
      have := ih hr.2 i s hi'
      by_cases hlt : a.id < id
      · simp only [hlt, decide_true, if_true]
        unfold placeId at this
        omega
      · have hs : ¬ s.id < id := by
          have := hr.1 s (List.mem_of_getElem? hi')
          omega
        have h0 : r.countP (fun s => decide (s.id < id)) = 0 := List.countP_eq_zero.2 fun b hb => by
          have := hr.1 b hb
          simp; omega
        simp [hlt, h0, hs]

theorem any_at {l : List Sb} (h : RisingS l) (id : Int) : (l.any fun s => s.id == id) = match l[placeId l id]? with
    | some s => s.id == id
    | none => false := by
  have hc := count_split h id
  have hpw := List.pairwise_iff_getElem.1 h
  cases hp : l[placeId l id]? with
  | none =>
    rw [List.any_eq_false]
    intro s hs
    obtain ⟨i, hi⟩ := List.getElem?_of_mem hs
    have hlen := (List.getElem?_eq_some_iff.1 hi).1
    have hnone : l.length ≤ placeId l id := List.getElem?_eq_none_iff.1 hp
    have := (hc i s hi).2 (by omega)
    simp
    omega
  | some t =>
    obtain ⟨ht1, ht2⟩ := List.getElem?_eq_some_iff.1 hp
    show _ = (t.id == id)
    have htn : ¬ t.id < id := fun hh => by have := (hc _ t hp).1 hh; omega
    by_cases he : t.id = id
    · rw [List.any_eq_true.2 ⟨t, List.mem_of_getElem? hp, by simp [he]⟩]
      simp [he]
    · rw [List.any_eq_false.2, Eq.comm]
      · simp [he]
      · intro s hs
        obtain ⟨i, hi⟩ := List.getElem?_of_mem hs
        obtain ⟨hi1, hi2⟩ := List.getElem?_eq_some_iff.1 hi
        rcases Nat.lt_trichotomy i (placeId l id) with hlt | heq | hgt
        · have := (hc i s hi).2 hlt
          simp; omega
        · subst heq
          rw [hp] at hi
          cases hi
          simp [he]
        · have := hpw (placeId l id) i ht1 hi1 hgt
          rw [ht2, hi2] at this
          simp; omega

set_option maxHeartbeats 2000000 in
set_option maxRecDepth 100000 in
theorem bsearch_any (l : List Sb) (id : Int) (v : Value) (w : World) (h : SubsAt w w.heap.size v l) (hup : RisingS l) (hn : l.length ≤ 8) :
    Calls Tryz.prog 51 #[v, .int .i64 id, .func (.func 52) #[] #[]] w fun e w' => e = .returned (.tuple #[.int .i64 (placeId l id), .bool (l.any fun s => s.id == id)]) ∧ Below w.heap.size w w' := by
  have HS := hide h
  obtain ⟨a, c, rfl, hx⟩ := h
  have HX := hide hx
  have HC := hide (count_split hup id)
  have hple : placeId l id ≤ l.length := List.countP_le_length
  clear hx
  obtain ⟨n, hnl⟩ : ∃ n, l.length = n := ⟨_, rfl⟩
  have HN := hide hnl
  obtain ⟨P, hP⟩ : ∃ P, placeId l id = P := ⟨_, rfl⟩
  obtain ⟨F, hF⟩ : ∃ F, (l.any fun s => s.id == id) = F := ⟨_, rfl⟩
  have HA : Hid _ := hide (any_at hup id)
  rw [hF] at HA ⊢
  clear hF
  rw [hP] at HC hple HA ⊢
  rw [hnl] at hn hple ⊢
  clear hnl hP
  go_enter Tryz.func51, Tryz.ntmps51
  go_wp2_with fail
  go_loopw [9, 10] (fun i j wr => ∃ (lo hi : Nat), i = .int .i64 lo ∧ j = .int .i64 hi ∧ lo ≤ P ∧ P ≤ hi ∧ hi ≤ n ∧ Hid (Below w.heap.size w wr)) (fun i j _ => (intOf j).toNat - (intOf i).toNat)
  case atStart => exact ⟨0, n, rfl, rfl, Nat.zero_le _, hple, Nat.le_refl _, hide (Below.refl _ _)⟩
  case round =>
    obtain ⟨lo, hi, rfl, rfl, h1, h2, h3, HB⟩ := hrel
    by_cases hlt : lo < hi
    · obtain ⟨m, hm⟩ : ∃ m, (lo + hi) / 2 = m := ⟨_, rfl⟩
      have hm1 : lo ≤ m := by omega
      have hm2 : m < hi := by omega
      have hmi : ((lo : Int) + (hi : Int)) / 2 = (m : Int) := by omega
      obtain ⟨s, hs⟩ : ∃ s, l[m]? = some s := ⟨_, List.getElem?_eq_getElem (by have := unhide HN; omega)⟩
      obtain ⟨g, rfl, glt, s0, s1, s2⟩ := unhide HX m s hs
      obtain ⟨hcB, hfB⟩ := bcell (unhide HB)
      rw [← hcB g (m * 3) glt] at s0
      rw [← hcB g (m * 3 + 1) glt] at s1
      rw [← hcB g (m * 3 + 2) glt] at s2
      have hCm := unhide HC m s hs
      have m0 : (0 : Int) ≤ (m : Int) := by omega
      have m1 : (m : Int) < (n : Int) := by omega
      have CM := hide (fun w => subCmp_any s.id id (.pointer s.core) (.slice s.row s.len s.cap) w)
      clear hcB hfB hs hm
      by_cases hsi : s.id < id
      · have hd : decide (cmpI s.id id < 0) = true := decide_eq_true (by unfold cmpI; rw [if_pos hsi]; decide)
        have hmP := hCm.1 hsi
        generalize cmpI s.id id = z at *
        go_wp2_with (go_at_call 52; refine (unhide CM _).mono ?_; rintro e w2 ⟨rfl, hb2⟩; have B2 := hide (below_any (unhide HB) hb2); clear hb2)
        exact ⟨⟨m + 1, hi, rfl, rfl, by omega, h2, h3, B2⟩, by simp [intOf]; omega⟩
      · have hd : decide (cmpI s.id id < 0) = false := decide_eq_false (by unfold cmpI; rw [if_neg hsi]; split <;> decide)
        have hmP : P ≤ m := by
          rcases Nat.lt_or_ge m P with hh | hh
          · exact absurd (hCm.2 hh) hsi
          · exact hh
        generalize cmpI s.id id = z at *
        go_wp2_with (go_at_call 52; refine (unhide CM _).mono ?_; rintro e w2 ⟨rfl, hb2⟩; have B2 := hide (below_any (unhide HB) hb2); clear hb2)
        exact ⟨⟨lo, m, rfl, rfl, h1, hmP, by omega, B2⟩, by simp [intOf]; omega⟩
    · obtain rfl : lo = P := by omega
      obtain rfl : hi = lo := by omega
      by_cases hPn : hi < n
      · obtain ⟨s, hs⟩ : ∃ s, l[hi]? = some s := ⟨_, List.getElem?_eq_getElem (by have := unhide HN; omega)⟩
        obtain ⟨g, rfl, glt, s0, s1, s2⟩ := unhide HX hi s hs
        obtain ⟨hcB, hfB⟩ := bcell (unhide HB)
        rw [← hcB g (hi * 3) glt] at s0
        rw [← hcB g (hi * 3 + 1) glt] at s1
        rw [← hcB g (hi * 3 + 2) glt] at s2
        have p0 : (0 : Int) ≤ (hi : Int) := by omega
        have p1 : (hi : Int) < (n : Int) := by omega
        have CM := hide (fun w => subCmp_any s.id id (.pointer s.core) (.slice s.row s.len s.cap) w)
        have HF : Hid (F = (s.id == id)) := hide (by rw [unhide HA, hs])
        have hz : (cmpI s.id id == 0) = (s.id == id) := by
          unfold cmpI
          rcases Int.lt_trichotomy s.id id with h | h | h
          · rw [if_pos h]; simp; omega
          · simp [h]
          · rw [if_neg (by omega), if_pos h]; simp; omega
        generalize cmpI s.id id = z at *
        clear hcB hfB hs
        go_wp2_with (go_at_call 52; refine (unhide CM _).mono ?_; rintro e w2 ⟨rfl, hb2⟩; have B2 := hide (below_any (unhide HB) hb2); clear hb2)
        go_ret2
        exact ⟨by rw [unhide HF]; first | rfl | (rw [← hz]; rfl) | simp [hz], unhide B2⟩
      · have HF : Hid (F = false) := hide (by rw [unhide HA, List.getElem?_eq_none (by have := unhide HN; omega)])
        go_wp2_with fail
        go_ret2
        exact ⟨by rw [unhide HF]; rfl, unhide HB⟩
end

section
variable {P : Program}

def putAt (cur : Array Value) (o : Nat) (cs : List Value) : Array Value := (cur.toList.take o ++ cs ++ cur.toList.drop (o + cs.length)).toArray
theorem putAt_size {cur : Array Value} {o : Nat} {cs : List Value} (h : o + cs.length ≤ cur.size) : (putAt cur o cs).size = cur.size := by
  simp [putAt]
  omega
theorem putAt_toList (cur : Array Value) (o : Nat) (cs : List Value) : (putAt cur o cs).toList = cur.toList.take o ++ cs ++ cur.toList.drop (o + cs.length) := by
  simp [putAt]

theorem run_copy_rowK (w : World) (dT sT ty elem : TypeId) (K g o dLen dCap n : Nat) (a : Addr) (sLen sCap : Nat) (cur : Array Value) (t : TypeId) (cs : List Value)
    (hu : P.underlying dT = some (.slice elem)) (hs : (P.info? elem).map (·.size) = some K)
    (hg : w.heap[g]? = some (.cells cur t (0, 0))) (hn : n = Nat.min sLen dLen) (hl : cs.length = n * K)
    (hsrc : ∀ j v, cs[j]? = some v → w.cell? (a.add j) = some v) (hfit : o + cs.length ≤ cur.size) (h1 : ∀ v ∈ cs, v.oneCell' = true) :
    (Builtin.copy_ #[dT, sT] ty #[.slice (some ⟨g, o, none⟩) dLen dCap, .slice (some a) sLen sCap]).run P w = .ok (goInt n) (w.setRow g (putAt cur o cs)) := by
  have hld := run_loadCells_list (P := P) w a cs hsrc
  have hst := run_storeCells_at P g o t cs 0 cur w hg (by simpa using hfit) h1
  simp only [Nat.add_zero] at hst
  cases hq : P.info? elem with
  | none => simp [hq] at hs
  | some i =>
    have hi : i.size = K := by simpa [hq] using hs
    simp [Builtin.copy_, run_underlying hu, Builtin.lenOf, Builtin.firstCells, sizeOf, typeInfo, hq, hi, ← hn, ← hl, hld, hst, putAt]

theorem run_append_roomK (w : World) (t ty elem : TypeId) (i0 : TypeInfo) (K g n cap m c : Nat) (a : Addr) (cur : Array Value) (tt : TypeId) (cs : List Value)
    (hu : P.underlying t = some (.slice elem)) (hi : P.info? elem = some i0) (hk : i0.size = K)
    (hg : w.heap[g]? = some (.cells cur tt (0, 0))) (hl : cs.length = m * K) (hroom : n + m ≤ cap)
    (hsrc : ∀ j v, cs[j]? = some v → w.cell? (a.add j) = some v) (hfit : n * K + cs.length ≤ cur.size) (h1 : ∀ v ∈ cs, v.oneCell' = true) :
    (Builtin.append_ #[t, t] ty #[.slice (some ⟨g, 0, none⟩) n cap, .slice (some a) m c]).run P w = .ok (.slice (some ⟨g, 0, none⟩) (n + m) cap) (w.setRow g (putAt cur (n * K) cs)) := by
  have hld := run_loadCells_list (P := P) w a cs hsrc
  have hst := run_storeCells_at P g (n * K) tt cs 0 cur w hg (by simpa using hfit) h1
  simp only [Nat.add_zero] at hst
  have hadd : (⟨g, 0, none⟩ : Addr).add (n * K) = ⟨g, n * K, none⟩ := by unfold Addr.add; split <;> simp_all
  simp [Builtin.append_, run_underlying hu, Builtin.lenOf, Builtin.firstCells, sizeOf, typeInfo, hi, hk, hroom, ← hl, hld, hadd, hst, putAt]

theorem zeroCells_length (z : Array Value) (n : Nat) : (Builtin.zeroCells z n).toList.length = n * z.size := by simp [Builtin.zeroCells]
theorem zeroCells_one {z : Array Value} (n : Nat) (h : ∀ v ∈ z, v.oneCell' = true) : ∀ v ∈ (Builtin.zeroCells z n).toList, v.oneCell' = true := by
  intro v hv
  simp [Builtin.zeroCells] at hv
  obtain ⟨i, hi, rfl⟩ := hv
  have hz : 0 < z.size := by
    rcases Nat.eq_zero_or_pos z.size with e | e
    · rw [e] at hi; omega
    · exact e
  have := Nat.mod_lt i hz
  rw [getElem!_pos z (i % z.size) this]
  exact h _ (Array.getElem_mem _)

theorem run_clearK (w : World) (t elem ty : TypeId) (z : Value) (K g o n c : Nat) (cur : Array Value) (tt : TypeId)
    (hu : P.underlying t = some (.slice elem)) (hv : ∀ w, (zeroValue elem).run P w = .ok z w) (hzs : z.cells.size = K) (h1 : ∀ v ∈ z.cells, v.oneCell' = true)
    (hg : w.heap[g]? = some (.cells cur tt (0, 0))) (hfit : o + (n + 1) * K ≤ cur.size) :
    (Builtin.clear_ #[t] ty #[.slice (some ⟨g, o, none⟩) (n + 1) c]).run P w = .ok (.tuple #[]) (w.setRow g (putAt cur o (Builtin.zeroCells z.cells (n + 1)).toList)) := by
  have hst := run_storeCells_at P g o tt (Builtin.zeroCells z.cells (n + 1)).toList 0 cur w hg (by rw [zeroCells_length, hzs]; simpa using hfit) (zeroCells_one _ h1)
  simp only [Nat.add_zero] at hst
  simp [Builtin.clear_, run_underlying hu, hv, hst, putAt]

theorem ownsRow_cur {w : World} {base : Nat} {e : TypeId} {size g n cap : Nat} {xs : List Value} (h : w.ownsRow base e size (.slice (some ⟨g, 0, none⟩) n cap) n xs) : base ≤ g ∧ n ≤ cap ∧ cap ≤ maxLen ∧ ∃ cur, w.heap[g]? = some (.cells cur e (0, 0)) ∧ cur.size = cap * size ∧ cur.toList.take (n * size) = xs := by
  rcases h.2 with ⟨hv, _⟩ | ⟨g', cap', cur0, hv, hb, hh, hnc, hcm, hcs, hx⟩
  · simp at hv
  · simp at hv
    obtain ⟨rfl, rfl⟩ := hv
    exact ⟨hb, hnc, hcm, cur0, hh, hcs, hx⟩

theorem grownBy_setRow (w : World) (g : Nat) (cur : Array Value) : w.grownBy (w.setRow g cur) (some g) := ⟨rfl, rfl, rfl, by simp, fun k _ hk => setRow_other w g k cur (fun e => hk (by rw [e]))⟩
theorem grownBy_trans {a b c : World} {r : Option Nat} (h : a.grownBy b r) (k : b.grownBy c r) : a.grownBy c r := ⟨k.os.trans h.os, k.tape.trans h.tape, k.output.trans h.output, Nat.le_trans h.size k.size, fun i h1 h2 => (k.block i (Nat.lt_of_lt_of_le h1 h.size) h2).trans (h.block i h1 h2)⟩
/-- What is written in a new block is no matter of the old ones. -/
theorem grownBy_new {a b c : World} {r : Option Nat} {g : Nat} (h : a.grownBy b r) (k : b.grownBy c (some g)) (hg : a.heap.size ≤ g) : a.grownBy c r := ⟨k.os.trans h.os, k.tape.trans h.tape, k.output.trans h.output, Nat.le_trans h.size k.size, fun i h1 h2 => (k.block i (Nat.lt_of_lt_of_le h1 h.size) (fun e => by simp at e; omega)).trans (h.block i h1 h2)⟩
end

section
attribute [local go_sem ↓] app_fold

def sbsCells (l : List Sb) : List Value := l.flatMap sbCells
theorem sbsCells_length (l : List Sb) : (sbsCells l).length = l.length * 3 := by
  induction l with
  | nil => rfl
  | cons a r ih => rw [sbsCells, List.flatMap_cons, List.length_append, ← sbsCells, ih]; simp [sbCells]; omega
theorem sbsCells_append (a b : List Sb) : sbsCells (a ++ b) = sbsCells a ++ sbsCells b := List.flatMap_append
theorem sbsCells_take (l : List Sb) (k : Nat) (hk : k ≤ l.length) : sbsCells (l.take k) = (sbsCells l).take (k * 3) := by
  have h := sbsCells_append (l.take k) (l.drop k)
  rw [List.take_append_drop] at h
  rw [h]
  exact (List.take_left' (by rw [sbsCells_length, List.length_take]; omega)).symm
theorem sbsCells_drop (l : List Sb) (k : Nat) (hk : k ≤ l.length) : sbsCells (l.drop k) = (sbsCells l).drop (k * 3) := by
  have h := sbsCells_append (l.take k) (l.drop k)
  rw [List.take_append_drop] at h
  rw [h]
  exact (List.drop_left' (by rw [sbsCells_length, List.length_take]; omega)).symm
theorem sbsCells_one (l : List Sb) : ∀ v ∈ sbsCells l, v.oneCell' = true := by
  intro v hv
  obtain ⟨s, _, hs⟩ := List.mem_flatMap.1 hv
  simp [sbCells] at hs
  rcases hs with rfl | rfl | rfl <;> rfl
theorem info_sb : (Tryz.prog.info? 83).map (fun i => (i.zero, i.size, i.bytes)) = some (some (.agg #[.int .i64 0, .pointer none, .slice none 0 0]), 3, 40) := by kernel_rfl

/-- The row of subscriptions that a slice owns. -/
abbrev SbRow (w : World) (base : Nat) (v : Value) (l : List Sb) : Prop := w.ownsRow base 83 3 v l.length (sbsCells l)
def insL (l : List Sb) (k : Nat) (s : Sb) : List Sb := l.take k ++ s :: l.drop k
theorem insL_length (l : List Sb) (k : Nat) (s : Sb) : (insL l k s).length = l.length + 1 := by simp [insL]; omega

theorem row_forms {w : World} {base size n : Nat} {e : TypeId} {v : Value} {xs : List Value} (h : w.ownsRow base e size v n xs) : (v = .slice none 0 0 ∧ n = 0) ∨ ∃ g cap, v = .slice (some ⟨g, 0, none⟩) n cap := by
  rcases h.2 with ⟨h1, h2⟩ | ⟨g, cap, cur, rfl, _⟩
  · exact .inl ⟨h1, h2⟩
  · exact .inr ⟨g, cap, rfl⟩

/-- How Insert ends. -/
def InsEnds (w : World) (base : Nat) (v : Value) (l : List Sb) (e : Ending) (w' : World) : Prop := ∃ g cap, e = .returned (.slice (some ⟨g, 0, none⟩) l.length cap) ∧ SbRow w' base (.slice (some ⟨g, 0, none⟩) l.length cap) l ∧ w.grownBy w' v.ownBlock ∧ (v.ownBlock = some g ∨ w.heap.size ≤ g)

theorem app_sb {w : World} {base vb : Nat} {v : Value} {l : List Sb} {s : Sb} (hn : l.length ≤ 1000) (h : SbRow w base v l) (hv : w.heap[vb]? = some (.cells (sbCells s).toArray 83 (0, 0))) (hbase : base ≤ w.heap.size) (ty : TypeId) :
    ∃ g cap w', (appSem #[62, 62] ty #[v, .slice (some ⟨vb, 0, none⟩) 1 1]).run Tryz.prog w = .ok (.slice (some ⟨g, 0, none⟩) (l.length + 1) cap) w' ∧ Hid (SbRow w' base (.slice (some ⟨g, 0, none⟩) (l.length + 1) cap) (l ++ [s])) ∧ Hid (w.grownBy w' v.ownBlock) ∧ Hid (v.ownBlock = some g ∨ w.heap.size ≤ g) := by
  obtain ⟨i0, hi, hz0, hz1, hz2⟩ := info_parts info_sb
  obtain ⟨g, cap, w5, hr, hown, hgrow, hat, hlt5⟩ := run_append_lies (P := Tryz.prog) w 62 ty base 83 i0 _ 3 40 Tryz.underlying62 hi hz0 hz1 hz2 rfl (by omega) v l.length (sbsCells l) h
    ⟨vb, 0, none⟩ 1 1 (sbCells s) rfl (World.news_of_block (cs := (sbCells s).toArray) (t := 83) (fr := (0, 0)) hv) (fun u hu => sbsCells_one [s] u (by simpa [sbsCells] using hu)) (by omega) (by unfold maxLen; omega) (by omega) hbase _ rfl
  refine ⟨g, cap, w5, hr, hide ?_, hide hgrow, hide ?_⟩
  · show w5.ownsRow base _ 3 _ (l ++ [s]).length (sbsCells (l ++ [s]))
    rw [List.length_append, List.length_singleton, sbsCells_append]
    have e : sbsCells [s] = sbCells s := by simp [sbsCells]
    rw [e]
    exact hown
  · rcases hat with hat | hat
    · exact .inl hat
    · exact .inr (by omega)

set_option maxHeartbeats 2000000 in
/-- At the end. -/
theorem insert_end (l : List Sb) (s : Sb) (hn : l.length ≤ 1000) (v : Value) (base vb : Nat) (w : World) (h : SbRow w base v l) (hv : w.heap[vb]? = some (.cells (sbCells s).toArray 83 (0, 0))) (hbase : base ≤ w.heap.size) :
    Calls Tryz.prog 32 #[v, .int .i64 l.length, .slice (some ⟨vb, 0, none⟩) 1 1] w (InsEnds w base v (insL l l.length s)) := by
  obtain ⟨g, cap, w5, hap, HO, HG, HA⟩ := app_sb hn h hv hbase 62
  have HE : Hid (InsEnds w base v (insL l l.length s) (.returned (.slice (some ⟨g, 0, none⟩) (l.length + 1) cap)) w5) := hide (by
    have e : insL l l.length s = l ++ [s] := by simp [insL]
    rw [e]
    refine ⟨g, cap, by simp, ?_, unhide HG, unhide HA⟩
    have := unhide HO
    rwa [List.length_append, List.length_singleton])
  have hf := row_forms h
  generalize InsEnds w base v (insL l l.length s) = Q at *
  obtain ⟨n, hnl⟩ : ∃ n, l.length = n := ⟨_, rfl⟩
  rw [hnl] at hap HE hf hn ⊢
  clear h HO HG HA hv hnl
  rcases hf with ⟨rfl, rfl⟩ | ⟨g0, c0, rfl⟩
  · go_enter Tryz.func32, Tryz.ntmps32
    go_wp2_with fail
    exact unhide HE
  · by_cases hc : c0 = n
    · subst hc
      go_enter Tryz.func32, Tryz.ntmps32
      go_wp2_with fail
      exact unhide HE
    · go_enter Tryz.func32, Tryz.ntmps32
      go_wp2_with fail
      exact unhide HE
end

section
attribute [local go_sem ↓] app_fold

def copySem (ats : Array TypeId) (ty : TypeId) (args : Array Value) : Sem Value := Builtin.copy_ ats ty args
theorem copy_fold (ats : Array TypeId) (ty : TypeId) (args : Array Value) : Builtin.copy_ ats ty args = copySem ats ty args := rfl
attribute [local go_sem ↓] copy_fold

theorem addr_off (g o j : Nat) : (⟨g, o, none⟩ : Addr).add j = ⟨g, o + j, none⟩ := by unfold Addr.add; split <;> simp_all

theorem ins_cells {l : List Sb} {k : Nat} (hk : k ≤ l.length) (s : Sb) : sbsCells (insL l k s) = (sbsCells l).take (k * 3) ++ sbCells s ++ (sbsCells l).drop (k * 3) := by
  unfold insL
  rw [sbsCells_append, sbsCells_take l k hk, ← List.singleton_append, sbsCells_append, sbsCells_drop l k hk, List.append_assoc]
  congr 2

/-- Two writings one behind the other. -/
theorem put_put {cur : Array Value} {o : Nat} {a b : List Value} (h : o + a.length + b.length ≤ cur.size) : (putAt (putAt cur o a) (o + a.length) b).toList.take (o + a.length + b.length) = cur.toList.take o ++ a ++ b := by
  rw [putAt_toList, putAt_toList]
  have h1 : (cur.toList.take o ++ a ++ cur.toList.drop (o + a.length)).take (o + a.length) = cur.toList.take o ++ a := List.take_left' (by simp; omega)
  rw [h1]
  exact List.take_left' (by simp; omega)
theorem put_put' {cur : Array Value} {o : Nat} {a b : List Value} (h : o + a.length + b.length ≤ cur.size) : (putAt (putAt cur (o + a.length) b) o a).toList.take (o + a.length + b.length) = cur.toList.take o ++ a ++ b := by
  rw [putAt_toList, putAt_toList]
  have h1 : (cur.toList.take (o + a.length) ++ b ++ cur.toList.drop (o + a.length + b.length)).take o = cur.toList.take o := by
    rw [List.append_assoc, List.take_append_of_le_length (by simp; omega), List.take_take]
    congr 1
    omega
  have h2 : (cur.toList.take (o + a.length) ++ b ++ cur.toList.drop (o + a.length + b.length)).drop (o + a.length) = b ++ cur.toList.drop (o + a.length + b.length) := by
    rw [List.append_assoc]
    exact List.drop_left' (by simp; omega)
  rw [h1, h2, ← List.append_assoc]
  exact List.take_left' (by simp; omega)

theorem sb_src {w : World} {base g n cap : Nat} {xs : List Value} {e : TypeId} (h : w.ownsRow base e 3 (.slice (some ⟨g, 0, none⟩) n cap) n xs) (k : Nat) : ∀ j v, (xs.drop k)[j]? = some v → w.cell? ((⟨g, k, none⟩ : Addr).add j) = some v := by
  intro j v hj
  rw [List.getElem?_drop] at hj
  have := World.ownsRow.cells h (g := g) rfl (k + j) v hj
  rw [addr_off] at this ⊢
  rw [Nat.zero_add] at this
  exact this

/-- The road without room: what the three writings are. -/
theorem ins_grow {w : World} {base g n c k vb : Nat} {l : List Sb} {s : Sb} (hn : l.length = n) (h : SbRow w base (.slice (some ⟨g, 0, none⟩) n c) l) (hk : k < n) (hc : c = n) (hn8 : n ≤ 1000) (hv : w.heap[vb]? = some (.cells (sbCells s).toArray 83 (0, 0))) (hbase : base ≤ w.heap.size) :
    ∃ H G w5 w6 w7, (appSem #[62, 3] 62 #[.slice (some ⟨g, 0, none⟩) k c, .int .i64 ((n : Int) + 1 - (k : Int))]).run Tryz.prog w = .ok (.slice (some ⟨H, 0, none⟩) (n + 1) G) w5 ∧
      (∀ ty dc, (copySem #[62, 62] ty #[.slice (some ⟨H, k * 3, none⟩) (n + 1 - k) dc, .slice (some ⟨vb, 0, none⟩) 1 1]).run Tryz.prog w5 = .ok (goInt 1) w6) ∧
      (∀ ty dc sc, (copySem #[62, 62] ty #[.slice (some ⟨H, (k + 1) * 3, none⟩) (n - k) dc, .slice (some ⟨g, k * 3, none⟩) (n - k) sc]).run Tryz.prog w6.drew = .ok (goInt ((n - k : Nat) : Int)) w7) ∧
      n + 1 ≤ G ∧ G ≤ maxLen ∧ Hid (SbRow w7 base (.slice (some ⟨H, 0, none⟩) (n + 1) G) (insL l k s)) ∧ Hid (w.grownBy w7 (some g)) ∧ Hid (w.heap.size ≤ H) := by
  subst hc
  obtain ⟨i0, hi, hz0, hz1, hz2⟩ := info_parts info_sb
  have h' : w.ownsRow base 83 3 (.slice (some ⟨g, 0, none⟩) c c) c (sbsCells l) := by have := h; unfold SbRow at this; rwa [hn] at this
  obtain ⟨hbg, _, hcm, cur, hcur, hcs, hct⟩ := ownsRow_cur h'
  have hsz : (Tryz.prog.info? 83).map (·.size) = some 3 := by rw [hi]; simp [hz1]
  have hgl : g < w.heap.size := (Array.getElem?_eq_some_iff.1 hcur).1
  have hvl : vb < w.heap.size := (Array.getElem?_eq_some_iff.1 hv).1
  have hll := sbsCells_length l
  rw [hn] at hll
  have hkl : ((sbsCells l).take (k * 3)).length = k * 3 := by rw [List.length_take]; omega
  have hdl : ((sbsCells l).drop (k * 3)).length = (c - k) * 3 := by rw [List.length_drop, hll]; omega
  have hold : (Builtin.firstCells i0.size k (.slice (some ⟨g, 0, none⟩) k c)).run Tryz.prog w.drew = .ok ((sbsCells l).take (k * 3)).toArray w.drew := by
    rw [hz1]
    exact run_firstCells_some w.drew 3 k ⟨g, 0, none⟩ k c ((sbsCells l).take (k * 3)) hkl (fun j v hj => by
      rw [List.getElem?_take] at hj
      split at hj
      · exact World.ownsRow.cells h' (g := g) rfl j v hj
      · cases hj)
  have hz := Lib.run_append_grow_zeros w 62 3 62 83 i0 _ .i64 .i64 Tryz.underlying62 Tryz.underlying3 hi hz0 (some ⟨g, 0, none⟩) k c ((sbsCells l).take (k * 3)) hold (c + 1 - k) (by omega) (by omega) (by omega) (by omega) (by rw [hz2]; omega) (by rw [hz2, show k + (c + 1 - k) = c + 1 by omega]; exact growslice_fits (by omega) (by omega))
  rw [show k + (c + 1 - k) = c + 1 by omega, show ((c + 1 - k : Nat) : Int) = (c : Int) + 1 - (k : Int) by omega] at hz
  have hG1 : c + 1 ≤ grownCap w (c + 1) c 83 := grownCap_ge w _ _ _
  have hG2 : grownCap w (c + 1) c 83 ≤ maxLen := grownCap_le_maxLen w (c + 1) c 83 (by unfold maxLen; omega)
  generalize grownCap w (c + 1) c 83 = G at *
  obtain ⟨ROW, hROW⟩ : ∃ ROW : Array Value, ROW = ((sbsCells l).take (k * 3)).toArray ++ Builtin.zeroCells (Value.cells (.agg #[.int .i64 0, .pointer none, .slice none 0 0])) (c + 1 - k) ++ Builtin.zeroCells (Value.cells (.agg #[.int .i64 0, .pointer none, .slice none 0 0])) (G - (c + 1)) := ⟨_, rfl⟩
  rw [← hROW] at hz
  have hcz : (Value.cells (.agg #[.int .i64 0, .pointer none, .slice none 0 0])).size = 3 := by decide +kernel
  have hRs : ROW.size = G * 3 := by
    rw [hROW]
    simp only [Array.size_append, List.size_toArray, hkl, Builtin.zeroCells, Array.size_map, Array.size_range, hcz]
    omega
  have hRt : ROW.toList.take (k * 3) = (sbsCells l).take (k * 3) := by
    rw [hROW]
    simp only [Array.toList_append, List.append_assoc]
    exact List.take_left' hkl
  have hnew : (w.drew.alloc (.cells ROW 83)).heap[w.heap.size]? = some (.cells ROW 83 (0, 0)) := heap_alloc_new w.drew _
  have hsl : (sbCells s).length = 3 := rfl
  have B0 : Below w.heap.size w (w.drew.alloc (.cells ROW 83)) := (Below.refl _ _).drew.alloc (Nat.le_refl _) _
  obtain ⟨bc, _⟩ := bcell B0
  have hA := fun ty dc => run_copy_rowK (P := Tryz.prog) (w.drew.alloc (.cells ROW 83)) 62 62 ty 83 3 w.heap.size (k * 3) (c + 1 - k) dc 1 ⟨vb, 0, none⟩ 1 1 ROW _ (sbCells s) Tryz.underlying62 hsz hnew (by simp only [Nat.min_def]; split <;> omega) hsl
    (fun j v hj => by
      rw [addr_off, bc vb _ hvl]
      have := World.news_of_block (w := w) (cs := (sbCells s).toArray) (t := 83) (fr := (0, 0)) hv j v (by simpa using hj)
      rw [addr_off] at this
      exact this) (by rw [hsl, hRs]; omega) (fun u hu => sbsCells_one [s] u (by simpa [sbsCells] using hu))
  have h6 : ((w.drew.alloc (.cells ROW 83)).setRow w.heap.size (putAt ROW (k * 3) (sbCells s))).heap[w.heap.size]? = some (.cells (putAt ROW (k * 3) (sbCells s)) 83 (0, 0)) := setRow_heap _ _ _ _ _ _ hnew
  have hps : (putAt ROW (k * 3) (sbCells s)).size = G * 3 := by rw [putAt_size (by rw [hsl, hRs]; omega), hRs]
  have hB := fun ty dc sc => run_copy_rowK (P := Tryz.prog) ((w.drew.alloc (.cells ROW 83)).setRow w.heap.size (putAt ROW (k * 3) (sbCells s))).drew 62 62 ty 83 3 w.heap.size ((k + 1) * 3) (c - k) dc (c - k) ⟨g, k * 3, none⟩ (c - k) sc (putAt ROW (k * 3) (sbCells s)) _ ((sbsCells l).drop (k * 3)) Tryz.underlying62 hsz h6 (by simp only [Nat.min_def]; split <;> omega) hdl
    (fun j v hj => by
      have := sb_src h' (k * 3) j v hj
      rw [addr_off] at this ⊢
      show ((w.drew.alloc (.cells ROW 83)).setRow w.heap.size (putAt ROW (k * 3) (sbCells s))).cell? _ = _
      rw [cell_setRow_other _ _ _ _ (by show g ≠ _; omega), bc g _ hgl]
      exact this) (by rw [hdl, hps]; omega) (fun u hu => sbsCells_one l u (List.mem_of_mem_drop hu))
  refine ⟨w.heap.size, G, _, _, _, hz, hA, hB, hG1, hG2, hide ?_, hide ?_, hide (Nat.le_refl _)⟩
  · show World.ownsRow _ base _ 3 _ (insL l k s).length (sbsCells (insL l k s))
    rw [insL_length, hn, ins_cells (by omega)]
    refine ⟨by simp only [List.length_append, hkl, hdl, hsl]; omega, .inr ⟨w.heap.size, G, _, rfl, hbase, setRow_heap _ _ _ _ _ _ h6, hG1, hG2, ?_, ?_⟩⟩
    · rw [putAt_size (by rw [hdl, hps]; omega), hps]
    · have := put_put (cur := ROW) (o := k * 3) (a := sbCells s) (b := (sbsCells l).drop (k * 3)) (by rw [hsl, hdl, hRs]; omega)
      rw [hsl, hdl, hRt] at this
      rw [show (c + 1) * 3 = k * 3 + 3 + (c - k) * 3 by omega, show (k + 1) * 3 = k * 3 + 3 by omega]
      exact this
  · refine grownBy_new (g := w.heap.size) (b := w.drew.alloc (.cells ROW 83)) ⟨B0.os, B0.tape, B0.output, B0.size, fun i h1 _ => B0.block i h1⟩ ?_ (Nat.le_refl _)
    have g1 := grownBy_setRow (w.drew.alloc (.cells ROW 83)) w.heap.size (putAt ROW (k * 3) (sbCells s))
    exact grownBy_trans (b := ((w.drew.alloc (.cells ROW 83)).setRow w.heap.size (putAt ROW (k * 3) (sbCells s))).drew) ⟨g1.os, g1.tape, g1.output, g1.size, g1.block⟩ (grownBy_setRow _ _ _)

set_option maxHeartbeats 2000000 in
set_option maxRecDepth 100000 in
theorem insert_grow (l : List Sb) (s : Sb) (n k c g : Nat) (hn : l.length = n) (base vb : Nat) (w : World) (h : SbRow w base (.slice (some ⟨g, 0, none⟩) n c) l) (hk : k < n) (hc : c = n) (hn8 : n ≤ 1000) (hv : w.heap[vb]? = some (.cells (sbCells s).toArray 83 (0, 0))) (hbase : base ≤ w.heap.size) :
    Calls Tryz.prog 32 #[.slice (some ⟨g, 0, none⟩) n c, .int .i64 k, .slice (some ⟨vb, 0, none⟩) 1 1] w (InsEnds w base (.slice (some ⟨g, 0, none⟩) n c) (insL l k s)) := by
  obtain ⟨H, G, w5, w6, w7, hap, hcA, hcB, hG1, hG2, HO, HG, HA⟩ := ins_grow hn h hk hc hn8 hv hbase
  have HE : Hid (InsEnds w base (.slice (some ⟨g, 0, none⟩) n c) (insL l k s) (.returned (.slice (some ⟨H, 0, none⟩) (n + 1) G)) w7) := hide (by
    have e : (insL l k s).length = n + 1 := by rw [insL_length, hn]
    refine ⟨H, G, by rw [e], ?_, unhide HG, .inr (unhide HA)⟩
    have := unhide HO
    rwa [e])
  generalize InsEnds w base (.slice (some ⟨g, 0, none⟩) n c) (insL l k s) = Q at *
  subst hc
  unfold maxLen at hG2
  have hz2 : ¬ ((k : Int) = (c : Int)) := by omega
  have hz3 : (c : Int) < (c : Int) + 1 := by omega
  have hw1 : IntKind.i64.wrap ((k : Int) + 1) = (k : Int) + 1 := by rw [IntKind.wrap_i64]; omega
  have hw2 : IntKind.i64.wrap ((c : Int) + 1) = (c : Int) + 1 := by rw [IntKind.wrap_i64]; omega
  have hw3 : IntKind.i64.wrap ((c : Int) + 1 - (k : Int)) = (c : Int) + 1 - (k : Int) := by rw [IntKind.wrap_i64]; omega
  have hb0 : (0 : Int) ≤ (k : Int) := by omega
  have hb1 : (0 : Int) ≤ (k : Int) + 1 := by omega
  have hin : k ≤ c := by omega
  have hin2 : (k : Int) ≤ (c : Int) := by omega
  have htn : ((k : Int) + 1).toNat = k + 1 := by omega
  have hGi : ¬ (G = k) := by omega
  have hGim : ¬ (G = k + 1) := by omega
  have hci : ¬ (c = k) := by omega
  clear h HO HG HA hv hn
  go_enter Tryz.func32, Tryz.ntmps32
  go_wp2_with fail
  go_region
  all_goals go_wp2_with fail
  all_goals exact unhide HE
end

section
attribute [local go_sem ↓] app_fold
attribute [local go_sem ↓] copy_fold

theorem overlaps_sb {w : World} {g vb o lb cb cap : Nat} {cur : Array Value} {s : Sb} (hne : vb ≠ g) (hv : w.heap[vb]? = some (.cells (sbCells s).toArray 83 (0, 0))) (hg : w.heap[g]? = some (.cells cur 83 (0, 0))) (hc : cur.size = cap) (hc0 : cap ≠ 0) :
    (callFunc 59 #[.slice (some ⟨vb, 0, none⟩) 1 1, .slice (some ⟨g, o, none⟩) lb cb]).run Tryz.prog w = .ok (.value (.bool false)) w := by
  obtain ⟨i0, hi, hz0, hz1, hz2⟩ := info_parts info_sb
  have hz : ∀ w, (Go.sizeOf 83).run Tryz.prog w = .ok 3 w := fun w => by simp [sizeOf, typeInfo, hi, hz1]
  rw [run_callFunc_extern Tryz.func59 (by kernel_rfl) (by kernel_rfl) (by kernel_rfl) (e := Extern.SlicesOverlaps.overlaps #[62, 62] #[4]) (by kernel_rfl),
    Lib.run_overlaps_apart w 62 4 83 Tryz.underlying62 3 hz ⟨vb, 0, none⟩ ⟨g, o, none⟩ 1 1 lb cb hne 83 83 3 cap (by simp [World.shape?, hv, sbCells]) (by simp [World.shape?, hg, hc]) hc0 (by simp [World.frozen?, hv]) (by simp [World.frozen?, hv])]
  rfl

theorem ins_room {w : World} {base g n c k vb : Nat} {l : List Sb} {s : Sb} (hn : l.length = n) (h : SbRow w base (.slice (some ⟨g, 0, none⟩) n c) l) (hk : k < n) (hc : n < c) (hne : vb ≠ g) (hv : w.heap[vb]? = some (.cells (sbCells s).toArray 83 (0, 0))) :
    ∃ w6 w7, (∀ o lb cb, (callFunc 59 #[.slice (some ⟨vb, 0, none⟩) 1 1, .slice (some ⟨g, o, none⟩) lb cb]).run Tryz.prog w = .ok (.value (.bool false)) w) ∧
      (∀ ty dc sc, (copySem #[62, 62] ty #[.slice (some ⟨g, (k + 1) * 3, none⟩) (n - k) dc, .slice (some ⟨g, k * 3, none⟩) (n + 1 - k) sc]).run Tryz.prog w.drew = .ok (goInt ((n - k : Nat) : Int)) w6) ∧
      (∀ ty dc, (copySem #[62, 62] ty #[.slice (some ⟨g, k * 3, none⟩) (n + 1 - k) dc, .slice (some ⟨vb, 0, none⟩) 1 1]).run Tryz.prog w6 = .ok (goInt 1) w7) ∧
      c ≤ maxLen ∧ Hid (SbRow w7 base (.slice (some ⟨g, 0, none⟩) (n + 1) c) (insL l k s)) ∧ Hid (w.grownBy w7 (some g)) := by
  obtain ⟨i0, hi, hz0, hz1, hz2⟩ := info_parts info_sb
  have h' : w.ownsRow base 83 3 (.slice (some ⟨g, 0, none⟩) n c) n (sbsCells l) := by have := h; unfold SbRow at this; rwa [hn] at this
  obtain ⟨hbg, _, hcm, cur, hcur, hcs, hct⟩ := ownsRow_cur h'
  have hsz : (Tryz.prog.info? 83).map (·.size) = some 3 := by rw [hi]; simp [hz1]
  have hll := sbsCells_length l
  rw [hn] at hll
  have hkl : ((sbsCells l).take (k * 3)).length = k * 3 := by rw [List.length_take]; omega
  have hdl : ((sbsCells l).drop (k * 3)).length = (n - k) * 3 := by rw [List.length_drop, hll]; omega
  have hsl : (sbCells s).length = 3 := rfl
  have hA := fun ty dc sc => run_copy_rowK (P := Tryz.prog) w.drew 62 62 ty 83 3 g ((k + 1) * 3) (n - k) dc (n - k) ⟨g, k * 3, none⟩ (n + 1 - k) sc cur _ ((sbsCells l).drop (k * 3)) Tryz.underlying62 hsz hcur (by simp only [Nat.min_def]; split <;> omega) hdl
    (fun j v hj => sb_src h' (k * 3) j v hj) (by rw [hdl, hcs]; omega) (fun u hu => sbsCells_one l u (List.mem_of_mem_drop hu))
  have h6 : (w.drew.setRow g (putAt cur ((k + 1) * 3) ((sbsCells l).drop (k * 3)))).heap[g]? = some (.cells (putAt cur ((k + 1) * 3) ((sbsCells l).drop (k * 3))) 83 (0, 0)) := setRow_heap _ _ _ _ _ _ hcur
  have hps : (putAt cur ((k + 1) * 3) ((sbsCells l).drop (k * 3))).size = c * 3 := by rw [putAt_size (by rw [hdl, hcs]; omega), hcs]
  have hB := fun ty dc => run_copy_rowK (P := Tryz.prog) (w.drew.setRow g (putAt cur ((k + 1) * 3) ((sbsCells l).drop (k * 3)))) 62 62 ty 83 3 g (k * 3) (n + 1 - k) dc 1 ⟨vb, 0, none⟩ 1 1 (putAt cur ((k + 1) * 3) ((sbsCells l).drop (k * 3))) _ (sbCells s) Tryz.underlying62 hsz h6 (by simp only [Nat.min_def]; split <;> omega) hsl
    (fun j v hj => by
      rw [addr_off, cell_setRow_other _ _ _ _ (by show vb ≠ g; exact hne)]
      have := World.news_of_block (w := w) (cs := (sbCells s).toArray) (t := 83) (fr := (0, 0)) hv j v (by simpa using hj)
      rw [addr_off] at this
      exact this) (by rw [hsl, hps]; omega) (fun u hu => sbsCells_one [s] u (by simpa [sbsCells] using hu))
  refine ⟨_, _, fun o lb cb => overlaps_sb hne hv hcur hcs (by omega), hA, hB, hcm, hide ?_, hide ?_⟩
  · show World.ownsRow _ base _ 3 _ (insL l k s).length (sbsCells (insL l k s))
    rw [insL_length, hn, ins_cells (by omega)]
    refine ⟨by simp only [List.length_append, hkl, hdl, hsl]; omega, .inr ⟨g, c, _, rfl, hbg, setRow_heap _ _ _ _ _ _ h6, by omega, hcm, ?_, ?_⟩⟩
    · rw [putAt_size (by rw [hsl, hps]; omega), hps]
    · have := put_put' (cur := cur) (o := k * 3) (a := sbCells s) (b := (sbsCells l).drop (k * 3)) (by rw [hsl, hdl, hcs]; omega)
      have ht : cur.toList.take (k * 3) = (sbsCells l).take (k * 3) := by
        have := congrArg (List.take (k * 3)) hct
        rw [List.take_take, Nat.min_eq_left (by omega)] at this
        exact this
      rw [hsl, hdl, ht] at this
      rw [show (n + 1) * 3 = k * 3 + 3 + (n - k) * 3 by omega, show (k + 1) * 3 = k * 3 + 3 by omega]
      exact this
  · have g1 := grownBy_setRow w g (putAt cur ((k + 1) * 3) ((sbsCells l).drop (k * 3)))
    exact grownBy_trans (b := w.drew.setRow g (putAt cur ((k + 1) * 3) ((sbsCells l).drop (k * 3)))) ⟨g1.os, g1.tape, g1.output, g1.size, g1.block⟩ (grownBy_setRow _ _ _)

set_option maxHeartbeats 2000000 in
set_option maxRecDepth 100000 in
theorem insert_room (l : List Sb) (s : Sb) (n k c g : Nat) (hn : l.length = n) (base vb : Nat) (w : World) (h : SbRow w base (.slice (some ⟨g, 0, none⟩) n c) l) (hk : k < n) (hc : n < c) (hn8 : n ≤ 1000) (hne : vb ≠ g) (hv : w.heap[vb]? = some (.cells (sbCells s).toArray 83 (0, 0))) :
    Calls Tryz.prog 32 #[.slice (some ⟨g, 0, none⟩) n c, .int .i64 k, .slice (some ⟨vb, 0, none⟩) 1 1] w (InsEnds w base (.slice (some ⟨g, 0, none⟩) n c) (insL l k s)) := by
  obtain ⟨w6, w7, hov, hcA, hcB, hcm, HO, HG⟩ := ins_room hn h hk hc hne hv
  have HE : Hid (InsEnds w base (.slice (some ⟨g, 0, none⟩) n c) (insL l k s) (.returned (.slice (some ⟨g, 0, none⟩) (n + 1) c)) w7) := hide (by
    have e : (insL l k s).length = n + 1 := by rw [insL_length, hn]
    refine ⟨g, c, by rw [e], ?_, unhide HG, .inl rfl⟩
    have := unhide HO
    rwa [e])
  generalize InsEnds w base (.slice (some ⟨g, 0, none⟩) n c) (insL l k s) = Q at *
  unfold maxLen at hcm
  have hz2 : ¬ ((k : Int) = (n : Int)) := by omega
  have hz3 : ¬ ((c : Int) < (n : Int) + 1) := by omega
  have hz4 : (n : Int) + 1 ≤ (c : Int) := by omega
  have hw1 : IntKind.i64.wrap ((k : Int) + 1) = (k : Int) + 1 := by rw [IntKind.wrap_i64]; omega
  have hw2 : IntKind.i64.wrap ((n : Int) + 1) = (n : Int) + 1 := by rw [IntKind.wrap_i64]; omega
  have hb0 : (0 : Int) ≤ (k : Int) := by omega
  have hb1 : (0 : Int) ≤ (k : Int) + 1 := by omega
  have hb2 : (0 : Int) ≤ (n : Int) + 1 := by omega
  have hin : k ≤ n := by omega
  have hin2 : (k : Int) ≤ (n : Int) := by omega
  have hin3 : (k : Int) ≤ (n : Int) + 1 := by omega
  have htn : ((k : Int) + 1).toNat = k + 1 := by omega
  have htn2 : ((n : Int) + 1).toNat = n + 1 := by omega
  have hci : ¬ (c = k) := by omega
  have hci1 : ¬ (c = k + 1) := by omega
  clear h HO HG hv hn
  go_enter Tryz.func32, Tryz.ntmps32
  go_wp2_with (simp only [hov])
  go_region
  all_goals go_wp2_with fail
  all_goals exact unhide HE

theorem insert_any (l : List Sb) (s : Sb) (k : Nat) (hk : k ≤ l.length) (hn8 : l.length ≤ 1000) (v : Value) (base vb : Nat) (w : World) (h : SbRow w base v l) (hne : v.ownBlock ≠ some vb) (hv : w.heap[vb]? = some (.cells (sbCells s).toArray 83 (0, 0))) (hbase : base ≤ w.heap.size) :
    Calls Tryz.prog 32 #[v, .int .i64 k, .slice (some ⟨vb, 0, none⟩) 1 1] w (InsEnds w base v (insL l k s)) := by
  by_cases he : k = l.length
  · subst he
    exact insert_end l s hn8 v base vb w h hv hbase
  · rcases row_forms h with ⟨_, h0⟩ | ⟨g, c, rfl⟩
    · omega
    · have hnc := (ownsRow_cur h).2.1
      by_cases hc : c = l.length
      · exact insert_grow l s l.length k c g rfl base vb w h (by omega) hc hn8 hv hbase
      · exact insert_room l s l.length k c g rfl base vb w h (by omega) (by omega) hn8 (fun e => hne (by rw [e]; rfl)) hv

/-- How Clone ends. -/
def ClEnds (w : World) (l : List Sb) (e : Ending) (w' : World) : Prop := ∃ v', e = .returned v' ∧ SbRow w' w.heap.size v' l ∧ Below w.heap.size w w'

theorem clone_run {w : World} {base g c : Nat} {l : List Sb} (hn : l.length ≤ 1000) (h : SbRow w base (.slice (some ⟨g, 0, none⟩) l.length c) l) :
    ∃ v' w', (appSem #[62, 62] 62 #[.slice (some ⟨w.heap.size, 0, none⟩) 0 0, .slice (some ⟨g, 0, none⟩) l.length c]).run Tryz.prog (w.alloc (.cells #[] 83)) = .ok v' w' ∧ Hid (ClEnds w l (.returned v') w') := by
  obtain ⟨i0, hi, hz0, hz1, hz2⟩ := info_parts info_sb
  have hg : g < w.heap.size := by
    obtain ⟨_, _, _, cur, hcur, _⟩ := ownsRow_cur h
    exact (Array.getElem?_eq_some_iff.1 hcur).1
  have hmade := World.ownsRow_made (base := w.heap.size) (e := 83) (size := 3) w #[] 0 (Nat.le_refl _) (Nat.zero_le _) rfl
  have h2 := h.alloc (.cells #[] 83)
  obtain ⟨v', w', hr, ho, hgr, _, _⟩ := run_append_own_at (P := Tryz.prog) (w.alloc (.cells #[] 83)) w.heap.size 62 62 83 i0 _ 3 40 Tryz.underlying62 hi hz0 hz1 hz2 rfl (by omega) _ 0 [] hmade ⟨g, 0, none⟩ l.length c (sbsCells l) (sbsCells_length l) (fun j u hj => World.ownsRow.cells h2 (g := g) rfl j u hj) (sbsCells_one l) (by unfold maxLen; omega) (by omega) (by simp)
  refine ⟨v', w', hr, hide ⟨v', rfl, ?_, ?_⟩⟩
  · show World.ownsRow _ _ _ _ _ _ _
    simpa using ho
  · refine ⟨hgr.os, hgr.tape, hgr.output, by have := hgr.size; simp at this; omega, fun k hk => (hgr.block k (by simp; omega) (fun e => ?_)).trans (Below.heap_alloc w _ k hk)⟩
    simp [Value.ownBlock] at e
    omega

set_option maxHeartbeats 2000000 in
set_option maxRecDepth 100000 in
theorem cloneSb_any (l : List Sb) (hn : l.length ≤ 1000) (v : Value) (base : Nat) (w : World) (h : SbRow w base v l) :
    Calls Tryz.prog 33 #[v] w (ClEnds w l) := by
  rcases row_forms h with ⟨rfl, h0⟩ | ⟨g, c, rfl⟩
  · have HE : Hid (ClEnds w l (.returned (.slice none 0 0)) w) := hide ⟨_, rfl, by
      have e : l = [] := List.length_eq_zero_iff.1 h0
      subst e
      exact World.ownsRow_nil _ _ _ _, Below.refl _ _⟩
    generalize ClEnds w l = Q at *
    have hq := fun w => Lib.run_eql_slice_nil (P := Tryz.prog) w 62 _ none 0 0 0 0 Tryz.underlying62
    simp only [Option.isNone_none] at hq
    clear h
    go_enter Tryz.func33, Tryz.ntmps33
    go_wp2_with fail
    exact unhide HE
  · obtain ⟨v', w', hap, HE⟩ := clone_run hn h
    generalize ClEnds w l = Q at *
    generalize l.length = n at *
    have hq := fun w => Lib.run_eql_slice_nil (P := Tryz.prog) w 62 _ (some ⟨g, 0, none⟩) n c 0 0 Tryz.underlying62
    simp only [Option.isNone_some] at hq
    clear h
    go_enter Tryz.func33, Tryz.ntmps33
    go_wp2_with fail
    exact unhide HE
end

section
attribute [local go_sem ↓] app_fold

def clearSem (ats : Array TypeId) (ty : TypeId) (args : Array Value) : Sem Value := Builtin.clear_ ats ty args
theorem clear_fold (ats : Array TypeId) (ty : TypeId) (args : Array Value) : Builtin.clear_ ats ty args = clearSem ats ty args := rfl
attribute [local go_sem ↓] clear_fold

def delL (l : List Sb) (k : Nat) : List Sb := l.take k ++ l.drop (k + 1)
theorem delL_length {l : List Sb} {k : Nat} (hk : k < l.length) : (delL l k).length = l.length - 1 := by simp [delL]; omega
theorem del_cells {l : List Sb} {k : Nat} (hk : k < l.length) : sbsCells (delL l k) = (sbsCells l).take (k * 3) ++ (sbsCells l).drop ((k + 1) * 3) := by
  unfold delL
  rw [sbsCells_append, sbsCells_take l k (by omega), sbsCells_drop l (k + 1) (by omega)]

def DelEnds (w : World) (base g c : Nat) (l : List Sb) (e : Ending) (w' : World) : Prop := e = .returned (.slice (some ⟨g, 0, none⟩) l.length c) ∧ SbRow w' base (.slice (some ⟨g, 0, none⟩) l.length c) l ∧ w.grownBy w' (some g)

theorem del_run {w : World} {base g c k n : Nat} {l : List Sb} (hn : l.length = n + 1) (h : SbRow w base (.slice (some ⟨g, 0, none⟩) (n + 1) c) l) (hk : k ≤ n) (a : Addr) (ha : k < n → a = ⟨g, (k + 1) * 3, none⟩) (sc : Nat) :
    ∃ w6 w7, (∀ ty, (appSem #[62, 62] ty #[.slice (some ⟨g, 0, none⟩) k c, .slice (some a) (n - k) sc]).run Tryz.prog w.drew = .ok (.slice (some ⟨g, 0, none⟩) n c) w6) ∧
      (∀ ty dc, (clearSem #[62] ty #[.slice (some ⟨g, n * 3, none⟩) 1 dc]).run Tryz.prog w6 = .ok (.tuple #[]) w7) ∧
      n + 1 ≤ c ∧ c ≤ maxLen ∧ Hid (DelEnds w base g c (delL l k) (.returned (.slice (some ⟨g, 0, none⟩) n c)) w7) := by
  obtain ⟨i0, hi, hz0, hz1, hz2⟩ := info_parts info_sb
  have h' : w.ownsRow base 83 3 (.slice (some ⟨g, 0, none⟩) (n + 1) c) (n + 1) (sbsCells l) := by have := h; unfold SbRow at this; rwa [hn] at this
  obtain ⟨hbg, hnc, hcm, cur, hcur, hcs, hct⟩ := ownsRow_cur h'
  have hll := sbsCells_length l
  rw [hn] at hll
  have hkl : ((sbsCells l).take (k * 3)).length = k * 3 := by rw [List.length_take]; omega
  have hdl : ((sbsCells l).drop ((k + 1) * 3)).length = (n - k) * 3 := by rw [List.length_drop, hll]; omega
  have hA := fun ty => run_append_roomK (P := Tryz.prog) w.drew 62 ty 83 i0 3 g k c (n - k) sc a cur _ ((sbsCells l).drop ((k + 1) * 3)) Tryz.underlying62 hi hz1 hcur hdl (by omega)
    (fun j v hj => by
      by_cases hkn : k < n
      · rw [ha hkn]
        exact sb_src h' ((k + 1) * 3) j v hj
      · rw [List.getElem?_eq_none (by rw [hdl]; omega)] at hj
        cases hj) (by rw [hdl, hcs]; omega) (fun u hu => sbsCells_one l u (List.mem_of_mem_drop hu))
  rw [show k + (n - k) = n by omega] at hA
  have h6 : (w.drew.setRow g (putAt cur (k * 3) ((sbsCells l).drop ((k + 1) * 3)))).heap[g]? = some (.cells (putAt cur (k * 3) ((sbsCells l).drop ((k + 1) * 3))) 83 (0, 0)) := setRow_heap _ _ _ _ _ _ hcur
  have hps : (putAt cur (k * 3) ((sbsCells l).drop ((k + 1) * 3))).size = c * 3 := by rw [putAt_size (by rw [hdl, hcs]; omega), hcs]
  have hzv : ∀ w, (zeroValue 83).run Tryz.prog w = .ok (.agg #[.int .i64 0, .pointer none, .slice none 0 0]) w := fun w => by simp [zeroValue, typeInfo, hi, hz0]
  have hz3 : (Value.cells (.agg #[.int .i64 0, .pointer none, .slice none 0 0])).size = 3 := by decide +kernel
  have hB := fun ty dc => run_clearK (P := Tryz.prog) (w.drew.setRow g (putAt cur (k * 3) ((sbsCells l).drop ((k + 1) * 3)))) 62 83 ty _ 3 g (n * 3) 0 dc _ _ Tryz.underlying62 hzv hz3 (by decide +kernel) h6 (by rw [hps]; omega)
  refine ⟨_, _, hA, hB, hnc, hcm, hide ⟨by rw [delL_length (by omega), hn]; rfl, ?_, ?_⟩⟩
  · show World.ownsRow _ base _ 3 _ (delL l k).length (sbsCells (delL l k))
    rw [delL_length (by omega), hn, del_cells (by omega), show n + 1 - 1 = n by omega]
    have hzl := zeroCells_length (Value.cells (.agg #[.int .i64 0, .pointer none, .slice none 0 0])) (0 + 1)
    rw [hz3] at hzl
    refine ⟨by simp only [List.length_append, hkl, hdl]; omega, .inr ⟨g, c, _, rfl, hbg, setRow_heap _ _ _ _ _ _ h6, by omega, hcm, ?_, ?_⟩⟩
    · rw [putAt_size (by rw [hps, hzl]; omega), hps]
    · rw [putAt_toList, List.append_assoc, List.take_append_of_le_length (by rw [List.length_take, Array.length_toList, hps]; omega), List.take_take, Nat.min_self, putAt_toList]
      have ht : cur.toList.take (k * 3) = (sbsCells l).take (k * 3) := by
        have := congrArg (List.take (k * 3)) hct
        rw [List.take_take, Nat.min_eq_left (by omega)] at this
        exact this
      rw [ht]
      exact List.take_left' (by rw [List.length_append, hkl, hdl]; omega)
  · have g1 := grownBy_setRow w g (putAt cur (k * 3) ((sbsCells l).drop ((k + 1) * 3)))
    exact grownBy_trans (b := w.drew.setRow g (putAt cur (k * 3) ((sbsCells l).drop ((k + 1) * 3)))) ⟨g1.os, g1.tape, g1.output, g1.size, g1.block⟩ (grownBy_setRow _ _ _)

set_option maxHeartbeats 2000000 in
set_option maxRecDepth 100000 in
theorem delete_any (l : List Sb) (n k c g : Nat) (hn : l.length = n + 1) (base : Nat) (w : World) (h : SbRow w base (.slice (some ⟨g, 0, none⟩) (n + 1) c) l) (hk : k ≤ n) (hn8 : n ≤ 1000) :
    Calls Tryz.prog 45 #[.slice (some ⟨g, 0, none⟩) (n + 1 : Nat) c, .int .i64 k, .int .i64 ((k : Int) + 1)] w (DelEnds w base g c (delL l k)) := by
  have hnc := (ownsRow_cur (by have := h; unfold SbRow at this; rwa [hn] at this : w.ownsRow base 83 3 (.slice (some ⟨g, 0, none⟩) (n + 1) c) (n + 1) (sbsCells l))).2.1
  have hb0 : (0 : Int) ≤ (k : Int) := by omega
  have hb1 : (0 : Int) ≤ (k : Int) + 1 := by omega
  have hb2 : (k : Int) ≤ (k : Int) + 1 := by omega
  have hb3 : (k : Int) + 1 ≤ ((n + 1 : Nat) : Int) := by omega
  have hb4 : (k : Int) ≤ (c : Int) := by omega
  have hb5 : ((n + 1 : Nat) : Int) ≤ (c : Int) := by omega
  have hb6 : (n : Int) ≤ ((n + 1 : Nat) : Int) := by omega
  have hb7 : (k : Int) ≤ ((n + 1 : Nat) : Int) := by omega
  have hb8 : (n : Int) ≤ (c : Int) := by omega
  have hz2 : ¬ ((k : Int) = (k : Int) + 1) := by omega
  have htn : ((k : Int) + 1).toNat = k + 1 := by omega
  have hci : ¬ (c = k) := by omega
  have hcn : ¬ (c = n) := by omega
  have hnk : ¬ (n + 1 = k) := by omega
  have hs1 : n + 1 - n = 1 := by omega
  have hs2 : n + 1 - (k + 1) = n - k := by omega
  by_cases hck : c = k + 1
  · obtain rfl : n = k := by omega
    subst hck
    obtain ⟨w6, w7, hap, hcl, _, hcm, HE⟩ := del_run hn h hk ⟨g, 0, none⟩ (fun h => by omega) 0
    rw [Nat.sub_self] at hap
    generalize DelEnds w base g (n + 1) (delL l n) = Q at *
    unfold maxLen at hcm
    clear h hn
    go_enter Tryz.func45, Tryz.ntmps45
    go_wp2_with fail
    go_region
    all_goals go_wp2_with fail
    all_goals exact unhide HE
  · obtain ⟨w6, w7, hap, hcl, _, hcm, HE⟩ := del_run hn h hk ⟨g, (k + 1) * 3, none⟩ (fun _ => rfl) (c - (k + 1))
    generalize DelEnds w base g c (delL l k) = Q at *
    unfold maxLen at hcm
    clear h hn
    go_enter Tryz.func45, Tryz.ntmps45
    go_wp2_with fail
    go_region
    all_goals go_wp2_with fail
    all_goals exact unhide HE
end

section
deriving instance DecidableEq for Mg

theorem bef_iff (x y : Mg) : bef x y = true ↔ y.pri < x.pri ∨ (x.pri = y.pri ∧ x.num < y.num) := by
  unfold bef
  by_cases h : x.pri = y.pri
  · simp [h]
  · simp [h]
theorem nb_iff (x y : Mg) : bef x y = false ↔ x.pri < y.pri ∨ (x.pri = y.pri ∧ y.num ≤ x.num) := by
  rw [Bool.eq_false_iff, Ne, bef_iff]
  omega
theorem nb_trans {x y z : Mg} (h1 : bef x y = false) (h2 : bef y z = false) : bef x z = false := by
  rw [nb_iff] at *
  omega
theorem nb_refl (x : Mg) : bef x x = false := by
  rw [nb_iff]
  omega
/-- No message is before the one above it. -/
def HeapL (ms : List Mg) : Prop := ∀ (i : Nat) (x y : Mg), ms[i + 1]? = some x → ms[i / 2]? = some y → bef x y = false

theorem HeapL.nil : HeapL [] := fun i x y h => by simp at h

theorem HeapL.head {ms : List Mg} (h : HeapL ms) {t : Mg} (h0 : ms[0]? = some t) : ∀ (n i : Nat), i < n → ∀ x, ms[i]? = some x → bef x t = false := by
  intro n
  induction n with
  | zero => intro i hi; omega
  | succ n ih =>
    intro i hi x hx
    cases i with
    | zero =>
      rw [h0] at hx
      cases hx
      exact nb_refl _
    | succ i =>
      have hlen := (List.getElem?_eq_some_iff.1 hx).1
      obtain ⟨y, hy⟩ : ∃ y, ms[i / 2]? = some y := ⟨_, List.getElem?_eq_getElem (by omega)⟩
      exact nb_trans (h i x y hx hy) (ih (i / 2) (by omega) y hy)
end

end Go.Proofs.YtfkcaldjphakpabGreatDoor
