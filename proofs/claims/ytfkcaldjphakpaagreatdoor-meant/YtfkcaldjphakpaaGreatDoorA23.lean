/- strconv.ErrRange lies where the rows say. digits. Contracts of package events: validName, validValue. The contract of events.Valid. Texts in a slice: Values, AppendSeq, Collect. The contract of events.Valid of lists that are no event. -/
import Derived.Test.YtfkcaldjphakpaaGreatDoorQLex1
import Derived.Test.YtfkcaldjphakpaaGreatDoorRows
import Derived.LaidLaws
import Derived.Lib.LaidU8
import Derived.MakeChecks
import Derived.Test.YtfkcaldjphakpaaGreatDoorQLex9
import Derived.Laws.IdiomStrings
import Derived.Laws.Concat
import Derived.Test.YtfkcaldjphakpaaGreatDoorA09
import Derived.Deep.RegionWith
import Derived.RangeFuncBox
import Derived.RangeFuncLeaves
import Derived.Shelf.Abstract
import Derived.WalkKit
import Derived.OwnWalkIn
import Derived.TacticsInMore
import Derived.LoopNIn
import Derived.LoopIn
import Derived.Maps.AppendAt
import Derived.Test.YtfkcaldjphakpaaGreatDoorA03
import Derived.RegionTactic
import Derived.Deep.RegionHeld3
namespace Go.Proofs.YtfkcaldjphakpaaGreatDoor
open Go.RowKit

section
theorem errRange : Tryz.prog.globalNamed "strconv.ErrRange" = some 3 := by kernel_rfl
theorem errRangeType : (Tryz.prog.globals[3]?).map (·.type) = some 280 := by kernel_rfl

theorem err_of {W : World} {l : List (String × DataW Unit)} (hm : ("strconv.ErrRange", Rows.laid_strconv_ErrRange) ∈ l) (h : laidMet Tryz.prog l W) : ErrOk W := by
  obtain ⟨g, t, cs, fuel, p, h1, h2, h3, h4⟩ := Lib.laidMet.reads h hm
  obtain rfl : 3 = g := Option.some.inj (errRange.symm.trans h1)
  obtain rfl : 280 = t := Option.some.inj (errRangeType.symm.trans h2)
  obtain ⟨f1, u, v, hcs, _, _⟩ := iface_of_trod Tryz.underlying280 h4
  unfold World.var? at h3
  rw [errRange] at h3
  simp only [Option.bind_some] at h3
  split at h3
  · rename_i c ty fz hh
    injection h3 with h3
    subst h3
    refine ⟨(Array.getElem?_eq_some_iff.1 hh).1, .iface u v, ?_, .inr ⟨u, v, rfl⟩⟩
    have h0 : c[0]? = some (.iface u v) := by
      rw [← Array.getElem?_toList, hcs]; rfl
    rw [World.cell?]
    simp [hh, h0]
  · cases h3
end

section
/-- A number in base ten. -/
def dig (n : Nat) : UInt8 := UInt8.ofNat (48 + n % 10)
def digN (n : Nat) : List UInt8 := if n < 10 then [dig n] else digN (n / 10) ++ [dig n]
termination_by n

theorem digN_small {n : Nat} (h : n < 10) : digN n = [dig n] := by rw [digN, if_pos h]
theorem digN_more {n : Nat} (h : ¬ n < 10) : digN n = digN (n / 10) ++ [dig n] := by rw [digN, if_neg h]

theorem dig_nat (n : Nat) : (dig n).toNat = 48 + n % 10 := by
  unfold dig
  rw [UInt8.toNat_ofNat']
  omega

theorem BS_add (a b : List UInt8) : BS a ++ BS b = BS (a ++ b) := by
  apply ByteArray.ext
  show (BS a ++ BS b).data = _
  rw [ByteArray.data_append]
  simp [BS]
end

section
set_option maxHeartbeats 400000 in
theorem validName_any (s : ByteArray) (hs : s.size ≤ 140737488355328) (w : World) :
    Calls Tryz.prog 58 #[.string s] w fun e w' => e = .returned (.bool (nameOk s.data.toList)) ∧ Below w.heap.size w w' := by
  unfold nameOk
  rw [data_len]
  obtain ⟨nb, hn⟩ : ∃ nb, nameB s.data.toList = nb := ⟨_, rfl⟩
  rw [hn]
  have HN := hide hn
  clear hn
  by_cases h : s.size ≤ 16
  · go_enter Tryz.func58, Tryz.ntmps58
    go_wp2_with (go_at_call 105; refine (isName_any _ hs _).mono ?_; rintro e w' ⟨rfl, hb⟩; rw [unhide HN])
    all_goals (go_ret; exact ⟨ret_bool (by simp_all), by assumption⟩)
  · go_enter Tryz.func58, Tryz.ntmps58
    go_wp2_with fail
    go_ret
    exact ⟨ret_bool (by simp <;> omega), Below.refl _ _⟩

theorem BS_empty (l : List UInt8) : (BS l).toList.isEmpty = l.isEmpty := by rw [BS_toList]

set_option maxHeartbeats 400000 in
theorem validValue_any (v : V) (hv : v.str.length ≤ 140737488355328) (w : World) :
    Calls Tryz.prog 59 #[vV v] w fun e w' => e = .returned (.bool (valOk v)) ∧ Below w.heap.size w w' := by
  have he := BS_empty v.str
  have hz := BS_size v.str
  unfold valOk
  obtain ⟨em, hem⟩ : ∃ em, v.str.isEmpty = em := ⟨_, rfl⟩
  rw [hem] at he ⊢
  clear hem
  conv => arg 3; simp only [vV]
  cases h0 : (v.kind == 0)
  · cases h1 : (v.kind == 1)
    · cases h2 : (v.kind == 2)
      · cases h3 : (v.kind == 3)
        · simp only [Bool.false_eq_true, if_false]
          go_enter Tryz.func59, Tryz.ntmps59
          go_wp2_with fail
          go_ret
          exact ⟨rfl, (Below.refl _ _).alloc (Nat.le_refl _) _⟩
        · simp only [Bool.false_eq_true, if_false, if_true]
          go_enter Tryz.func59, Tryz.ntmps59
          go_wp2_with fail
          all_goals (go_ret; exact ⟨ret_bool (by simp_all <;> omega), (Below.refl _ _).alloc (Nat.le_refl _) _⟩)
      · simp only [Bool.false_eq_true, if_false, if_true]
        go_enter Tryz.func59, Tryz.ntmps59
        go_wp2_with fail
        all_goals (go_ret; exact ⟨ret_bool (by simp_all <;> omega), (Below.refl _ _).alloc (Nat.le_refl _) _⟩)
    · simp only [Bool.false_eq_true, if_false, if_true]
      go_enter Tryz.func59, Tryz.ntmps59
      go_wp2_with fail
      all_goals (go_ret; exact ⟨ret_bool (by simp_all <;> omega), (Below.refl _ _).alloc (Nat.le_refl _) _⟩)
  · simp only [if_true]
    go_enter Tryz.func59, Tryz.ntmps59
    go_wp2_with fail
    all_goals (go_ret; exact ⟨ret_bool (by simp_all <;> omega), (Below.refl _ _).alloc (Nat.le_refl _) _⟩)
end

section
def okAt (ps : List Pr) (k : Nat) : Bool := match ps[k]? with
  | some p => nameOk p.name && valOk p.val && !hasB (ps.take k) p.name
  | none => true
def evOk (ps : List Pr) : Bool := decide (ps.length ≤ 8) && (List.range ps.length).all (okAt ps)

theorem evOk_long {ps : List Pr} (h : ¬ ps.length ≤ 8) : evOk ps = false := by unfold evOk; rw [decide_eq_false h]; rfl
theorem evOk_good {ps : List Pr} (h8 : ps.length ≤ 8) (h : ∀ j, j < ps.length → okAt ps j = true) : evOk ps = true := by
  unfold evOk
  rw [decide_eq_true h8, Bool.true_and, List.all_eq_true]
  exact fun j hj => h j (List.mem_range.1 hj)

theorem EvAt.take {w : World} {b off : Nat} {ps : List Pr} (h : EvAt w b off ps) (k : Nat) : EvAt w b off (ps.take k) := by
  intro j p hj
  rw [List.getElem?_take] at hj
  split at hj
  · exact h j p hj
  · cases hj

/-- Every text of the properties is short enough for any machine. -/
def Short (ps : List Pr) : Prop := ∀ p ∈ ps, p.name.length ≤ 140737488355328 ∧ p.val.str.length ≤ 140737488355328

theorem has_k {qs : List Pr} {k : Nat} (hq : qs.length = k) (cap : Nat) {b off : Nat} (s : ByteArray) (w : World) (hk : k ≤ 8) (hw : EvAt w b off qs) (hlt : b < w.heap.size) :
    Calls Tryz.prog 60 #[.slice (some ⟨b, off, none⟩) k cap, .string s] w fun e w' => e = .returned (.bool (hasB qs s.data.toList)) ∧ Below w.heap.size w w' := by
  subst hq; exact has_any b off cap qs s w hk hw hlt

theorem EvAt.later {w W w1 w2 : World} {b off : Nat} {ps : List Pr} {o : Obj} (h : EvAt w b off ps) (hW : W = (w.alloc o).drew) (hlt : b < w.heap.size) (hb1 : Below W.heap.size W w1) (hb2 : Below w1.heap.size w1 w2) : EvAt w2 b off ps := by
  subst hW
  have h1 : EvAt (w.alloc o).drew b off ps := h.below ((Below.refl _ _).alloc (Nat.le_refl _) o).drew hlt
  have hlt1 : b < (w.alloc o).drew.heap.size := by show b < (w.alloc o).heap.size; simp; omega
  exact (h1.below hb1 hlt1).below hb2 (Nat.lt_of_lt_of_le hlt1 hb1.size)

set_option maxHeartbeats 1000000 in
theorem valid_good (b off cap : Nat) (ps : List Pr) (w : World) (hcap : ps.length ≤ cap) (hbig : ps.length ≤ 140737488355328) (hsh : Short ps) (hw : EvAt w b off ps) (hlt : b < w.heap.size) (hok : evOk ps = true) :
    Calls Tryz.prog 37 #[.slice (some ⟨b, off, none⟩) ps.length cap] w fun e w' => e = .returned (.bool true) ∧ Below w.heap.size w w' := by
  obtain ⟨h8, hg⟩ : ps.length ≤ 8 ∧ ∀ j, j < ps.length → okAt ps j = true := by
    unfold evOk at hok
    rw [Bool.and_eq_true, decide_eq_true_eq, List.all_eq_true] at hok
    exact ⟨hok.1, fun j hj => hok.2 j (List.mem_range.2 hj)⟩
  have HG := hide hg
  clear hg hok
  go_enter Tryz.func37, Tryz.ntmps37
  go_wp2_with fail
  go_loopw [3, 4, 10] (fun _ _ i wr => ∃ k : Nat, k ≤ ps.length ∧ i = .int .i64 k ∧ Hid (∀ j, j < k → okAt ps j = true) ∧ Below w.heap.size w wr) (fun _ _ i _ => ps.length - (intOf i).toNat)
  case atStart => exact ⟨0, Nat.zero_le _, rfl, hide (fun j hj => absurd hj (by omega)), Below.refl _ _⟩
  case round =>
    obtain ⟨k, hk, rfl, hh, hb⟩ := hrel
    by_cases hlt2 : k < ps.length
    · obtain ⟨p, hp⟩ : ∃ p, ps[k]? = some p := ⟨_, List.getElem?_eq_getElem hlt2⟩
      have hwr := hw.below hb hlt
      have hltr : b < wr.heap.size := Nat.lt_of_lt_of_le hlt hb.size
      obtain ⟨h1, h2, h3, h4⟩ := hwr k p hp
      obtain ⟨hs1, hs2⟩ := hsh p (List.mem_of_getElem? hp)
      have hok : okAt ps k = (nameOk p.name && valOk p.val && !hasB (ps.take k) p.name) := by unfold okAt; rw [hp]
      have htl : (ps.take k).length = k := by rw [List.length_take]; omega
      have HTK := hide (hwr.take k)
      have HL := hide htl
      clear hp hwr htl
      have hall := unhide HG k hlt2
      rw [hok] at hall
      simp only [Bool.and_eq_true, Bool.not_eq_true'] at hall
      obtain ⟨⟨hn, hv⟩, hx⟩ := hall
      have HN := hide hn
      have HV := hide hv
      have HOK : Hid (∀ j, j < k + 1 → okAt ps j = true) := hide (fun j hj => by
        by_cases hjk : j < k
        · exact unhide hh j hjk
        · have : j = k := by omega
          rw [this, hok, hn, hv, hx]; rfl)
      have HH := hide hx
      clear hn hok hv hx
      go_wp2_with fail
      go_region_with (first | (go_at_call 58; refine (validName_any _ (by exact hs1) _).mono ?_; rintro e w1 ⟨rfl, hb1⟩; rw [show nameOk (BS p.name).data.toList = true from unhide HN]; obtain ⟨hc1, hf1⟩ := bcell hb1; have hz1 : wr.heap.size < w1.heap.size := (by have := hb1.size; simp at this; omega); have hB1 : Below w.heap.size w w1 := below_any (below_alloc hb _).drew hb1) | (go_at_call 59; refine (validValue_any p.val hs2 _).mono ?_; rintro e w2 ⟨rfl, hb2⟩; rw [unhide HV]; obtain ⟨hc2, hf2⟩ := bcell hb2; have hz2 : wr.heap.size < w2.heap.size := (by have := hb2.size; omega); have hB2 : Below w.heap.size w w2 := below_any hB1 hb2) | (go_at_call 60; refine (has_k (unhide HL) cap (BS p.name) _ (by omega) (by exact (unhide HTK).later rfl hltr hb1 hb2) (by omega)).mono ?_; rintro e w3 ⟨rfl, hb3⟩; rw [show hasB (ps.take k) (BS p.name).data.toList = false from unhide HH]; have hB3 : Below w.heap.size w w3 := below_any hB2 hb3))
      all_goals (go_wp2_with fail)
      all_goals exact ⟨⟨k + 1, by omega, by go_num, HOK, hB3⟩, by simp [intOf]; omega⟩
    · clear hh
      go_wp2_with fail
      go_ret
      exact ⟨rfl, hb⟩
end

section
open Go.RowKit Go.Shelf

attribute [local go_sem] Oper.semAt_some

/-- The first k texts. -/
def tsUpto (ts : List (List UInt8)) (k : Nat) : List (List UInt8) := (List.range k).map fun j => ts[j]?.getD []
theorem tsUpto_succ (ts : List (List UInt8)) (k : Nat) : tsUpto ts (k + 1) = tsUpto ts k ++ [ts[k]?.getD []] := by simp [tsUpto, List.range_succ]
theorem tsUpto_length (ts : List (List UInt8)) (k : Nat) : (tsUpto ts k).length = k := by simp [tsUpto]
theorem tsUpto_all (ts : List (List UInt8)) : tsUpto ts ts.length = ts := by
  apply List.ext_getElem
  · simp [tsUpto]
  · intro i h1 h2
    simp [tsUpto, h2]

set_option maxRecDepth 100000 in
set_option maxHeartbeats 2000000 in
/-- What Values hands back, called with a loop's body that keeps what lay below n₀. -/
theorem values1_in (n : Nat) (hn : 1 ≤ n) (l Bs n₀ b cap : Nat) (ts : List (List UInt8)) (hlen : ts.length ≤ 1000) (hb : b < n₀) (J Jx : List (List UInt8) → World → Prop)
    (hY : ∀ pre x W, J pre W → pre.length < ts.length → YieldAt Fence.wide (n - 1) Tryz.prog l #[.string (BS x)] W fun e W' =>
      (e = .returned (.bool true) ∧ J (pre ++ [x]) W' ∧ Below n₀ W W') ∨ (e = .returned (.bool false) ∧ Jx (pre ++ [x]) W'))
    (W : World) (hBs : W.cell? ⟨Bs, 0, none⟩ = some (.slice (some ⟨b, 0, none⟩) ts.length cap)) (hc : ∀ j, j < ts.length → W.cell? ⟨b, j, none⟩ = some (.string (BS (ts[j]?.getD [])))) (h0 : J [] W) :
    CallsIn Fence.wide n Tryz.prog 208 #[.func (.yield l) #[] #[], .pointer (some ⟨Bs, 0, none⟩)] W fun e W' => (∃ v, e = .returned v) ∧
      ((∃ ys, ys = ts ∧ J ys W') ∨ (∃ pre, pre.length ≤ ts.length ∧ Jx pre W')) := by
  obtain ⟨len, hl⟩ : ∃ len, ts.length = len := ⟨_, rfl⟩
  rw [hl] at hlen hY hBs hc
  have HL := hide hl
  clear hl
  refine callsIn_of_wp Tryz.func208 rfl trivial ?_ rfl
  simp only [Tryz.ntmps208, List.size_toArray, List.length_cons, List.length_nil, Nat.reduceAdd, Nat.reduceSub, Array.replicate_succ, Array.replicate_zero, List.push_toArray, List.append_toArray, List.nil_append, List.cons_append]
  gi_wp2
  gi_loopw [7] (fun i wr => ∃ k : Nat, k ≤ len ∧ i = .int .i64 k ∧ J (tsUpto ts k) wr ∧ Below n₀ W wr)
    (fun i _ => len - (intOf i).toNat)
  case atStart => exact ⟨0, Nat.zero_le _, rfl, h0, Below.refl _ _⟩
  case round =>
    obtain ⟨k, hk, rfl, hJs, hnx⟩ := hrel
    have hcx : k < len → wr.cell? ⟨b, k, none⟩ = some (.string (BS (ts[k]?.getD []))) := fun h => (hnx.cell (p := ⟨b, k, none⟩) hb).trans (hc k h)
    by_cases hlt : k < len
    · obtain ⟨fn, tmps, assign, body, hy, hR⟩ := hY _ (ts[k]?.getD []) wr hJs (by rw [tsUpto_length]; exact hlt)
      have hcx' := hcx hlt
      gi_wp2
      refine hR.mono ?_
      rintro e W3 (⟨rfl, hJ3, hk3⟩ | ⟨rfl, hJx3⟩)
      · gi_wp2
        go_roundw
        case rel => exact ⟨k + 1, by omega, by simp, by rw [tsUpto_succ]; exact hJ3, hnx.trans hk3⟩
        case measure => simp [intOf]; omega
      · gi_wp2
        refine bodyPost_ret (results_none rfl _ _ _) rfl ?_
        exact ⟨⟨_, rfl⟩, .inr ⟨_, by rw [List.length_append, tsUpto_length, unhide HL]; simp; omega, hJx3⟩⟩
    · obtain rfl : k = len := by omega
      gi_wp2
      go_end0
      exact ⟨⟨_, rfl⟩, .inl ⟨_, by rw [← unhide HL, tsUpto_all], hJs⟩⟩

theorem values_stops (n : Nat) (hn : 1 ≤ n) (Bs n₀ b cap : Nat) (ts : List (List UInt8)) (hlen : ts.length ≤ 1000) (hb : b < n₀) (w : World) (hBs : Bs < w.heap.size) (hn₀ : n₀ ≤ w.heap.size)
    (hc : w.cell? ⟨Bs, 0, none⟩ = some (.slice (some ⟨b, 0, none⟩) ts.length cap)) (hcs : ∀ j, j < ts.length → w.cell? ⟨b, j, none⟩ = some (.string (BS (ts[j]?.getD [])))) :
    SeqStopsK Fence.wide n Tryz.prog 208 #[.pointer (some ⟨Bs, 0, none⟩)] (fun x : List UInt8 => #[Value.string (BS x)]) (Below n₀) (fun ys => ys = ts) (fun pre => pre.length ≤ ts.length) ts.length w := fun l J Jx W hW _ _ hY h0 =>
  values1_in n hn l Bs n₀ b cap ts hlen hb J Jx hY W ((hW.cell (p := ⟨Bs, 0, none⟩) hBs).trans hc) (fun j hj => ((hW.mono hn₀).cell (p := ⟨b, j, none⟩) hb).trans (hcs j hj)) h0

theorem info_strg : (Tryz.prog.info? 9).map (fun i => (i.zero, i.size, i.bytes)) = some (some (.string ⟨#[]⟩), 1, 16) := by kernel_rfl

set_option maxRecDepth 100000 in
set_option maxHeartbeats 2000000 in
/-- AppendSeq onto nil of what Values hands back: the texts in a row of their own. -/
theorem appendSeq_in (n : Nat) (hn : 2 ≤ n) (Bs b cap : Nat) (ts : List (List UInt8)) (hlen : ts.length ≤ 1000) (w : World) (hb : b < w.heap.size) (hBs : Bs < w.heap.size)
    (hc : w.cell? ⟨Bs, 0, none⟩ = some (.slice (some ⟨b, 0, none⟩) ts.length cap)) (hcs : ∀ j, j < ts.length → w.cell? ⟨b, j, none⟩ = some (.string (BS (ts[j]?.getD [])))) :
    CallsIn Fence.wide n Tryz.prog 251 #[.slice none 0 0, .func (.func 208) #[] #[.pointer (some ⟨Bs, 0, none⟩)]] w fun e w' => ∃ v, e = .returned v ∧ w'.ownsRow w.heap.size 9 1 v ts.length (ts.map fun x => .string (BS x)) ∧ Below w.heap.size w w' := by
  have h1 : 1 ≤ n := by omega
  obtain ⟨i0, hi, hz0, hz1, hz2⟩ := info_parts info_strg
  refine callsIn_of_wp_marks Tryz.func251 rfl trivial ?_ rfl
  simp only [Tryz.ntmps251, List.size_toArray, List.length_cons, List.length_nil, Nat.reduceAdd, Nat.reduceSub, Array.replicate_succ, Array.replicate_zero, List.push_toArray, List.append_toArray, List.nil_append, List.cons_append]
  gi_wp2
  have bO := Boxed.new w 62 (.slice none 0 0)
  have hB0 : Below w.heap.size w (w.alloc (.cells #[.slice none 0 0] 62)) := (Below.refl _ w).alloc (Nat.le_refl _) _
  refine wpIn_rangeFunc_ownG rfl h1 (gf := 208) (lb := #[.pointer (some ⟨Bs, 0, none⟩)]) rfl trivial (enters_of Tryz.func208 (by kernel_rfl) rfl)
    (values_stops (n - 1) (by omega) Bs w.heap.size b cap ts hlen hb (w.alloc (.cells #[.slice none 0 0] 62)) (by simp; omega) (by simp) ((hB0.cell (p := ⟨Bs, 0, none⟩) hBs).trans hc) (fun j hj => (hB0.cell (p := ⟨b, j, none⟩) hb).trans (hcs j hj))) belowK_t (belowK_b (by simp)) (Below.refl _ _) (fun _ => rfl)
    (fun (pre : List (List UInt8)) W => (∃ v, Boxed W w.heap.size 62 v ∧ W.ownsRow w.heap.size 9 1 v pre.length (pre.map fun x => .string (BS x)) ∧ True) ∧ Below w.heap.size w W)
    (fun _ _ _ => False)
    (OwnFrom.and (Own.from (holdsRow_own w.heap.size w.heap.size 62 9 1 (fun (pre : List (List UInt8)) => pre.length) (fun (pre : List (List UInt8)) => pre.map fun x => Value.string (BS x)) (fun _ _ => True)) _) (ownFrom_below (Nat.le_refl _) (by simp)))
    (fun _ _ _ _ _ hs _ _ => hs)
    ⟨⟨_, bO, World.ownsRow_nil _ _ _ _, trivial⟩, hB0⟩
    (fun x => { tmps := #[.slice none 0 0, .func (.func 208) #[] #[.pointer (some ⟨Bs, 0, none⟩)], .pointer (some ⟨w.heap.size, 0, none⟩), undef, .slice none 0 0, .string (BS x), .func (.func 208) #[] #[.pointer (some ⟨Bs, 0, none⟩)], .string (BS x), undef, undef, undef, undef, undef], defers := [] }) ?assign ?body ?done ?stop
  case assign =>
    intro l x W K hK
    gi_wp2
    exact hK
  case body =>
    rintro l pre x W ⟨⟨v, hv, hrow, _⟩, hB⟩ hlt
    have hc := hv.cell
    gi_wp2_with (gi_at_builtin; refine wpListIn_append_own _ rfl _ _ 62 rfl w.heap.size 9 i0 (.string ⟨#[]⟩) 1 16 Tryz.underlying62 hi hz0 hz1 hz2 rfl (by decide) _ _ _ rfl (hrow.alloc _) ⟨W.heap.size, 0, none⟩ 1 1 [.string (BS x)] rfl rfl (cell_one_new _ _ _) (by simp [Value.oneCell']) (by unfold maxLen; omega) (by omega) (by have := hB.size; simp; omega) ?_; intro v' w1 hown' hgrow _; obtain ⟨g', cap', rfl⟩ := ownsRow_succ hown'; obtain ⟨hv1, hv2, hr2, hk2, hb2⟩ := hv.appended (by decide) hrow hB.size (Nat.le_refl _) hown' hgrow; have hc1 := hv1.cell; have hf1 := hv1.frozen)
    exact ⟨hk2.from _, hb2, ⟨_, hv2, by simpa using hr2, trivial⟩, hB.trans hb2⟩
  case done =>
    rintro D ys W hD rfl ⟨⟨v, hv, hrow, _⟩, hB⟩ hK
    have hc := hv.cell
    gi_wp2
    refine ⟨by simp, .inl ⟨_, _, rfl, run_takeDeferred hK, ?_⟩⟩
    exact ⟨_, results_tmp rfl _ _ _, v, rfl, ownsRow_putObj hrow _ hK rfl, hB.trans (belowK_b (w := w) (Nat.le_refl _) W D _ _ (by simp at hD; omega) hK rfl rfl)⟩
  case stop =>
    rintro D c pre W _ _ h _
    exact h.elim
end

section
set_option maxHeartbeats 1000000 in
theorem valid_long (a : Option Addr) (n cap : Nat) (h8 : 8 < n) (hbig : n ≤ 140737488355328) (w : World) :
    Calls Tryz.prog 37 #[.slice a n cap] w fun e w' => e = .returned (.bool false) ∧ Below w.heap.size w w' := by
  go_enter Tryz.func37, Tryz.ntmps37
  go_wp2_with fail
  go_ret
  exact ⟨rfl, Below.refl _ _⟩

set_option maxHeartbeats 4000000 in
theorem valid_bad (b off cap : Nat) (ps : List Pr) (w : World) (hcap : ps.length ≤ cap) (hbig : ps.length ≤ 140737488355328) (hsh : Short ps) (hw : EvAt w b off ps) (hlt : b < w.heap.size) (h8 : ps.length ≤ 8) (hok : evOk ps = false) :
    Calls Tryz.prog 37 #[.slice (some ⟨b, off, none⟩) ps.length cap] w fun e w' => e = .returned (.bool false) ∧ Below w.heap.size w w' := by
  have HNO := hide hok
  clear hok
  go_enter Tryz.func37, Tryz.ntmps37
  go_wp2_with fail
  go_loopw [3, 4, 10] (fun _ _ i wr => ∃ k : Nat, k ≤ ps.length ∧ i = .int .i64 k ∧ Hid (∀ j, j < k → okAt ps j = true) ∧ Below w.heap.size w wr) (fun _ _ i _ => ps.length - (intOf i).toNat)
  case atStart => exact ⟨0, Nat.zero_le _, rfl, hide (fun j hj => absurd hj (by omega)), Below.refl _ _⟩
  case round =>
    obtain ⟨k, hk, rfl, hh, hb⟩ := hrel
    by_cases hlt2 : k < ps.length
    · obtain ⟨p, hp⟩ : ∃ p, ps[k]? = some p := ⟨_, List.getElem?_eq_getElem hlt2⟩
      have hwr := hw.below hb hlt
      have hltr : b < wr.heap.size := Nat.lt_of_lt_of_le hlt hb.size
      obtain ⟨h1, h2, h3, h4⟩ := hwr k p hp
      obtain ⟨hs1, hs2⟩ := hsh p (List.mem_of_getElem? hp)
      have hok : okAt ps k = (nameOk p.name && valOk p.val && !hasB (ps.take k) p.name) := by unfold okAt; rw [hp]
      have htl : (ps.take k).length = k := by rw [List.length_take]; omega
      have HTK := hide (hwr.take k)
      have HL := hide htl
      clear hp hwr htl
      cases hn : nameOk p.name with
      | false =>
        have HN := hide hn
        clear hn hok
        go_wp2_with fail
        first | go_region_with (first | (go_at_call 58; refine (validName_any _ (by exact hs1) _).mono ?_; rintro e w1 ⟨rfl, hb1⟩; rw [show nameOk (BS p.name).data.toList = false from unhide HN]; obtain ⟨hc1, hf1⟩ := bcell hb1; have hz1 : wr.heap.size < w1.heap.size := (by have := hb1.size; simp at this; omega); have hB1 : Below w.heap.size w w1 := below_any (below_alloc hb _).drew hb1)) | fail "no region"
        all_goals (go_wp2_with fail)
        all_goals (go_ret; exact ⟨rfl, hB1⟩)
      | true =>
        have HN := hide hn
        cases hv : valOk p.val with
        | false =>
          have HV := hide hv
          clear hn hv hok
          go_wp2_with fail
          first | go_region_with (first | (go_at_call 58; refine (validName_any _ (by exact hs1) _).mono ?_; rintro e w1 ⟨rfl, hb1⟩; rw [show nameOk (BS p.name).data.toList = true from unhide HN]; obtain ⟨hc1, hf1⟩ := bcell hb1; have hz1 : wr.heap.size < w1.heap.size := (by have := hb1.size; simp at this; omega); have hB1 : Below w.heap.size w w1 := below_any (below_alloc hb _).drew hb1) | (go_at_call 59; refine (validValue_any p.val hs2 _).mono ?_; rintro e w2 ⟨rfl, hb2⟩; rw [unhide HV]; obtain ⟨hc2, hf2⟩ := bcell hb2; have hz2 : wr.heap.size < w2.heap.size := (by have := hb2.size; omega); have hB2 : Below w.heap.size w w2 := below_any hB1 hb2)) | fail "no region"
          all_goals (go_wp2_with fail)
          all_goals (go_ret; exact ⟨rfl, hB2⟩)
        | true =>
          have HV := hide hv
          cases hx : hasB (ps.take k) p.name with
          | true =>
            have HH := hide hx
            clear hn hv hx hok
            go_wp2_with fail
            first | go_region_with (first | (go_at_call 58; refine (validName_any _ (by exact hs1) _).mono ?_; rintro e w1 ⟨rfl, hb1⟩; rw [show nameOk (BS p.name).data.toList = true from unhide HN]; obtain ⟨hc1, hf1⟩ := bcell hb1; have hz1 : wr.heap.size < w1.heap.size := (by have := hb1.size; simp at this; omega); have hB1 : Below w.heap.size w w1 := below_any (below_alloc hb _).drew hb1) | (go_at_call 59; refine (validValue_any p.val hs2 _).mono ?_; rintro e w2 ⟨rfl, hb2⟩; rw [unhide HV]; obtain ⟨hc2, hf2⟩ := bcell hb2; have hz2 : wr.heap.size < w2.heap.size := (by have := hb2.size; omega); have hB2 : Below w.heap.size w w2 := below_any hB1 hb2) | (go_at_call 60; refine (has_k (unhide HL) cap (BS p.name) _ (by omega) (by exact (unhide HTK).later rfl hltr hb1 hb2) (by omega)).mono ?_; rintro e w3 ⟨rfl, hb3⟩; rw [show hasB (ps.take k) (BS p.name).data.toList = true from unhide HH]; have hB3 : Below w.heap.size w w3 := below_any hB2 hb3)) | fail "no region"
            all_goals (go_wp2_with fail)
            all_goals (go_ret; exact ⟨rfl, hB3⟩)
          | false =>
            have HH := hide hx
            have HOK : Hid (∀ j, j < k + 1 → okAt ps j = true) := hide (fun j hj => by
              by_cases hjk : j < k
              · exact unhide hh j hjk
              · have : j = k := by omega
                rw [this, hok, hn, hv, hx]; rfl)
            clear hn hv hx hok
            go_wp2_with fail
            first | go_region_with (first | (go_at_call 58; refine (validName_any _ (by exact hs1) _).mono ?_; rintro e w1 ⟨rfl, hb1⟩; rw [show nameOk (BS p.name).data.toList = true from unhide HN]; obtain ⟨hc1, hf1⟩ := bcell hb1; have hz1 : wr.heap.size < w1.heap.size := (by have := hb1.size; simp at this; omega); have hB1 : Below w.heap.size w w1 := below_any (below_alloc hb _).drew hb1) | (go_at_call 59; refine (validValue_any p.val hs2 _).mono ?_; rintro e w2 ⟨rfl, hb2⟩; rw [unhide HV]; obtain ⟨hc2, hf2⟩ := bcell hb2; have hz2 : wr.heap.size < w2.heap.size := (by have := hb2.size; omega); have hB2 : Below w.heap.size w w2 := below_any hB1 hb2) | (go_at_call 60; refine (has_k (unhide HL) cap (BS p.name) _ (by omega) (by exact (unhide HTK).later rfl hltr hb1 hb2) (by omega)).mono ?_; rintro e w3 ⟨rfl, hb3⟩; rw [show hasB (ps.take k) (BS p.name).data.toList = false from unhide HH]; have hB3 : Below w.heap.size w w3 := below_any hB2 hb3)) | fail "no region"
            all_goals (go_wp2_with fail)
            all_goals exact ⟨⟨k + 1, by omega, by go_num, HOK, hB3⟩, by simp [intOf]; omega⟩
    · have hkn : k = ps.length := by omega
      have := evOk_good h8 (fun j hj => unhide hh j (by omega))
      rw [unhide HNO] at this
      cases this

/-- What Valid says of a list of properties, wherever it lies. -/
theorem evValid_any (b off cap : Nat) (ps : List Pr) (w : World) (hcap : ps.length ≤ cap) (hbig : ps.length ≤ 140737488355328) (hsh : Short ps) (hw : EvAt w b off ps) (hlt : b < w.heap.size) :
    Calls Tryz.prog 37 #[.slice (some ⟨b, off, none⟩) ps.length cap] w fun e w' => e = .returned (.bool (evOk ps)) ∧ Below w.heap.size w w' := by
  cases hok : evOk ps with
  | true => exact valid_good b off cap ps w hcap hbig hsh hw hlt hok
  | false =>
    by_cases h8 : ps.length ≤ 8
    · exact valid_bad b off cap ps w hcap hbig hsh hw hlt h8 hok
    · exact valid_long _ _ cap (by omega) hbig w

set_option maxHeartbeats 1000000 in
theorem valid_empty (a : Option Addr) (cap : Nat) (w : World) :
    Calls Tryz.prog 37 #[.slice a 0 cap] w fun e w' => e = .returned (.bool true) ∧ Below w.heap.size w w' := by
  go_enter Tryz.func37, Tryz.ntmps37
  go_wp2_with fail
  go_loopw [3, 4, 10] (fun _ _ i wr => i = .int .i64 0 ∧ wr = w) (fun _ _ _ _ => 0)
  case atStart => exact ⟨rfl, rfl⟩
  case round =>
    obtain ⟨rfl, rfl⟩ := hrel
    go_wp2_with fail
    go_ret
    exact ⟨rfl, Below.refl _ _⟩
end

end Go.Proofs.YtfkcaldjphakpaaGreatDoor
