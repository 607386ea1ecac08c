/- strconv.ErrRange lies where the rows say. Terms by their sides; classes. demand. Op.Join. digits. The class of a whole selector. The contract of events.Valid. Texts in a slice: Values, AppendSeq, Collect. -/
import Derived.Test.YtfkcaldjphakpabGreatDoorN01
import Derived.Test.YtfkcaldjphakpabGreatDoorRows
import Derived.LaidLaws
import Derived.Lib.LaidU8
import Derived.MakeChecks
import Derived.Test.YtfkcaldjphakpabGreatDoorYRd5
import Derived.Test.YtfkcaldjphakpabGreatDoorYVal3
import Derived.Test.YtfkcaldjphakpabGreatDoorN11
import Derived.Deep.QuietTactic
import Derived.BigQuiet
import Derived.Test.YtfkcaldjphakpabGreatDoorN03
import Derived.Laws.IdiomStrings
import Derived.Laws.Concat
import Derived.Deep.RegionWith
import Derived.RangeFuncBox
import Derived.RangeFuncLeaves
import Derived.Shelf.Abstract
import Derived.WalkKit
import Derived.OwnWalkIn
import Derived.TacticsInMore
import Derived.LoopNIn
import Derived.LoopIn
import Derived.Maps.AppendAt
import Derived.Test.YtfkcaldjphakpabGreatDoorN04
namespace Go.Proofs.YtfkcaldjphakpabGreatDoor
open Go.RowKit

section
theorem errRange : Tryz.prog.globalNamed "strconv.ErrRange" = some 3 := by kernel_rfl
theorem errRangeType : (Tryz.prog.globals[3]?).map (·.type) = some 278 := by kernel_rfl

theorem err_of {W : World} {l : List (String × DataW Unit)} (hm : ("strconv.ErrRange", Rows.laid_strconv_ErrRange) ∈ l) (h : laidMet Tryz.prog l W) : ErrOk W := by
  obtain ⟨g, t, cs, fuel, p, h1, h2, h3, h4⟩ := Lib.laidMet.reads h hm
  obtain rfl : 3 = g := Option.some.inj (errRange.symm.trans h1)
  obtain rfl : 278 = t := Option.some.inj (errRangeType.symm.trans h2)
  obtain ⟨f1, u, v, hcs, _, _⟩ := iface_of_trod Tryz.underlying278 h4
  unfold World.var? at h3
  rw [errRange] at h3
  simp only [Option.bind_some] at h3
  split at h3
  · rename_i c ty fz hh
    injection h3 with h3
    subst h3
    refine ⟨(Array.getElem?_eq_some_iff.1 hh).1, .iface u v, ?_, .inr ⟨u, v, rfl⟩⟩
    have h0 : c[0]? = some (.iface u v) := by
      rw [← Array.getElem?_toList, hcs]; rfl
    rw [World.cell?]
    simp [hh, h0]
  · cases h3
end

section
def payA : Ast → Pay
  | .leaf p => p
  | .un p _ => p
  | .bin p _ _ => p
  | .tri p _ _ _ => p
def sidesA : Ast → List Ast
  | .leaf _ => []
  | .un _ x => [x]
  | .bin _ x y => [x, y]
  | .tri _ x y z => [x, y, z]

/-- The sides of a term lie in a row. -/
def SidesAt (lo : Nat) (w : World) (sv : Value) (ts : List Ast) : Prop :=
  (ts = [] ∧ sv = .slice none 0 0) ∨ ∃ g, sv = .slice (some ⟨g, 0, none⟩) ts.length ts.length ∧ lo < g ∧ g < w.heap.size ∧ ∀ (j : Nat) (x : Ast), ts[j]? = some x → ∃ b, w.cell? ⟨g, j, none⟩ = some (.pointer (some ⟨b, 0, none⟩)) ∧ IsNode lo w (.pointer (some ⟨b, 0, none⟩)) x

theorem IsNode.parts {lo : Nat} {w : World} {v : Value} {t : Ast} (h : IsNode lo w v t) : ∃ b sv, v = .pointer (some ⟨b, 0, none⟩) ∧ NodeAt lo w b (payA t) sv ∧ SidesAt lo w sv (sidesA t) := by
  cases t with
  | leaf p => obtain ⟨b, rfl, h⟩ := h; exact ⟨b, _, rfl, h, .inl ⟨rfl, rfl⟩⟩
  | un p x =>
    obtain ⟨b, g, v1, rfl, h, h1, h2, e1, n1⟩ := h
    refine ⟨b, _, rfl, h, .inr ⟨g, rfl, h1, h2, fun j y hj => ?_⟩⟩
    match j, hj with
    | 0, hj => obtain rfl : x = y := by simpa [sidesA] using hj
               obtain ⟨b1, rfl⟩ := n1.ptr; exact ⟨b1, e1, n1⟩
    | j + 1, hj => simp [sidesA] at hj
  | bin p x y =>
    obtain ⟨b, g, v1, v2, rfl, h, h1, h2, e1, e2, n1, n2⟩ := h
    refine ⟨b, _, rfl, h, .inr ⟨g, rfl, h1, h2, fun j z hj => ?_⟩⟩
    match j, hj with
    | 0, hj => obtain rfl : x = z := by simpa [sidesA] using hj
               obtain ⟨b1, rfl⟩ := n1.ptr; exact ⟨b1, e1, n1⟩
    | 1, hj => obtain rfl : y = z := by simpa [sidesA] using hj
               obtain ⟨b1, rfl⟩ := n2.ptr; exact ⟨b1, e2, n2⟩
    | j + 2, hj => simp [sidesA] at hj
  | tri p x y z =>
    obtain ⟨b, g, v1, v2, v3, rfl, h, h1, h2, e1, e2, e3, n1, n2, n3⟩ := h
    refine ⟨b, _, rfl, h, .inr ⟨g, rfl, h1, h2, fun j u hj => ?_⟩⟩
    match j, hj with
    | 0, hj => obtain rfl : x = u := by simpa [sidesA] using hj
               obtain ⟨b1, rfl⟩ := n1.ptr; exact ⟨b1, e1, n1⟩
    | 1, hj => obtain rfl : y = u := by simpa [sidesA] using hj
               obtain ⟨b1, rfl⟩ := n2.ptr; exact ⟨b1, e2, n2⟩
    | 2, hj => obtain rfl : z = u := by simpa [sidesA] using hj
               obtain ⟨b1, rfl⟩ := n3.ptr; exact ⟨b1, e3, n3⟩
    | j + 3, hj => simp [sidesA] at hj

theorem SidesAt.any {lo : Nat} {w : World} {sv : Value} {ts : List Ast} (h : SidesAt lo w sv ts) : ∃ a, sv = .slice a ts.length ts.length ∧ ∀ (j : Nat) (x : Ast), ts[j]? = some x → ∃ g b, a = some ⟨g, 0, none⟩ ∧ lo < g ∧ g < w.heap.size ∧ w.cell? ⟨g, j, none⟩ = some (.pointer (some ⟨b, 0, none⟩)) ∧ IsNode lo w (.pointer (some ⟨b, 0, none⟩)) x := by
  rcases h with ⟨rfl, rfl⟩ | ⟨g, rfl, h1, h2, h3⟩
  · exact ⟨none, rfl, fun j x hj => by simp at hj⟩
  · exact ⟨some ⟨g, 0, none⟩, rfl, fun j x hj => by obtain ⟨b, hc, hn⟩ := h3 j x hj; exact ⟨g, b, rfl, h1, h2, hc, hn⟩⟩

theorem sides_len (t : Ast) : (sidesA t).length ≤ 3 := by cases t <;> simp [sidesA]

/-- A class, or the place of a wrong one. -/
inductive CRes where
  | ok (c : Int)
  | err (pl : Int)

/-- All sides must be of a class: none, or the place of the fault. -/
def dem (want pl : Int) : List CRes → Bool → Option Int
  | [], fit => if fit then none else some pl
  | .err q :: _, _ => some q
  | .ok c :: t, fit => dem want pl t (fit && (c == want || c == 0))

def demR (want pl c : Int) (rs : List CRes) : CRes := match dem want pl rs true with
  | none => .ok c
  | some q => .err q

/-- Both sides must be of one class, or one of them any. -/
def alikeR (pl : Int) : CRes → CRes → CRes
  | .err q, _ => .err q
  | .ok _, .err q => .err q
  | .ok l, .ok r => if (l != r && l != 0 && r != 0) = true then .err pl else .ok 3

def clsOf (op pl : Int) (rs : List CRes) : CRes :=
  if op == 0 then .ok 0 else if op == 1 then .ok 1 else if op == 2 then .ok 2
  else if op == 5 || op == 6 || op == 7 then demR 3 pl 3 rs
  else if op == 10 || op == 11 || op == 12 || op == 13 || op == 20 then demR 1 pl 3 rs
  else if op == 14 || op == 15 || op == 16 || op == 17 || op == 18 || op == 19 then demR 1 pl 1 rs
  else if op == 8 || op == 9 then (match rs with
    | [a, b] => alikeR pl a b
    | _ => .ok 3)
  else .ok 3

def clsA : Ast → CRes
  | .leaf p => clsOf p.op p.place []
  | .un p x => clsOf p.op p.place [clsA x]
  | .bin p x y => clsOf p.op p.place [clsA x, clsA y]
  | .tri p x y z => clsOf p.op p.place [clsA x, clsA y, clsA z]

theorem clsA_eq (t : Ast) : clsA t = clsOf (payA t).op (payA t).place ((sidesA t).map clsA) := by cases t <;> rfl

/-- Equations have two sides. -/
def WfA : Ast → Prop
  | .leaf p => ¬ p.op = 8 ∧ ¬ p.op = 9
  | .un p x => (¬ p.op = 8 ∧ ¬ p.op = 9) ∧ WfA x
  | .bin _ x y => WfA x ∧ WfA y
  | .tri p x y z => (¬ p.op = 8 ∧ ¬ p.op = 9) ∧ WfA x ∧ WfA y ∧ WfA z

theorem WfA.side {t x : Ast} (h : WfA t) (hx : x ∈ sidesA t) : WfA x := by
  cases t with
  | leaf p => simp [sidesA] at hx
  | un p y => simp [sidesA] at hx; subst hx; exact h.2
  | bin p y z => simp [sidesA] at hx; rcases hx with rfl | rfl; exact h.1; exact h.2
  | tri p y z u => simp [sidesA] at hx; rcases hx with rfl | rfl | rfl; exact h.2.1; exact h.2.2.1; exact h.2.2.2

/-- How a call that looks at classes ends. -/
def ClsEnds (w : World) (r : CRes) (e : Ending) (w' : World) : Prop :=
  Below w.heap.size w w' ∧ match r with
  | .ok c => e = .returned (.int .i64 c)
  | .err pl => e = gaveUp 4 pl

/-- The method class says what it should of a term. -/
def ClsOk (lo : Nat) (t : Ast) : Prop := ∀ (w : World) (v : Value), IsNode lo w v t → Calls Tryz.prog 88 #[v] w (ClsEnds w (clsA t))

theorem dem_err {want pl q : Int} {rs : List CRes} {j : Nat} {fit : Bool} (h : rs[j]? = some (.err q)) : dem want pl (rs.drop j) fit = some q := by
  obtain ⟨hj, he⟩ := List.getElem?_eq_some_iff.1 h
  rw [List.drop_eq_getElem_cons hj, he]; rfl
theorem dem_ok {want pl c : Int} {rs : List CRes} {j : Nat} {fit : Bool} (h : rs[j]? = some (.ok c)) : dem want pl (rs.drop j) fit = dem want pl (rs.drop (j + 1)) (fit && (c == want || c == 0)) := by
  obtain ⟨hj, he⟩ := List.getElem?_eq_some_iff.1 h
  rw [List.drop_eq_getElem_cons hj, he]; rfl
theorem dem_end {want pl : Int} {rs : List CRes} {j : Nat} {fit : Bool} (h : rs.length ≤ j) : dem want pl (rs.drop j) fit = if fit then none else some pl := by
  rw [List.drop_of_length_le h]; rfl
end

section
/-- How a demand ends. -/
def DemEnds (w : World) (r : Option Int) (e : Ending) (w' : World) : Prop := Below w.heap.size w w' ∧ match r with
  | none => e = .returned (.tuple #[])
  | some q => e = gaveUp 4 q

set_option maxHeartbeats 1000000 in
set_option maxRecDepth 100000 in
theorem demand_any (lo : Nat) (t : Ast) (hcls : ∀ x ∈ sidesA t, ClsOk lo x) (want : Int) (w : World) (v : Value) (h : IsNode lo w v t) :
    Calls Tryz.prog 135 #[v, .int .i64 want] w (DemEnds w (dem want (payA t).place ((sidesA t).map clsA) true)) := by
  obtain ⟨R, hR⟩ : ∃ r, dem want (payA t).place ((sidesA t).map clsA) true = r := ⟨_, rfl⟩
  rw [hR]
  have HR := hide hR
  obtain ⟨b, sv, rfl, hnode, hsides⟩ := h.parts
  obtain ⟨a, rfl, hside⟩ := hsides.any
  have hn3 := sides_len t
  obtain ⟨hab, hbw, c0, c1, c2, c3, c4, c5, c6⟩ := hnode
  obtain ⟨n, hn⟩ : ∃ n, (sidesA t).length = n := ⟨_, rfl⟩
  rw [hn] at c2 hn3
  have HN := hide hn
  have HS := hide hside
  have HC := hide hcls
  obtain ⟨pl, hpl⟩ : ∃ pl, (payA t).place = pl := ⟨_, rfl⟩
  rw [hpl] at c1 HR
  clear hR hsides h c0 c3 c4 c5 c6 hn hside hcls hpl
  go_enter Tryz.func135, Tryz.ntmps135
  go_wp2_with fail
  go_loopw [4, 13] (fun fit i wr => ∃ (j : Nat) (fb : Bool), j ≤ n ∧ i = .int .i64 j ∧ fit = .bool fb ∧ Hid (R = dem want pl (((sidesA t).map clsA).drop j) fb) ∧ Below w.heap.size w wr) (fun _ i _ => n - (intOf i).toNat)
  case atStart => exact ⟨0, true, Nat.zero_le _, rfl, rfl, hide (by rw [List.drop_zero, unhide HR]), Below.refl _ _⟩
  case round =>
    obtain ⟨j, fb, hj, rfl, rfl, hh, hbel⟩ := hrel
    have d1 := (hbel.cell (p := ⟨b, 1, none⟩) hbw).trans c1
    by_cases hlt : j < n
    · obtain ⟨x, hx⟩ : ∃ x, (sidesA t)[j]? = some x := ⟨_, List.getElem?_eq_getElem (by rw [unhide HN]; exact hlt)⟩
      obtain ⟨g, bx, rfl, hg1, hg2, hcx, hnx⟩ := unhide HS j x hx
      have dx := (hbel.cell (p := ⟨g, j, none⟩) hg2).trans hcx
      have hxm : x ∈ sidesA t := List.mem_of_getElem? hx
      have HNX := hide (hnx.kept (Kept.of_below hbel))
      have hm : ((sidesA t).map clsA)[j]? = some (clsA x) := by rw [List.getElem?_map, hx]; rfl
      have CX := hide (unhide HC x hxm)
      clear hx hnx hcx hxm
      cases hcl : clsA x with
      | err q =>
        have HT : Hid (R = some q) := hide (by rw [unhide hh, dem_err (by rw [hm, hcl])])
        have HCL := hide hcl
        clear hh hm hcl
        go_wp2_with (go_at_call 88; refine (unhide CX _ _ (unhide HNX)).mono ?_; rintro e w1 ⟨hb1, h1⟩; rw [unhide HCL] at h1; subst h1; simp only [gaveUp])
        rw [unhide HT]
        exact ⟨rfl, below_any hbel hb1, rfl⟩
      | ok c =>
        have HT : Hid (R = dem want pl (((sidesA t).map clsA).drop (j + 1)) (fb && (c == want || c == 0))) := hide (by rw [unhide hh, dem_ok (by rw [hm, hcl])])
        have HCL := hide hcl
        clear hh hm hcl
        cases fb <;> cases hcw : (c == want) <;> cases hc0 : (c == 0)
        all_goals
          rw [hcw, hc0] at HT
          simp only [Bool.and_true, Bool.and_false, Bool.or_true, Bool.or_false, Bool.or_self, Bool.and_self] at HT
          go_wp2_with (go_at_call 88; refine (unhide CX _ _ (unhide HNX)).mono ?_; rintro e w1 ⟨hb1, h1⟩; rw [unhide HCL] at h1; subst h1)
          go_roundw
          case rel => exact ⟨j + 1, _, by omega, by go_num, rfl, HT, below_any hbel hb1⟩
          case measure => simp [intOf]; omega
    · have HT : Hid (R = if fb then none else some pl) := hide (by rw [unhide hh, dem_end (by rw [List.length_map, unhide HN]; omega)])
      clear hh
      cases fb
      · go_wp2_with fail
        rw [unhide HT]
        exact ⟨rfl, hbel, rfl⟩
      · go_wp2_with fail
        go_end0
        rw [unhide HT]
        exact ⟨hbel, rfl⟩
end

section
def joinV (op : Int) (x y : V) : V :=
  if op = 5 then notV x else if op = 6 then andV x y else if op = 7 then orV x y else if op = 8 then eqV x y else if op = 9 then notV (eqV x y)
  else if op = 12 then lessV y x else if op = 10 then lessV x y else if op = 13 then leV y x else if op = 11 then leV x y
  else if op = 14 then addV (iV 0) x else if op = 16 then addV x y else if op = 15 then subV (iV 0) x else if op = 17 then subV x y
  else if op = 18 then mulV x y else if op = 19 then divV x y else bV (x.kind == 0)

theorem rng0 : Rng 0 := ⟨by decide, by decide⟩
end

section
/-- A number in base ten. -/
def dig (n : Nat) : UInt8 := UInt8.ofNat (48 + n % 10)
theorem BS_add (a b : List UInt8) : BS a ++ BS b = BS (a ++ b) := by
  apply ByteArray.ext
  show (BS a ++ BS b).data = _
  rw [ByteArray.data_append]
  simp [BS]
end

section
/-- None: the selector is bool or any. -/
def chkR : CRes → Option Int
  | .err q => some q
  | .ok c => if (c != 3 && c != 0) = true then some 0 else none
end

section
theorem EvAt.take {w : World} {b off : Nat} {ps : List Pr} (h : EvAt w b off ps) (k : Nat) : EvAt w b off (ps.take k) := by
  intro j p hj
  rw [List.getElem?_take] at hj
  split at hj
  · exact h j p hj
  · cases hj

theorem EvAt.later {w W w1 w2 : World} {b off : Nat} {ps : List Pr} {o : Obj} (h : EvAt w b off ps) (hW : W = (w.alloc o).drew) (hlt : b < w.heap.size) (hb1 : Below W.heap.size W w1) (hb2 : Below w1.heap.size w1 w2) : EvAt w2 b off ps := by
  subst hW
  have h1 : EvAt (w.alloc o).drew b off ps := h.below ((Below.refl _ _).alloc (Nat.le_refl _) o).drew hlt
  have hlt1 : b < (w.alloc o).drew.heap.size := by show b < (w.alloc o).heap.size; simp; omega
  exact (h1.below hb1 hlt1).below hb2 (Nat.lt_of_lt_of_le hlt1 hb1.size)
end

section
open Go.RowKit Go.Shelf

attribute [local go_sem] Oper.semAt_some

/-- The first k texts. -/
def tsUpto (ts : List (List UInt8)) (k : Nat) : List (List UInt8) := (List.range k).map fun j => ts[j]?.getD []
theorem tsUpto_succ (ts : List (List UInt8)) (k : Nat) : tsUpto ts (k + 1) = tsUpto ts k ++ [ts[k]?.getD []] := by simp [tsUpto, List.range_succ]
theorem tsUpto_length (ts : List (List UInt8)) (k : Nat) : (tsUpto ts k).length = k := by simp [tsUpto]
theorem tsUpto_all (ts : List (List UInt8)) : tsUpto ts ts.length = ts := by
  apply List.ext_getElem
  · simp [tsUpto]
  · intro i h1 h2
    simp [tsUpto, h2]

set_option maxRecDepth 100000 in
set_option maxHeartbeats 2000000 in
/-- What Values hands back, called with a loop's body that keeps what lay below n₀. -/
theorem values1_in (n : Nat) (hn : 1 ≤ n) (l Bs n₀ b cap : Nat) (ts : List (List UInt8)) (hlen : ts.length ≤ 1000) (hb : b < n₀) (J Jx : List (List UInt8) → World → Prop)
    (hY : ∀ pre x W, J pre W → pre.length < ts.length → YieldAt Fence.wide (n - 1) Tryz.prog l #[.string (BS x)] W fun e W' =>
      (e = .returned (.bool true) ∧ J (pre ++ [x]) W' ∧ Below n₀ W W') ∨ (e = .returned (.bool false) ∧ Jx (pre ++ [x]) W'))
    (W : World) (hBs : W.cell? ⟨Bs, 0, none⟩ = some (.slice (some ⟨b, 0, none⟩) ts.length cap)) (hc : ∀ j, j < ts.length → W.cell? ⟨b, j, none⟩ = some (.string (BS (ts[j]?.getD [])))) (h0 : J [] W) :
    CallsIn Fence.wide n Tryz.prog 188 #[.func (.yield l) #[] #[], .pointer (some ⟨Bs, 0, none⟩)] W fun e W' => (∃ v, e = .returned v) ∧
      ((∃ ys, ys = ts ∧ J ys W') ∨ (∃ pre, pre.length ≤ ts.length ∧ Jx pre W')) := by
  obtain ⟨len, hl⟩ : ∃ len, ts.length = len := ⟨_, rfl⟩
  rw [hl] at hlen hY hBs hc
  have HL := hide hl
  clear hl
  refine callsIn_of_wp Tryz.func188 rfl trivial ?_ rfl
  simp only [Tryz.ntmps188, List.size_toArray, List.length_cons, List.length_nil, Nat.reduceAdd, Nat.reduceSub, Array.replicate_succ, Array.replicate_zero, List.push_toArray, List.append_toArray, List.nil_append, List.cons_append]
  gi_wp2
  gi_loopw [7] (fun i wr => ∃ k : Nat, k ≤ len ∧ i = .int .i64 k ∧ J (tsUpto ts k) wr ∧ Below n₀ W wr)
    (fun i _ => len - (intOf i).toNat)
  case atStart => exact ⟨0, Nat.zero_le _, rfl, h0, Below.refl _ _⟩
  case round =>
    obtain ⟨k, hk, rfl, hJs, hnx⟩ := hrel
    have hcx : k < len → wr.cell? ⟨b, k, none⟩ = some (.string (BS (ts[k]?.getD []))) := fun h => (hnx.cell (p := ⟨b, k, none⟩) hb).trans (hc k h)
    by_cases hlt : k < len
    · obtain ⟨fn, tmps, assign, body, hy, hR⟩ := hY _ (ts[k]?.getD []) wr hJs (by rw [tsUpto_length]; exact hlt)
      have hcx' := hcx hlt
      gi_wp2
      refine hR.mono ?_
      rintro e W3 (⟨rfl, hJ3, hk3⟩ | ⟨rfl, hJx3⟩)
      · gi_wp2
        go_roundw
        case rel => exact ⟨k + 1, by omega, by simp, by rw [tsUpto_succ]; exact hJ3, hnx.trans hk3⟩
        case measure => simp [intOf]; omega
      · gi_wp2
        refine bodyPost_ret (results_none rfl _ _ _) rfl ?_
        exact ⟨⟨_, rfl⟩, .inr ⟨_, by rw [List.length_append, tsUpto_length, unhide HL]; simp; omega, hJx3⟩⟩
    · obtain rfl : k = len := by omega
      gi_wp2
      go_end0
      exact ⟨⟨_, rfl⟩, .inl ⟨_, by rw [← unhide HL, tsUpto_all], hJs⟩⟩

theorem values_stops (n : Nat) (hn : 1 ≤ n) (Bs n₀ b cap : Nat) (ts : List (List UInt8)) (hlen : ts.length ≤ 1000) (hb : b < n₀) (w : World) (hBs : Bs < w.heap.size) (hn₀ : n₀ ≤ w.heap.size)
    (hc : w.cell? ⟨Bs, 0, none⟩ = some (.slice (some ⟨b, 0, none⟩) ts.length cap)) (hcs : ∀ j, j < ts.length → w.cell? ⟨b, j, none⟩ = some (.string (BS (ts[j]?.getD [])))) :
    SeqStopsK Fence.wide n Tryz.prog 188 #[.pointer (some ⟨Bs, 0, none⟩)] (fun x : List UInt8 => #[Value.string (BS x)]) (Below n₀) (fun ys => ys = ts) (fun pre => pre.length ≤ ts.length) ts.length w := fun l J Jx W hW _ _ hY h0 =>
  values1_in n hn l Bs n₀ b cap ts hlen hb J Jx hY W ((hW.cell (p := ⟨Bs, 0, none⟩) hBs).trans hc) (fun j hj => ((hW.mono hn₀).cell (p := ⟨b, j, none⟩) hb).trans (hcs j hj)) h0

theorem info_strg : (Tryz.prog.info? 9).map (fun i => (i.zero, i.size, i.bytes)) = some (some (.string ⟨#[]⟩), 1, 16) := by kernel_rfl

set_option maxRecDepth 100000 in
set_option maxHeartbeats 2000000 in
/-- AppendSeq onto nil of what Values hands back: the texts in a row of their own. -/
theorem appendSeq_in (n : Nat) (hn : 2 ≤ n) (Bs b cap : Nat) (ts : List (List UInt8)) (hlen : ts.length ≤ 1000) (w : World) (hb : b < w.heap.size) (hBs : Bs < w.heap.size)
    (hc : w.cell? ⟨Bs, 0, none⟩ = some (.slice (some ⟨b, 0, none⟩) ts.length cap)) (hcs : ∀ j, j < ts.length → w.cell? ⟨b, j, none⟩ = some (.string (BS (ts[j]?.getD [])))) :
    CallsIn Fence.wide n Tryz.prog 217 #[.slice none 0 0, .func (.func 188) #[] #[.pointer (some ⟨Bs, 0, none⟩)]] w fun e w' => ∃ v, e = .returned v ∧ w'.ownsRow w.heap.size 9 1 v ts.length (ts.map fun x => .string (BS x)) ∧ Below w.heap.size w w' := by
  have h1 : 1 ≤ n := by omega
  obtain ⟨i0, hi, hz0, hz1, hz2⟩ := info_parts info_strg
  refine callsIn_of_wp_marks Tryz.func217 rfl trivial ?_ rfl
  simp only [Tryz.ntmps217, List.size_toArray, List.length_cons, List.length_nil, Nat.reduceAdd, Nat.reduceSub, Array.replicate_succ, Array.replicate_zero, List.push_toArray, List.append_toArray, List.nil_append, List.cons_append]
  gi_wp2
  have bO := Boxed.new w 30 (.slice none 0 0)
  have hB0 : Below w.heap.size w (w.alloc (.cells #[.slice none 0 0] 30)) := (Below.refl _ w).alloc (Nat.le_refl _) _
  refine wpIn_rangeFunc_ownG rfl h1 (gf := 188) (lb := #[.pointer (some ⟨Bs, 0, none⟩)]) rfl trivial (enters_of Tryz.func188 (by kernel_rfl) rfl)
    (values_stops (n - 1) (by omega) Bs w.heap.size b cap ts hlen hb (w.alloc (.cells #[.slice none 0 0] 30)) (by simp; omega) (by simp) ((hB0.cell (p := ⟨Bs, 0, none⟩) hBs).trans hc) (fun j hj => (hB0.cell (p := ⟨b, j, none⟩) hb).trans (hcs j hj))) belowK_t (belowK_b (by simp)) (Below.refl _ _) (fun _ => rfl)
    (fun (pre : List (List UInt8)) W => (∃ v, Boxed W w.heap.size 30 v ∧ W.ownsRow w.heap.size 9 1 v pre.length (pre.map fun x => .string (BS x)) ∧ True) ∧ Below w.heap.size w W)
    (fun _ _ _ => False)
    (OwnFrom.and (Own.from (holdsRow_own w.heap.size w.heap.size 30 9 1 (fun (pre : List (List UInt8)) => pre.length) (fun (pre : List (List UInt8)) => pre.map fun x => Value.string (BS x)) (fun _ _ => True)) _) (ownFrom_below (Nat.le_refl _) (by simp)))
    (fun _ _ _ _ _ hs _ _ => hs)
    ⟨⟨_, bO, World.ownsRow_nil _ _ _ _, trivial⟩, hB0⟩
    (fun x => { tmps := #[.slice none 0 0, .func (.func 188) #[] #[.pointer (some ⟨Bs, 0, none⟩)], .pointer (some ⟨w.heap.size, 0, none⟩), undef, .slice none 0 0, .string (BS x), .func (.func 188) #[] #[.pointer (some ⟨Bs, 0, none⟩)], .string (BS x), undef, undef, undef, undef, undef], defers := [] }) ?assign ?body ?done ?stop
  case assign =>
    intro l x W K hK
    gi_wp2
    exact hK
  case body =>
    rintro l pre x W ⟨⟨v, hv, hrow, _⟩, hB⟩ hlt
    have hc := hv.cell
    gi_wp2_with (gi_at_builtin; refine wpListIn_append_own _ rfl _ _ 30 rfl w.heap.size 9 i0 (.string ⟨#[]⟩) 1 16 Tryz.underlying30 hi hz0 hz1 hz2 rfl (by decide) _ _ _ rfl (hrow.alloc _) ⟨W.heap.size, 0, none⟩ 1 1 [.string (BS x)] rfl rfl (cell_one_new _ _ _) (by simp [Value.oneCell']) (by unfold maxLen; omega) (by omega) (by have := hB.size; simp; omega) ?_; intro v' w1 hown' hgrow _; obtain ⟨g', cap', rfl⟩ := ownsRow_succ hown'; obtain ⟨hv1, hv2, hr2, hk2, hb2⟩ := hv.appended (by decide) hrow hB.size (Nat.le_refl _) hown' hgrow; have hc1 := hv1.cell; have hf1 := hv1.frozen)
    exact ⟨hk2.from _, hb2, ⟨_, hv2, by simpa using hr2, trivial⟩, hB.trans hb2⟩
  case done =>
    rintro D ys W hD rfl ⟨⟨v, hv, hrow, _⟩, hB⟩ hK
    have hc := hv.cell
    gi_wp2
    refine ⟨by simp, .inl ⟨_, _, rfl, run_takeDeferred hK, ?_⟩⟩
    exact ⟨_, results_tmp rfl _ _ _, v, rfl, ownsRow_putObj hrow _ hK rfl, hB.trans (belowK_b (w := w) (Nat.le_refl _) W D _ _ (by simp at hD; omega) hK rfl rfl)⟩
  case stop =>
    rintro D c pre W _ _ h _
    exact h.elim
end

end Go.Proofs.YtfkcaldjphakpabGreatDoor
