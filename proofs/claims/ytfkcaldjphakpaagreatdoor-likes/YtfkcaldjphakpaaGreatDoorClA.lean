/- Terms by their sides; classes. demand. The class of a whole selector. -/
import Derived.Test.YtfkcaldjphakpaaGreatDoorRdB
namespace Go.Proofs.YtfkcaldjphakpaaGreatDoor
open Go.RowKit

section
def payA : Ast → Pay
  | .leaf p => p
  | .un p _ => p
  | .bin p _ _ => p
  | .tri p _ _ _ => p
def sidesA : Ast → List Ast
  | .leaf _ => []
  | .un _ x => [x]
  | .bin _ x y => [x, y]
  | .tri _ x y z => [x, y, z]

/-- The sides of a term lie in a row. -/
def SidesAt (lo : Nat) (w : World) (sv : Value) (ts : List Ast) : Prop :=
  (ts = [] ∧ sv = .slice none 0 0) ∨ ∃ g, sv = .slice (some ⟨g, 0, none⟩) ts.length ts.length ∧ lo < g ∧ g < w.heap.size ∧ ∀ (j : Nat) (x : Ast), ts[j]? = some x → ∃ b, w.cell? ⟨g, j, none⟩ = some (.pointer (some ⟨b, 0, none⟩)) ∧ IsNode lo w (.pointer (some ⟨b, 0, none⟩)) x

theorem IsNode.parts {lo : Nat} {w : World} {v : Value} {t : Ast} (h : IsNode lo w v t) : ∃ b sv, v = .pointer (some ⟨b, 0, none⟩) ∧ NodeAt lo w b (payA t) sv ∧ SidesAt lo w sv (sidesA t) := by
  cases t with
  | leaf p => obtain ⟨b, rfl, h⟩ := h; exact ⟨b, _, rfl, h, .inl ⟨rfl, rfl⟩⟩
  | un p x =>
    obtain ⟨b, g, v1, rfl, h, h1, h2, e1, n1⟩ := h
    refine ⟨b, _, rfl, h, .inr ⟨g, rfl, h1, h2, fun j y hj => ?_⟩⟩
    match j, hj with
    | 0, hj => obtain rfl : x = y := by simpa [sidesA] using hj
               obtain ⟨b1, rfl⟩ := n1.ptr; exact ⟨b1, e1, n1⟩
    | j + 1, hj => simp [sidesA] at hj
  | bin p x y =>
    obtain ⟨b, g, v1, v2, rfl, h, h1, h2, e1, e2, n1, n2⟩ := h
    refine ⟨b, _, rfl, h, .inr ⟨g, rfl, h1, h2, fun j z hj => ?_⟩⟩
    match j, hj with
    | 0, hj => obtain rfl : x = z := by simpa [sidesA] using hj
               obtain ⟨b1, rfl⟩ := n1.ptr; exact ⟨b1, e1, n1⟩
    | 1, hj => obtain rfl : y = z := by simpa [sidesA] using hj
               obtain ⟨b1, rfl⟩ := n2.ptr; exact ⟨b1, e2, n2⟩
    | j + 2, hj => simp [sidesA] at hj
  | tri p x y z =>
    obtain ⟨b, g, v1, v2, v3, rfl, h, h1, h2, e1, e2, e3, n1, n2, n3⟩ := h
    refine ⟨b, _, rfl, h, .inr ⟨g, rfl, h1, h2, fun j u hj => ?_⟩⟩
    match j, hj with
    | 0, hj => obtain rfl : x = u := by simpa [sidesA] using hj
               obtain ⟨b1, rfl⟩ := n1.ptr; exact ⟨b1, e1, n1⟩
    | 1, hj => obtain rfl : y = u := by simpa [sidesA] using hj
               obtain ⟨b1, rfl⟩ := n2.ptr; exact ⟨b1, e2, n2⟩
    | 2, hj => obtain rfl : z = u := by simpa [sidesA] using hj
               obtain ⟨b1, rfl⟩ := n3.ptr; exact ⟨b1, e3, n3⟩
    | j + 3, hj => simp [sidesA] at hj

theorem SidesAt.any {lo : Nat} {w : World} {sv : Value} {ts : List Ast} (h : SidesAt lo w sv ts) : ∃ a, sv = .slice a ts.length ts.length ∧ ∀ (j : Nat) (x : Ast), ts[j]? = some x → ∃ g b, a = some ⟨g, 0, none⟩ ∧ lo < g ∧ g < w.heap.size ∧ w.cell? ⟨g, j, none⟩ = some (.pointer (some ⟨b, 0, none⟩)) ∧ IsNode lo w (.pointer (some ⟨b, 0, none⟩)) x := by
  rcases h with ⟨rfl, rfl⟩ | ⟨g, rfl, h1, h2, h3⟩
  · exact ⟨none, rfl, fun j x hj => by simp at hj⟩
  · exact ⟨some ⟨g, 0, none⟩, rfl, fun j x hj => by obtain ⟨b, hc, hn⟩ := h3 j x hj; exact ⟨g, b, rfl, h1, h2, hc, hn⟩⟩

theorem sides_len (t : Ast) : (sidesA t).length ≤ 3 := by cases t <;> simp [sidesA]

/-- A class, or the place of a wrong one. -/
inductive CRes where
  | ok (c : Int)
  | err (pl : Int)

/-- All sides must be of a class: none, or the place of the fault. -/
def dem (want pl : Int) : List CRes → Bool → Option Int
  | [], fit => if fit then none else some pl
  | .err q :: _, _ => some q
  | .ok c :: t, fit => dem want pl t (fit && (c == want || c == 0))

def demR (want pl c : Int) (rs : List CRes) : CRes := match dem want pl rs true with
  | none => .ok c
  | some q => .err q

/-- Both sides must be of one class, or one of them any. -/
def alikeR (pl : Int) : CRes → CRes → CRes
  | .err q, _ => .err q
  | .ok _, .err q => .err q
  | .ok l, .ok r => if (l != r && l != 0 && r != 0) = true then .err pl else .ok 3

def clsOf (op pl : Int) (rs : List CRes) : CRes :=
  if op == 0 then .ok 0 else if op == 1 then .ok 1 else if op == 2 then .ok 2
  else if op == 5 || op == 6 || op == 7 then demR 3 pl 3 rs
  else if op == 10 || op == 11 || op == 12 || op == 13 || op == 20 then demR 1 pl 3 rs
  else if op == 14 || op == 15 || op == 16 || op == 17 || op == 18 || op == 19 then demR 1 pl 1 rs
  else if op == 8 || op == 9 then (match rs with
    | [a, b] => alikeR pl a b
    | _ => .ok 3)
  else .ok 3

def clsA : Ast → CRes
  | .leaf p => clsOf p.op p.place []
  | .un p x => clsOf p.op p.place [clsA x]
  | .bin p x y => clsOf p.op p.place [clsA x, clsA y]
  | .tri p x y z => clsOf p.op p.place [clsA x, clsA y, clsA z]

theorem clsA_eq (t : Ast) : clsA t = clsOf (payA t).op (payA t).place ((sidesA t).map clsA) := by cases t <;> rfl

/-- Equations have two sides. -/
def WfA : Ast → Prop
  | .leaf p => ¬ p.op = 8 ∧ ¬ p.op = 9
  | .un p x => (¬ p.op = 8 ∧ ¬ p.op = 9) ∧ WfA x
  | .bin _ x y => WfA x ∧ WfA y
  | .tri p x y z => (¬ p.op = 8 ∧ ¬ p.op = 9) ∧ WfA x ∧ WfA y ∧ WfA z

theorem WfA.side {t x : Ast} (h : WfA t) (hx : x ∈ sidesA t) : WfA x := by
  cases t with
  | leaf p => simp [sidesA] at hx
  | un p y => simp [sidesA] at hx; subst hx; exact h.2
  | bin p y z => simp [sidesA] at hx; rcases hx with rfl | rfl; exact h.1; exact h.2
  | tri p y z u => simp [sidesA] at hx; rcases hx with rfl | rfl | rfl; exact h.2.1; exact h.2.2.1; exact h.2.2.2

/-- How a call that looks at classes ends. -/
def ClsEnds (w : World) (r : CRes) (e : Ending) (w' : World) : Prop :=
  Below w.heap.size w w' ∧ match r with
  | .ok c => e = .returned (.int .i64 c)
  | .err pl => e = gaveUp 4 pl

/-- The method class says what it should of a term. -/
def ClsOk (lo : Nat) (t : Ast) : Prop := ∀ (w : World) (v : Value), IsNode lo w v t → Calls Tryz.prog 104 #[v] w (ClsEnds w (clsA t))

theorem dem_err {want pl q : Int} {rs : List CRes} {j : Nat} {fit : Bool} (h : rs[j]? = some (.err q)) : dem want pl (rs.drop j) fit = some q := by
  obtain ⟨hj, he⟩ := List.getElem?_eq_some_iff.1 h
  rw [List.drop_eq_getElem_cons hj, he]; rfl
theorem dem_ok {want pl c : Int} {rs : List CRes} {j : Nat} {fit : Bool} (h : rs[j]? = some (.ok c)) : dem want pl (rs.drop j) fit = dem want pl (rs.drop (j + 1)) (fit && (c == want || c == 0)) := by
  obtain ⟨hj, he⟩ := List.getElem?_eq_some_iff.1 h
  rw [List.drop_eq_getElem_cons hj, he]; rfl
theorem dem_end {want pl : Int} {rs : List CRes} {j : Nat} {fit : Bool} (h : rs.length ≤ j) : dem want pl (rs.drop j) fit = if fit then none else some pl := by
  rw [List.drop_of_length_le h]; rfl
end

section
/-- How a demand ends. -/
def DemEnds (w : World) (r : Option Int) (e : Ending) (w' : World) : Prop := Below w.heap.size w w' ∧ match r with
  | none => e = .returned (.tuple #[])
  | some q => e = gaveUp 4 q

set_option maxHeartbeats 1000000 in
set_option maxRecDepth 100000 in
theorem demand_any (lo : Nat) (t : Ast) (hcls : ∀ x ∈ sidesA t, ClsOk lo x) (want : Int) (w : World) (v : Value) (h : IsNode lo w v t) :
    Calls Tryz.prog 148 #[v, .int .i64 want] w (DemEnds w (dem want (payA t).place ((sidesA t).map clsA) true)) := by
  obtain ⟨R, hR⟩ : ∃ r, dem want (payA t).place ((sidesA t).map clsA) true = r := ⟨_, rfl⟩
  rw [hR]
  have HR := hide hR
  obtain ⟨b, sv, rfl, hnode, hsides⟩ := h.parts
  obtain ⟨a, rfl, hside⟩ := hsides.any
  have hn3 := sides_len t
  obtain ⟨hab, hbw, c0, c1, c2, c3, c4, c5, c6⟩ := hnode
  obtain ⟨n, hn⟩ : ∃ n, (sidesA t).length = n := ⟨_, rfl⟩
  rw [hn] at c2 hn3
  have HN := hide hn
  have HS := hide hside
  have HC := hide hcls
  obtain ⟨pl, hpl⟩ : ∃ pl, (payA t).place = pl := ⟨_, rfl⟩
  rw [hpl] at c1 HR
  clear hR hsides h c0 c3 c4 c5 c6 hn hside hcls hpl
  go_enter Tryz.func148, Tryz.ntmps148
  go_wp2_with fail
  go_loopw [4, 13] (fun fit i wr => ∃ (j : Nat) (fb : Bool), j ≤ n ∧ i = .int .i64 j ∧ fit = .bool fb ∧ Hid (R = dem want pl (((sidesA t).map clsA).drop j) fb) ∧ Below w.heap.size w wr) (fun _ i _ => n - (intOf i).toNat)
  case atStart => exact ⟨0, true, Nat.zero_le _, rfl, rfl, hide (by rw [List.drop_zero, unhide HR]), Below.refl _ _⟩
  case round =>
    obtain ⟨j, fb, hj, rfl, rfl, hh, hbel⟩ := hrel
    have d1 := (hbel.cell (p := ⟨b, 1, none⟩) hbw).trans c1
    by_cases hlt : j < n
    · obtain ⟨x, hx⟩ : ∃ x, (sidesA t)[j]? = some x := ⟨_, List.getElem?_eq_getElem (by rw [unhide HN]; exact hlt)⟩
      obtain ⟨g, bx, rfl, hg1, hg2, hcx, hnx⟩ := unhide HS j x hx
      have dx := (hbel.cell (p := ⟨g, j, none⟩) hg2).trans hcx
      have hxm : x ∈ sidesA t := List.mem_of_getElem? hx
      have HNX := hide (hnx.kept (Kept.of_below hbel))
      have hm : ((sidesA t).map clsA)[j]? = some (clsA x) := by rw [List.getElem?_map, hx]; rfl
      have CX := hide (unhide HC x hxm)
      clear hx hnx hcx hxm
      cases hcl : clsA x with
      | err q =>
        have HT : Hid (R = some q) := hide (by rw [unhide hh, dem_err (by rw [hm, hcl])])
        have HCL := hide hcl
        clear hh hm hcl
        go_wp2_with (go_at_call 104; refine (unhide CX _ _ (unhide HNX)).mono ?_; rintro e w1 ⟨hb1, h1⟩; rw [unhide HCL] at h1; subst h1; simp only [gaveUp])
        rw [unhide HT]
        exact ⟨rfl, below_any hbel hb1, rfl⟩
      | ok c =>
        have HT : Hid (R = dem want pl (((sidesA t).map clsA).drop (j + 1)) (fb && (c == want || c == 0))) := hide (by rw [unhide hh, dem_ok (by rw [hm, hcl])])
        have HCL := hide hcl
        clear hh hm hcl
        cases fb <;> cases hcw : (c == want) <;> cases hc0 : (c == 0)
        all_goals
          rw [hcw, hc0] at HT
          simp only [Bool.and_true, Bool.and_false, Bool.or_true, Bool.or_false, Bool.or_self, Bool.and_self] at HT
          go_wp2_with (go_at_call 104; refine (unhide CX _ _ (unhide HNX)).mono ?_; rintro e w1 ⟨hb1, h1⟩; rw [unhide HCL] at h1; subst h1)
          go_roundw
          case rel => exact ⟨j + 1, _, by omega, by go_num, rfl, HT, below_any hbel hb1⟩
          case measure => simp [intOf]; omega
    · have HT : Hid (R = if fb then none else some pl) := hide (by rw [unhide hh, dem_end (by rw [List.length_map, unhide HN]; omega)])
      clear hh
      cases fb
      · go_wp2_with fail
        rw [unhide HT]
        exact ⟨rfl, hbel, rfl⟩
      · go_wp2_with fail
        go_end0
        rw [unhide HT]
        exact ⟨hbel, rfl⟩
end

section
/-- None: the selector is bool or any. -/
def chkR : CRes → Option Int
  | .err q => some q
  | .ok c => if (c != 3 && c != 0) = true then some 0 else none
end

end Go.Proofs.YtfkcaldjphakpaaGreatDoor
