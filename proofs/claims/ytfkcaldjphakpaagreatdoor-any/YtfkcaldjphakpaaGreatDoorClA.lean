/- Terms by their sides; classes. demand. All levels of the reader together. The class of a whole selector. The numbers of what is read fit an int64. What a term is of an event. The strings of what is read are short, its texts few. Quoted texts and patterns, as lists of bytes. -/
import Derived.Test.YtfkcaldjphakpaaGreatDoorRdB
import Derived.Test.YtfkcaldjphakpaaGreatDoorRdI
import Derived.Test.YtfkcaldjphakpaaGreatDoorRdK
import Derived.Test.YtfkcaldjphakpaaGreatDoorValD
import Derived.Test.YtfkcaldjphakpaaGreatDoorJnA
import Derived.Test.YtfkcaldjphakpaaGreatDoorEvA
import Derived.Test.YtfkcaldjphakpaaGreatDoorPatA
import Derived.Test.YtfkcaldjphakpaaGreatDoorLexB
namespace Go.Proofs.YtfkcaldjphakpaaGreatDoor
open Go.RowKit

section
def payA : Ast → Pay
  | .leaf p => p
  | .un p _ => p
  | .bin p _ _ => p
  | .tri p _ _ _ => p
def sidesA : Ast → List Ast
  | .leaf _ => []
  | .un _ x => [x]
  | .bin _ x y => [x, y]
  | .tri _ x y z => [x, y, z]

/-- The sides of a term lie in a row. -/
def SidesAt (lo : Nat) (w : World) (sv : Value) (ts : List Ast) : Prop :=
  (ts = [] ∧ sv = .slice none 0 0) ∨ ∃ g, sv = .slice (some ⟨g, 0, none⟩) ts.length ts.length ∧ lo < g ∧ g < w.heap.size ∧ ∀ (j : Nat) (x : Ast), ts[j]? = some x → ∃ b, w.cell? ⟨g, j, none⟩ = some (.pointer (some ⟨b, 0, none⟩)) ∧ IsNode lo w (.pointer (some ⟨b, 0, none⟩)) x

theorem IsNode.parts {lo : Nat} {w : World} {v : Value} {t : Ast} (h : IsNode lo w v t) : ∃ b sv, v = .pointer (some ⟨b, 0, none⟩) ∧ NodeAt lo w b (payA t) sv ∧ SidesAt lo w sv (sidesA t) := by
  cases t with
  | leaf p => obtain ⟨b, rfl, h⟩ := h; exact ⟨b, _, rfl, h, .inl ⟨rfl, rfl⟩⟩
  | un p x =>
    obtain ⟨b, g, v1, rfl, h, h1, h2, e1, n1⟩ := h
    refine ⟨b, _, rfl, h, .inr ⟨g, rfl, h1, h2, fun j y hj => ?_⟩⟩
    match j, hj with
    | 0, hj => obtain rfl : x = y := by simpa [sidesA] using hj
               obtain ⟨b1, rfl⟩ := n1.ptr; exact ⟨b1, e1, n1⟩
    | j + 1, hj => simp [sidesA] at hj
  | bin p x y =>
    obtain ⟨b, g, v1, v2, rfl, h, h1, h2, e1, e2, n1, n2⟩ := h
    refine ⟨b, _, rfl, h, .inr ⟨g, rfl, h1, h2, fun j z hj => ?_⟩⟩
    match j, hj with
    | 0, hj => obtain rfl : x = z := by simpa [sidesA] using hj
               obtain ⟨b1, rfl⟩ := n1.ptr; exact ⟨b1, e1, n1⟩
    | 1, hj => obtain rfl : y = z := by simpa [sidesA] using hj
               obtain ⟨b1, rfl⟩ := n2.ptr; exact ⟨b1, e2, n2⟩
    | j + 2, hj => simp [sidesA] at hj
  | tri p x y z =>
    obtain ⟨b, g, v1, v2, v3, rfl, h, h1, h2, e1, e2, e3, n1, n2, n3⟩ := h
    refine ⟨b, _, rfl, h, .inr ⟨g, rfl, h1, h2, fun j u hj => ?_⟩⟩
    match j, hj with
    | 0, hj => obtain rfl : x = u := by simpa [sidesA] using hj
               obtain ⟨b1, rfl⟩ := n1.ptr; exact ⟨b1, e1, n1⟩
    | 1, hj => obtain rfl : y = u := by simpa [sidesA] using hj
               obtain ⟨b1, rfl⟩ := n2.ptr; exact ⟨b1, e2, n2⟩
    | 2, hj => obtain rfl : z = u := by simpa [sidesA] using hj
               obtain ⟨b1, rfl⟩ := n3.ptr; exact ⟨b1, e3, n3⟩
    | j + 3, hj => simp [sidesA] at hj

theorem SidesAt.any {lo : Nat} {w : World} {sv : Value} {ts : List Ast} (h : SidesAt lo w sv ts) : ∃ a, sv = .slice a ts.length ts.length ∧ ∀ (j : Nat) (x : Ast), ts[j]? = some x → ∃ g b, a = some ⟨g, 0, none⟩ ∧ lo < g ∧ g < w.heap.size ∧ w.cell? ⟨g, j, none⟩ = some (.pointer (some ⟨b, 0, none⟩)) ∧ IsNode lo w (.pointer (some ⟨b, 0, none⟩)) x := by
  rcases h with ⟨rfl, rfl⟩ | ⟨g, rfl, h1, h2, h3⟩
  · exact ⟨none, rfl, fun j x hj => by simp at hj⟩
  · exact ⟨some ⟨g, 0, none⟩, rfl, fun j x hj => by obtain ⟨b, hc, hn⟩ := h3 j x hj; exact ⟨g, b, rfl, h1, h2, hc, hn⟩⟩

theorem sides_len (t : Ast) : (sidesA t).length ≤ 3 := by cases t <;> simp [sidesA]

/-- A class, or the place of a wrong one. -/
inductive CRes where
  | ok (c : Int)
  | err (pl : Int)

/-- All sides must be of a class: none, or the place of the fault. -/
def dem (want pl : Int) : List CRes → Bool → Option Int
  | [], fit => if fit then none else some pl
  | .err q :: _, _ => some q
  | .ok c :: t, fit => dem want pl t (fit && (c == want || c == 0))

def demR (want pl c : Int) (rs : List CRes) : CRes := match dem want pl rs true with
  | none => .ok c
  | some q => .err q

/-- Both sides must be of one class, or one of them any. -/
def alikeR (pl : Int) : CRes → CRes → CRes
  | .err q, _ => .err q
  | .ok _, .err q => .err q
  | .ok l, .ok r => if (l != r && l != 0 && r != 0) = true then .err pl else .ok 3

def clsOf (op pl : Int) (rs : List CRes) : CRes :=
  if op == 0 then .ok 0 else if op == 1 then .ok 1 else if op == 2 then .ok 2
  else if op == 5 || op == 6 || op == 7 then demR 3 pl 3 rs
  else if op == 10 || op == 11 || op == 12 || op == 13 || op == 20 then demR 1 pl 3 rs
  else if op == 14 || op == 15 || op == 16 || op == 17 || op == 18 || op == 19 then demR 1 pl 1 rs
  else if op == 8 || op == 9 then (match rs with
    | [a, b] => alikeR pl a b
    | _ => .ok 3)
  else .ok 3

def clsA : Ast → CRes
  | .leaf p => clsOf p.op p.place []
  | .un p x => clsOf p.op p.place [clsA x]
  | .bin p x y => clsOf p.op p.place [clsA x, clsA y]
  | .tri p x y z => clsOf p.op p.place [clsA x, clsA y, clsA z]

theorem clsA_eq (t : Ast) : clsA t = clsOf (payA t).op (payA t).place ((sidesA t).map clsA) := by cases t <;> rfl

/-- Equations have two sides. -/
def WfA : Ast → Prop
  | .leaf p => ¬ p.op = 8 ∧ ¬ p.op = 9
  | .un p x => (¬ p.op = 8 ∧ ¬ p.op = 9) ∧ WfA x
  | .bin _ x y => WfA x ∧ WfA y
  | .tri p x y z => (¬ p.op = 8 ∧ ¬ p.op = 9) ∧ WfA x ∧ WfA y ∧ WfA z

theorem WfA.side {t x : Ast} (h : WfA t) (hx : x ∈ sidesA t) : WfA x := by
  cases t with
  | leaf p => simp [sidesA] at hx
  | un p y => simp [sidesA] at hx; subst hx; exact h.2
  | bin p y z => simp [sidesA] at hx; rcases hx with rfl | rfl; exact h.1; exact h.2
  | tri p y z u => simp [sidesA] at hx; rcases hx with rfl | rfl | rfl; exact h.2.1; exact h.2.2.1; exact h.2.2.2

/-- How a call that looks at classes ends. -/
def ClsEnds (w : World) (r : CRes) (e : Ending) (w' : World) : Prop :=
  Below w.heap.size w w' ∧ match r with
  | .ok c => e = .returned (.int .i64 c)
  | .err pl => e = gaveUp 4 pl

/-- The method class says what it should of a term. -/
def ClsOk (lo : Nat) (t : Ast) : Prop := ∀ (w : World) (v : Value), IsNode lo w v t → Calls Tryz.prog 104 #[v] w (ClsEnds w (clsA t))

theorem dem_err {want pl q : Int} {rs : List CRes} {j : Nat} {fit : Bool} (h : rs[j]? = some (.err q)) : dem want pl (rs.drop j) fit = some q := by
  obtain ⟨hj, he⟩ := List.getElem?_eq_some_iff.1 h
  rw [List.drop_eq_getElem_cons hj, he]; rfl
theorem dem_ok {want pl c : Int} {rs : List CRes} {j : Nat} {fit : Bool} (h : rs[j]? = some (.ok c)) : dem want pl (rs.drop j) fit = dem want pl (rs.drop (j + 1)) (fit && (c == want || c == 0)) := by
  obtain ⟨hj, he⟩ := List.getElem?_eq_some_iff.1 h
  rw [List.drop_eq_getElem_cons hj, he]; rfl
theorem dem_end {want pl : Int} {rs : List CRes} {j : Nat} {fit : Bool} (h : rs.length ≤ j) : dem want pl (rs.drop j) fit = if fit then none else some pl := by
  rw [List.drop_of_length_le h]; rfl
end

section
/-- How a demand ends. -/
def DemEnds (w : World) (r : Option Int) (e : Ending) (w' : World) : Prop := Below w.heap.size w w' ∧ match r with
  | none => e = .returned (.tuple #[])
  | some q => e = gaveUp 4 q

set_option maxHeartbeats 1000000 in
set_option maxRecDepth 100000 in
theorem demand_any (lo : Nat) (t : Ast) (hcls : ∀ x ∈ sidesA t, ClsOk lo x) (want : Int) (w : World) (v : Value) (h : IsNode lo w v t) :
    Calls Tryz.prog 148 #[v, .int .i64 want] w (DemEnds w (dem want (payA t).place ((sidesA t).map clsA) true)) := by
  obtain ⟨R, hR⟩ : ∃ r, dem want (payA t).place ((sidesA t).map clsA) true = r := ⟨_, rfl⟩
  rw [hR]
  have HR := hide hR
  obtain ⟨b, sv, rfl, hnode, hsides⟩ := h.parts
  obtain ⟨a, rfl, hside⟩ := hsides.any
  have hn3 := sides_len t
  obtain ⟨hab, hbw, c0, c1, c2, c3, c4, c5, c6⟩ := hnode
  obtain ⟨n, hn⟩ : ∃ n, (sidesA t).length = n := ⟨_, rfl⟩
  rw [hn] at c2 hn3
  have HN := hide hn
  have HS := hide hside
  have HC := hide hcls
  obtain ⟨pl, hpl⟩ : ∃ pl, (payA t).place = pl := ⟨_, rfl⟩
  rw [hpl] at c1 HR
  clear hR hsides h c0 c3 c4 c5 c6 hn hside hcls hpl
  go_enter Tryz.func148, Tryz.ntmps148
  go_wp2_with fail
  go_loopw [4, 13] (fun fit i wr => ∃ (j : Nat) (fb : Bool), j ≤ n ∧ i = .int .i64 j ∧ fit = .bool fb ∧ Hid (R = dem want pl (((sidesA t).map clsA).drop j) fb) ∧ Below w.heap.size w wr) (fun _ i _ => n - (intOf i).toNat)
  case atStart => exact ⟨0, true, Nat.zero_le _, rfl, rfl, hide (by rw [List.drop_zero, unhide HR]), Below.refl _ _⟩
  case round =>
    obtain ⟨j, fb, hj, rfl, rfl, hh, hbel⟩ := hrel
    have d1 := (hbel.cell (p := ⟨b, 1, none⟩) hbw).trans c1
    by_cases hlt : j < n
    · obtain ⟨x, hx⟩ : ∃ x, (sidesA t)[j]? = some x := ⟨_, List.getElem?_eq_getElem (by rw [unhide HN]; exact hlt)⟩
      obtain ⟨g, bx, rfl, hg1, hg2, hcx, hnx⟩ := unhide HS j x hx
      have dx := (hbel.cell (p := ⟨g, j, none⟩) hg2).trans hcx
      have hxm : x ∈ sidesA t := List.mem_of_getElem? hx
      have HNX := hide (hnx.kept (Kept.of_below hbel))
      have hm : ((sidesA t).map clsA)[j]? = some (clsA x) := by rw [List.getElem?_map, hx]; rfl
      have CX := hide (unhide HC x hxm)
      clear hx hnx hcx hxm
      cases hcl : clsA x with
      | err q =>
        have HT : Hid (R = some q) := hide (by rw [unhide hh, dem_err (by rw [hm, hcl])])
        have HCL := hide hcl
        clear hh hm hcl
        go_wp2_with (go_at_call 104; refine (unhide CX _ _ (unhide HNX)).mono ?_; rintro e w1 ⟨hb1, h1⟩; rw [unhide HCL] at h1; subst h1; simp only [gaveUp])
        rw [unhide HT]
        exact ⟨rfl, below_any hbel hb1, rfl⟩
      | ok c =>
        have HT : Hid (R = dem want pl (((sidesA t).map clsA).drop (j + 1)) (fb && (c == want || c == 0))) := hide (by rw [unhide hh, dem_ok (by rw [hm, hcl])])
        have HCL := hide hcl
        clear hh hm hcl
        cases fb <;> cases hcw : (c == want) <;> cases hc0 : (c == 0)
        all_goals
          rw [hcw, hc0] at HT
          simp only [Bool.and_true, Bool.and_false, Bool.or_true, Bool.or_false, Bool.or_self, Bool.and_self] at HT
          go_wp2_with (go_at_call 104; refine (unhide CX _ _ (unhide HNX)).mono ?_; rintro e w1 ⟨hb1, h1⟩; rw [unhide HCL] at h1; subst h1)
          go_roundw
          case rel => exact ⟨j + 1, _, by omega, by go_num, rfl, HT, below_any hbel hb1⟩
          case measure => simp [intOf]; omega
    · have HT : Hid (R = if fb then none else some pl) := hide (by rw [unhide hh, dem_end (by rw [List.length_map, unhide HN]; omega)])
      clear hh
      cases fb
      · go_wp2_with fail
        rw [unhide HT]
        exact ⟨rfl, hbel, rfl⟩
      · go_wp2_with fail
        go_end0
        rw [unhide HT]
        exact ⟨hbel, rfl⟩
end

section
/-- What reads a signed thing, a denied one, a whole one. -/
structure L3 where
  S : St → Res
  D : St → Res
  E : St → Res

def prodOf (s : ByteArray) (S : St → Res) : St → Res := rowRes s S [24, 25]
def sumOf (s : ByteArray) (S : St → Res) : St → Res := rowRes s (prodOf s S) [22, 23]
def testOf (s : ByteArray) (S : St → Res) : St → Res := testRes s (sumOf s S) (inRes s) (likeRes s)
def eitherOf (s : ByteArray) (D : St → Res) : St → Res := rowRes s (rowRes s D [5]) [6]

def up3 (s : ByteArray) (L : L3) : L3 := ⟨signedRes s L.S L.E, deniedRes s L.D (testOf s (signedRes s L.S L.E)), eitherOf s (deniedRes s L.D (testOf s (signedRes s L.S L.E)))⟩

/-- With so many things that may be opened. -/
def lvl (s : ByteArray) : Nat → L3
  | 0 => up3 s ⟨fun _ => .err 0 0, fun _ => .err 0 0, fun _ => .err 0 0⟩
  | d + 1 => up3 s (lvl s d)

structure Reads3 (rb : Nat) (s : ByteArray) (op : Nat) (L : L3) : Prop where
  S : Reads 301 rb s op L.S
  D : Reads 147 rb s op L.D
  E : Reads 55 rb s op L.E

theorem up3_reads (rb : Nat) (s : ByteArray) (hs : s.size ≤ 200) (op : Nat) (hop : op ≤ 12) (L : L3) (h : op < 12 → Reads3 rb s (op + 1) L) : Reads3 rb s op (up3 s L) := by
  have hS : Reads 301 rb s op (signedRes s L.S L.E) := signed_reads rb s op hop L.S L.E (fun k => (h k).S) (fun k => (h k).E)
  have hP := product_reads rb s op _ hS
  have hU := sum_reads rb s op _ hP
  have hT := test_reads rb s op _ _ _ hU (in_reads rb s op hs) (like_reads rb s op hs)
  have hD := denied_reads rb s op hop L.D _ (fun k => (h k).D) hT
  exact ⟨hS, hD, either_reads rb s op _ (both_reads rb s op _ hD)⟩

theorem lvl_reads (rb : Nat) (s : ByteArray) (hs : s.size ≤ 200) : ∀ (d op : Nat), op + d = 12 → Reads3 rb s op (lvl s d) := by
  intro d
  induction d with
  | zero => intro op h; exact up3_reads rb s hs op (by omega) _ (fun k => by omega)
  | succ d ih => intro op h; exact up3_reads rb s hs op (by omega) _ (fun _ => ih (op + 1) (by omega))

/-- What is read has equations of two sides alone. -/
def Good (f : St → Res) : Prop := ∀ st t st', f st = .ok t st' → WfA t
def GoodT (g : Ast → St → Res) : Prop := ∀ l st t st', WfA l → g l st = .ok t st' → WfA t

theorem Good.join {s : ByteArray} {f : St → Res} (h : Good f) : ∀ st l t st', WfA l → joinRes s f st l = .ok t st' → WfA t := by
  intro st l t st' hl he
  unfold joinRes at he
  split at he
  · rename_i r st2 hr; injection he with h1 _; subst h1; exact ⟨hl, h _ _ _ hr⟩
  · cases he

theorem Good.loop {s : ByteArray} {f : St → Res} {ks : List Int} (h : Good f) : ∀ n l st t st', WfA l → rowLoop s f ks n l st = .ok t st' → WfA t := by
  intro n
  induction n with
  | zero => intro l st t st' hl he; rw [rowLoop] at he; injection he with h1 _; subst h1; exact hl
  | succ n ih =>
    intro l st t st' hl he
    rw [rowLoop] at he
    split at he
    · split at he
      · rename_i hj; exact ih _ _ _ _ (h.join _ _ _ _ hl hj) he
      · cases he
    · injection he with h1 _; subst h1; exact hl

theorem Good.row {s : ByteArray} {f : St → Res} {ks : List Int} (h : Good f) : Good (rowRes s f ks) := by
  intro st t st' he
  unfold rowRes at he
  split at he
  · rename_i hr; exact h.loop _ _ _ _ _ (h _ _ _ hr) he
  · cases he

theorem Good.sign {s : ByteArray} {f : St → Res} (h : Good f) (o : Int) (ho : ¬ o = 8 ∧ ¬ o = 9) : Good (signRes s f o) := by
  intro st t st' he
  unfold signRes at he
  split at he
  · cases he
  · split at he
    · rename_i hr; injection he with h1 _; subst h1; exact ⟨ho, h _ _ _ hr⟩
    · cases he

theorem Good.group {s : ByteArray} {f : St → Res} (h : Good f) : Good (groupRes s f) := by
  intro st t st' he
  unfold groupRes at he
  split at he
  · cases he
  · split at he
    · rename_i hr; split at he
      · injection he with h1 _; subst h1; exact h _ _ _ hr
      · cases he
    · cases he

theorem Good.signed {s : ByteArray} {fS fE : St → Res} (hS : Good fS) (hE : Good fE) : Good (signedRes s fS fE) := by
  intro st t st' he
  unfold signedRes at he
  split at he
  · exact hS.sign 14 (by decide) _ _ _ he
  split at he
  · exact hS.sign 15 (by decide) _ _ _ he
  split at he
  · exact hE.group _ _ _ he
  split at he
  · injection he with h1 _; subst h1; exact ⟨by simp, by simp⟩
  split at he
  · injection he with h1 _; subst h1; exact ⟨by simp, by simp⟩
  split at he
  · injection he with h1 _; subst h1; exact ⟨by simp, by simp⟩
  split at he
  · injection he with h1 _; subst h1; exact ⟨by simp, by simp⟩
  split at he
  · injection he with h1 _; subst h1; exact ⟨by simp, by simp⟩
  · cases he

theorem good_isNull {s : ByteArray} : GoodT (isNullRes s) := by
  intro l st t st' hl he
  unfold isNullRes at he
  split at he
  · split at he
    · injection he with h1 _; subst h1; exact ⟨⟨by simp, by simp⟩, ⟨by simp, by simp⟩, hl⟩
    · cases he
  · split at he
    · injection he with h1 _; subst h1; exact ⟨⟨by simp, by simp⟩, hl⟩
    · cases he

theorem good_inLoop {s : ByteArray} {l : Ast} {pl : Nat} (hl : WfA l) : ∀ n ts st t st', inLoop s l pl n ts st = .ok t st' → WfA t := by
  intro n
  induction n with
  | zero => intro ts st t st' he; rw [inLoop] at he; cases he
  | succ n ih =>
    intro ts st t st' he
    rw [inLoop] at he
    split at he
    · split at he
      · exact ih _ _ _ _ he
      · cases he
    · split at he
      · injection he with h1 _; subst h1; exact ⟨⟨by simp, by simp⟩, hl⟩
      · cases he

theorem good_in {s : ByteArray} : GoodT (inRes s) := by
  intro l st t st' hl he
  unfold inRes at he
  split at he
  · split at he
    · exact good_inLoop hl _ _ _ _ _ he
    · cases he
  · cases he

theorem good_like {s : ByteArray} : GoodT (likeRes s) := by
  intro l st t st' hl he
  unfold likeRes at he
  repeat' split at he
  all_goals first | (injection he with h1 _; subst h1; exact ⟨⟨by simp, by simp⟩, hl⟩) | cases he

theorem Good.between {s : ByteArray} {f : St → Res} (h : Good f) : GoodT (betweenRes s f) := by
  intro l st t st' hl he
  unfold betweenRes at he
  split at he
  · split at he
    · rename_i h1; split at he
      · split at he
        · rename_i h2; injection he with h3 _; subst h3; exact ⟨⟨by simp, by simp⟩, hl, h _ _ _ h1, h _ _ _ h2⟩
        · cases he
      · cases he
    · cases he
  · cases he

theorem Good.keyword {s : ByteArray} {f : St → Res} (h : Good f) (bare : Bool) : GoodT (keywordRes s f (inRes s) (likeRes s) bare) := by
  intro l st t st' hl he
  unfold keywordRes at he
  split at he
  · exact good_in _ _ _ _ hl he
  split at he
  · exact good_like _ _ _ _ hl he
  · exact h.between _ _ _ _ hl he

theorem Good.test {s : ByteArray} {f : St → Res} (h : Good f) : Good (testRes s f (inRes s) (likeRes s)) := by
  intro st t st' he
  unfold testRes at he
  split at he
  · rename_i hr
    have hl := h _ _ _ hr
    unfold tailRes at he
    split at he
    · exact h.join _ _ _ _ hl he
    split at he
    · split at he
      · exact good_isNull _ _ _ _ hl he
      · injection he with h1 _; subst h1; exact hl
    split at he
    · split at he
      · rename_i hk; injection he with h1 _; subst h1; exact ⟨⟨by simp, by simp⟩, h.keyword _ _ _ _ _ hl hk⟩
      · cases he
    split at he
    · exact h.keyword _ _ _ _ _ hl he
    · injection he with h1 _; subst h1; exact hl
  · cases he

theorem Good.denied {s : ByteArray} {fD fT : St → Res} (hD : Good fD) (hT : Good fT) : Good (deniedRes s fD fT) := by
  intro st t st' he
  unfold deniedRes at he
  split at he
  · exact hD.sign 5 (by decide) _ _ _ he
  · exact hT _ _ _ he

structure Good3 (L : L3) : Prop where
  S : Good L.S
  D : Good L.D
  E : Good L.E

theorem up3_good {s : ByteArray} {L : L3} (h : Good3 L) : Good3 (up3 s L) := by
  have hS := Good.signed (s := s) h.S h.E
  have hD := Good.denied (s := s) h.D (Good.test (s := s) ((hS.row (s := s) (ks := [24, 25])).row (s := s) (ks := [22, 23])))
  exact ⟨hS, hD, (hD.row (s := s) (ks := [5])).row (s := s) (ks := [6])⟩

theorem lvl_good (s : ByteArray) : ∀ d, Good3 (lvl s d) := by
  intro d
  induction d with
  | zero => exact up3_good ⟨(fun _ _ _ h => by cases h), (fun _ _ _ h => by cases h), (fun _ _ _ h => by cases h)⟩
  | succ d ih => exact up3_good ih
end

section
/-- None: the selector is bool or any. -/
def chkR : CRes → Option Int
  | .err q => some q
  | .ok c => if (c != 3 && c != 0) = true then some 0 else none
end

section
theorem rngN {n : Nat} (h : n ≤ 9223372036854775807) : Rng (n : Int) := ⟨by omega, by omega⟩
theorem rngZ : Rng 0 := ⟨by decide, by decide⟩

def TkOk (st : St) : Prop := Rng st.tk.num

theorem firstTk_num (l : List UInt8) : Rng (firstTk l).num := by
  unfold firstTk
  split
  · exact rngZ
  · split
    · unfold wordTk; split <;> exact rngZ
    split
    · unfold numTk; split
      · rename_i h; exact rngN h
      · exact rngZ
    split
    · unfold quotTk; split <;> exact rngZ
    · exact rngZ

theorem stepSt_tk (s : ByteArray) (st : St) : TkOk (stepSt s st) := by
  show Rng (nextTk s.data.toList st.after).num
  unfold nextTk
  split
  · exact firstTk_num _
  · exact rngZ

def NumA : Ast → Prop
  | .leaf p => Rng p.num
  | .un p x => Rng p.num ∧ NumA x
  | .bin p x y => Rng p.num ∧ NumA x ∧ NumA y
  | .tri p x y z => Rng p.num ∧ NumA x ∧ NumA y ∧ NumA z

def NGood (f : St → Res) : Prop := ∀ st t st', TkOk st → f st = .ok t st' → NumA t ∧ TkOk st'
def NGoodT (g : Ast → St → Res) : Prop := ∀ l st t st', NumA l → TkOk st → g l st = .ok t st' → NumA t ∧ TkOk st'

theorem NGood.join {s : ByteArray} {f : St → Res} (h : NGood f) : ∀ st l t st', NumA l → joinRes s f st l = .ok t st' → NumA t ∧ TkOk st' := by
  intro st l t st' hl he
  unfold joinRes at he
  split at he
  · rename_i r st2 hr; injection he with h1 h2; subst h1; subst h2
    have := h _ _ _ (stepSt_tk s st) hr
    exact ⟨⟨rngZ, hl, this.1⟩, this.2⟩
  · cases he

theorem NGood.loop {s : ByteArray} {f : St → Res} {ks : List Int} (h : NGood f) : ∀ n l st t st', NumA l → TkOk st → rowLoop s f ks n l st = .ok t st' → NumA t ∧ TkOk st' := by
  intro n
  induction n with
  | zero => intro l st t st' hl hs he; rw [rowLoop] at he; injection he with h1 h2; subst h1; subst h2; exact ⟨hl, hs⟩
  | succ n ih =>
    intro l st t st' hl hs he
    rw [rowLoop] at he
    split at he
    · split at he
      · rename_i hj; have := h.join _ _ _ _ hl hj; exact ih _ _ _ _ this.1 this.2 he
      · cases he
    · injection he with h1 h2; subst h1; subst h2; exact ⟨hl, hs⟩

theorem NGood.row {s : ByteArray} {f : St → Res} {ks : List Int} (h : NGood f) : NGood (rowRes s f ks) := by
  intro st t st' hs he
  unfold rowRes at he
  split at he
  · rename_i hr; have := h _ _ _ hs hr; exact h.loop _ _ _ _ _ this.1 this.2 he
  · cases he

theorem NGood.sign {s : ByteArray} {f : St → Res} (h : NGood f) (o : Int) : NGood (signRes s f o) := by
  intro st t st' _ he
  unfold signRes at he
  split at he
  · cases he
  · split at he
    · rename_i hr; injection he with h1 h2; subst h1; subst h2
      have := h (inSt s st) _ _ (stepSt_tk s st) hr
      exact ⟨⟨rngZ, this.1⟩, this.2⟩
    · cases he

theorem NGood.group {s : ByteArray} {f : St → Res} (h : NGood f) : NGood (groupRes s f) := by
  intro st t st' _ he
  unfold groupRes at he
  split at he
  · cases he
  · split at he
    · rename_i hr; split at he
      · injection he with h1 h2; subst h1; subst h2
        exact ⟨(h (inSt s st) _ _ (stepSt_tk s st) hr).1, stepSt_tk s _⟩
      · cases he
    · cases he

theorem NGood.signed {s : ByteArray} {fS fE : St → Res} (hS : NGood fS) (hE : NGood fE) : NGood (signedRes s fS fE) := by
  intro st t st' hs he
  unfold signedRes at he
  split at he
  · exact hS.sign 14 _ _ _ hs he
  split at he
  · exact hS.sign 15 _ _ _ hs he
  split at he
  · exact hE.group _ _ _ hs he
  split at he
  · injection he with h1 h2; subst h1; subst h2; exact ⟨rngZ, stepSt_tk s st⟩
  split at he
  · injection he with h1 h2; subst h1; subst h2; exact ⟨hs, stepSt_tk s st⟩
  split at he
  · injection he with h1 h2; subst h1; subst h2; exact ⟨rngZ, stepSt_tk s st⟩
  split at he
  · injection he with h1 h2; subst h1; subst h2; exact ⟨rngZ, stepSt_tk s st⟩
  split at he
  · injection he with h1 h2; subst h1; subst h2; exact ⟨rngZ, stepSt_tk s st⟩
  · cases he

theorem num_isNull {s : ByteArray} : NGoodT (isNullRes s) := by
  intro l st t st' hl _ he
  unfold isNullRes at he
  split at he
  · split at he
    · injection he with h1 h2; subst h1; subst h2; exact ⟨⟨rngZ, rngZ, hl⟩, stepSt_tk s _⟩
    · cases he
  · split at he
    · injection he with h1 h2; subst h1; subst h2; exact ⟨⟨rngZ, hl⟩, stepSt_tk s _⟩
    · cases he

theorem num_inLoop {s : ByteArray} {l : Ast} {pl : Nat} (hl : NumA l) : ∀ n ts st t st', inLoop s l pl n ts st = .ok t st' → NumA t ∧ TkOk st' := by
  intro n
  induction n with
  | zero => intro ts st t st' he; rw [inLoop] at he; cases he
  | succ n ih =>
    intro ts st t st' he
    rw [inLoop] at he
    split at he
    · split at he
      · exact ih _ _ _ _ he
      · cases he
    · split at he
      · injection he with h1 h2; subst h1; subst h2; exact ⟨⟨rngZ, hl⟩, stepSt_tk s _⟩
      · cases he

theorem num_in {s : ByteArray} : NGoodT (inRes s) := by
  intro l st t st' hl _ he
  unfold inRes at he
  split at he
  · split at he
    · exact num_inLoop hl _ _ _ _ _ he
    · cases he
  · cases he

theorem num_like {s : ByteArray} : NGoodT (likeRes s) := by
  intro l st t st' hl _ he
  unfold likeRes at he
  split at he
  · split at he
    · split at he
      · rename_i hk; injection he with h1 h2; subst h1; subst h2; rw [(escRes_ok hk).2]; exact ⟨⟨rngZ, hl⟩, stepSt_tk s _⟩
      · cases he
    · injection he with h1 h2; subst h1; subst h2; exact ⟨⟨rngZ, hl⟩, stepSt_tk s _⟩
  · cases he

theorem NGood.between {s : ByteArray} {f : St → Res} (h : NGood f) : NGoodT (betweenRes s f) := by
  intro l st t st' hl _ he
  unfold betweenRes at he
  split at he
  · split at he
    · rename_i h1; split at he
      · split at he
        · rename_i h2; injection he with h3 h4; subst h3; subst h4
          have a := h _ _ _ (stepSt_tk s _) h1
          have b := h _ _ _ (stepSt_tk s _) h2
          exact ⟨⟨rngZ, hl, a.1, b.1⟩, b.2⟩
        · cases he
      · cases he
    · cases he
  · cases he

theorem NGood.keyword {s : ByteArray} {f : St → Res} (h : NGood f) (bare : Bool) : NGoodT (keywordRes s f (inRes s) (likeRes s) bare) := by
  intro l st t st' hl hs he
  unfold keywordRes at he
  split at he
  · exact num_in _ _ _ _ hl hs he
  split at he
  · exact num_like _ _ _ _ hl hs he
  · exact h.between _ _ _ _ hl hs he

theorem NGood.test {s : ByteArray} {f : St → Res} (h : NGood f) : NGood (testRes s f (inRes s) (likeRes s)) := by
  intro st t st' hs he
  unfold testRes at he
  split at he
  · rename_i hr
    obtain ⟨hl, hs1⟩ := h _ _ _ hs hr
    unfold tailRes at he
    split at he
    · exact h.join _ _ _ _ hl he
    split at he
    · split at he
      · exact num_isNull _ _ _ _ hl hs1 he
      · injection he with h1 h2; subst h1; subst h2; exact ⟨hl, hs1⟩
    split at he
    · split at he
      · rename_i hk; injection he with h1 h2; subst h1; subst h2
        have := h.keyword _ _ _ _ _ hl (stepSt_tk s _) hk
        exact ⟨⟨rngZ, this.1⟩, this.2⟩
      · cases he
    split at he
    · exact h.keyword _ _ _ _ _ hl hs1 he
    · injection he with h1 h2; subst h1; subst h2; exact ⟨hl, hs1⟩
  · cases he

theorem NGood.denied {s : ByteArray} {fD fT : St → Res} (hD : NGood fD) (hT : NGood fT) : NGood (deniedRes s fD fT) := by
  intro st t st' hs he
  unfold deniedRes at he
  split at he
  · exact hD.sign 5 _ _ _ hs he
  · exact hT _ _ _ hs he

structure NGood3 (L : L3) : Prop where
  S : NGood L.S
  D : NGood L.D
  E : NGood L.E

theorem up3_num {s : ByteArray} {L : L3} (h : NGood3 L) : NGood3 (up3 s L) := by
  have hS := NGood.signed (s := s) h.S h.E
  have hD := NGood.denied (s := s) h.D (NGood.test (s := s) ((hS.row (s := s) (ks := [24, 25])).row (s := s) (ks := [22, 23])))
  exact ⟨hS, hD, (hD.row (s := s) (ks := [5])).row (s := s) (ks := [6])⟩

theorem lvl_num (s : ByteArray) : ∀ d, NGood3 (lvl s d) := by
  intro d
  induction d with
  | zero => exact up3_num ⟨(fun _ _ _ _ h => by cases h), (fun _ _ _ _ h => by cases h), (fun _ _ _ _ h => by cases h)⟩
  | succ d ih => exact up3_num ih
end

section
/-- Which ends can be reached: of one piece. -/
def nextB (p : Pc) (t : List UInt8) (e : Nat → Bool) : Nat → Bool
  | 0 => p.kind == 2 && e 0
  | j + 1 => if p.kind == 2 then e (j + 1) || nextB p t e j else if p.kind == 1 then e j else e j && t.getD j 0 == p.c

def fitB' (ps : List Pc) (t : List UInt8) (e : Nat → Bool) : Bool := match ps with
  | [] => e t.length
  | p :: r => fitB' r t (nextB p t e)

def fitsB (pat esc t : List UInt8) : Bool := match cutL esc pat with
  | none => false
  | some ps => fitB' ps t fun j => j == 0

def likeV (x : V) (pat esc : List UInt8) : V := if x.kind == 3 then bV (fitsB pat esc x.str) else nV
def amongV (x : V) (ts : List (List UInt8)) : V := ts.foldl (fun f t => orV f (eqV x (tV t))) (bV false)

def joinN (p : Pay) (x y z : V) : V :=
  if p.op = 20 then andV (leV y x) (leV x z) else if p.op = 21 then amongV x p.texts else if p.op = 22 then likeV x p.str p.esc else joinV p.op x y

def ofN (ps : List Pr) (p : Pay) (s : List V) : V :=
  if p.op = 0 then findV ps p.str else if p.op = 1 then iV p.num else if p.op = 2 then tV p.str else if p.op = 3 then bV true else if p.op = 4 then bV false
  else joinN p (s.getD 0 nV) (s.getD 1 nV) (s.getD 2 nV)

def ofA (ps : List Pr) : Ast → V
  | .leaf p => ofN ps p []
  | .un p x => ofN ps p [ofA ps x]
  | .bin p x y => ofN ps p [ofA ps x, ofA ps y]
  | .tri p x y z => ofN ps p [ofA ps x, ofA ps y, ofA ps z]

theorem ofA_eq (ps : List Pr) (t : Ast) : ofA ps t = ofN ps (payA t) ((sidesA t).map (ofA ps)) := by cases t <;> rfl

/-- Values' numbers fit. -/
theorem rng_b (b : Bool) : Rng (bV b).num := by cases b <;> exact ⟨by decide, by decide⟩
theorem rng_n : Rng nV.num := ⟨by decide, by decide⟩
theorem rng_fit {n : Int} (h : fitB n = true) : Rng (iV n).num := by
  simp [fitB] at h; exact h
theorem rng_not (x : V) : Rng (notV x).num := by unfold notV; split; exact rng_b _; exact rng_n
theorem rng_and (x y : V) : Rng (andV x y).num := by unfold andV; split; exact rng_b _; split; exact rng_b _; exact rng_n
theorem rng_or (x y : V) : Rng (orV x y).num := by unfold orV; split; exact rng_b _; split; exact rng_b _; exact rng_n
theorem rng_eq (x y : V) : Rng (eqV x y).num := by unfold eqV; split; exact rng_n; exact rng_b _
theorem rng_less (x y : V) : Rng (lessV x y).num := by unfold lessV; split; exact rng_b _; exact rng_n
theorem rng_le (x y : V) : Rng (leV x y).num := by unfold leV; split; exact rng_b _; exact rng_n
theorem rng_add (x y : V) : Rng (addV x y).num := by
  unfold addV; split
  · rename_i h; simp only [Bool.and_eq_true] at h; exact rng_fit h.2
  · exact rng_n
theorem rng_sub (x y : V) : Rng (subV x y).num := by
  unfold subV; split
  · rename_i h; simp only [Bool.and_eq_true] at h; exact rng_fit h.2
  · exact rng_n
theorem rng_mul (x y : V) : Rng (mulV x y).num := by
  unfold mulV; split
  · rename_i h; simp only [Bool.and_eq_true] at h; exact rng_fit h.2
  · exact rng_n
theorem rng_div (x y : V) : Rng (divV x y).num := by
  unfold divV; split
  · rename_i h; simp only [Bool.and_eq_true] at h; exact rng_fit h.2
  · exact rng_n
theorem rng_ite {c : Prop} [Decidable c] {a b : V} (ha : Rng a.num) (hb : Rng b.num) : Rng (if c then a else b).num := by
  split
  · exact ha
  · exact hb
theorem rng_join (op : Int) (x y : V) : Rng (joinV op x y).num := by
  unfold joinV
  exact rng_ite (rng_not _) (rng_ite (rng_and _ _) (rng_ite (rng_or _ _) (rng_ite (rng_eq _ _) (rng_ite (rng_not _) (rng_ite (rng_less _ _) (rng_ite (rng_less _ _) (rng_ite (rng_le _ _) (rng_ite (rng_le _ _) (rng_ite (rng_add _ _) (rng_ite (rng_add _ _) (rng_ite (rng_sub _ _) (rng_ite (rng_sub _ _) (rng_ite (rng_mul _ _) (rng_ite (rng_div _ _) (rng_b _)))))))))))))))
theorem rng_among (x : V) (ts : List (List UInt8)) : ∀ f : V, Rng f.num → Rng (ts.foldl (fun f t => orV f (eqV x (tV t))) f).num := by
  induction ts with
  | nil => intro f h; exact h
  | cons t r ih => intro f _; exact ih _ (rng_or _ _)
theorem rng_joinN (p : Pay) (x y z : V) : Rng (joinN p x y z).num := by
  unfold joinN
  split
  · exact rng_and _ _
  split
  · exact rng_among x _ _ (rng_b _)
  split
  · unfold likeV; split; exact rng_b _; exact rng_n
  · exact rng_join _ _ _

def EvRng (ps : List Pr) : Prop := ∀ p ∈ ps, Rng p.val.num

theorem rng_find {ps : List Pr} (h : EvRng ps) (n : List UInt8) : Rng (findV ps n).num := by
  unfold findV
  split
  · rename_i p hp; exact h p (List.mem_of_find?_eq_some hp)
  · exact rng_n

theorem rng_of {ps : List Pr} (h : EvRng ps) {p : Pay} (hp : Rng p.num) (s : List V) : Rng (ofN ps p s).num := by
  unfold ofN
  split
  · exact rng_find h _
  split
  · exact hp
  split
  · exact rngZ
  split
  · exact rng_b _
  split
  · exact rng_b _
  · exact rng_joinN _ _ _ _

theorem rng_ofA {ps : List Pr} (h : EvRng ps) : ∀ t, NumA t → Rng (ofA ps t).num := by
  intro t
  cases t with
  | leaf p => intro hn; exact rng_of h hn _
  | un p x => intro hn; exact rng_of h hn.1 _
  | bin p x y => intro hn; exact rng_of h hn.1 _
  | tri p x y z => intro hn; exact rng_of h hn.1 _

/-- An event as an argument. -/
def EvArg (w : World) (ev : Value) (ps : List Pr) : Prop :=
  ps.length ≤ 8 ∧ ((ps = [] ∧ ∃ a cap, ev = .slice a 0 cap) ∨ ∃ b off cap, ev = .slice (some ⟨b, off, none⟩) ps.length cap ∧ EvAt w b off ps ∧ b < w.heap.size)

theorem EvArg.below {w w' : World} {ev : Value} {ps : List Pr} (h : EvArg w ev ps) (hb : Below w.heap.size w w') : EvArg w' ev ps := by
  refine ⟨h.1, ?_⟩
  rcases h.2 with h | ⟨b, off, cap, rfl, he, hlt⟩
  · exact .inl h
  · exact .inr ⟨b, off, cap, rfl, he.below hb hlt, Nat.lt_of_lt_of_le hlt hb.size⟩

theorem EvArg.slice {w : World} {ev : Value} {ps : List Pr} (h : EvArg w ev ps) : ∃ a n c, ev = .slice a n c := by
  rcases h.2 with ⟨_, a, cap, rfl⟩ | ⟨b, off, cap, rfl, _⟩
  · exact ⟨_, _, _, rfl⟩
  · exact ⟨_, _, _, rfl⟩

theorem find_arg {w : World} {ev : Value} {ps : List Pr} (h : EvArg w ev ps) (s : ByteArray) :
    Calls Tryz.prog 61 #[ev, .string s] w fun e w' => e = .returned (vV (findV ps s.data.toList)) ∧ Below w.heap.size w w' := by
  rcases h.2 with ⟨rfl, a, cap, rfl⟩ | ⟨b, off, cap, rfl, he, hlt⟩
  · exact find_empty a cap s w
  · exact find_any b off cap ps s w h.1 he hlt
end

section
def TkLn (st : St) : Prop := st.tk.str.length ≤ 200
theorem stepSt_ln {s : ByteArray} (hs : s.size ≤ 200) (st : St) : TkLn (stepSt s st) := Nat.le_trans (stepSt_len s st) hs

def Bp (p : Pay) : Prop := p.str.length ≤ 200 ∧ p.texts.length ≤ 1000
def BndA : Ast → Prop
  | .leaf p => Bp p
  | .un p x => Bp p ∧ BndA x
  | .bin p x y => Bp p ∧ BndA x ∧ BndA y
  | .tri p x y z => Bp p ∧ BndA x ∧ BndA y ∧ BndA z

theorem bp0 (op pl num : Int) : Bp ⟨op, pl, num, [], [], []⟩ := ⟨by simp, by simp⟩
theorem bp1 {op pl num : Int} {s : List UInt8} (h : s.length ≤ 200) : Bp ⟨op, pl, num, s, [], []⟩ := ⟨h, by simp⟩

def BGood (f : St → Res) : Prop := ∀ st t st', TkLn st → f st = .ok t st' → BndA t ∧ TkLn st'
def BGoodT (g : Ast → St → Res) : Prop := ∀ l st t st', BndA l → TkLn st → g l st = .ok t st' → BndA t ∧ TkLn st'

theorem BGood.join {s : ByteArray} (H : s.size ≤ 200) {f : St → Res} (h : BGood f) : ∀ st l t st', BndA l → joinRes s f st l = .ok t st' → BndA t ∧ TkLn st' := by
  intro st l t st' hl he
  unfold joinRes at he
  split at he
  · rename_i r st2 hr; injection he with h1 h2; subst h1; subst h2
    have := h _ _ _ (stepSt_ln H st) hr
    exact ⟨⟨(bp0 _ _ _), hl, this.1⟩, this.2⟩
  · cases he

theorem BGood.loop {s : ByteArray} (H : s.size ≤ 200) {f : St → Res} {ks : List Int} (h : BGood f) : ∀ n l st t st', BndA l → TkLn st → rowLoop s f ks n l st = .ok t st' → BndA t ∧ TkLn st' := by
  intro n
  induction n with
  | zero => intro l st t st' hl hs he; rw [rowLoop] at he; injection he with h1 h2; subst h1; subst h2; exact ⟨hl, hs⟩
  | succ n ih =>
    intro l st t st' hl hs he
    rw [rowLoop] at he
    split at he
    · split at he
      · rename_i hj; have := h.join H _ _ _ _ hl hj; exact ih _ _ _ _ this.1 this.2 he
      · cases he
    · injection he with h1 h2; subst h1; subst h2; exact ⟨hl, hs⟩

theorem BGood.row {s : ByteArray} (H : s.size ≤ 200) {f : St → Res} {ks : List Int} (h : BGood f) : BGood (rowRes s f ks) := by
  intro st t st' hs he
  unfold rowRes at he
  split at he
  · rename_i hr; have := h _ _ _ hs hr; exact h.loop H _ _ _ _ _ this.1 this.2 he
  · cases he

theorem BGood.sign {s : ByteArray} (H : s.size ≤ 200) {f : St → Res} (h : BGood f) (o : Int) : BGood (signRes s f o) := by
  intro st t st' _ he
  unfold signRes at he
  split at he
  · cases he
  · split at he
    · rename_i hr; injection he with h1 h2; subst h1; subst h2
      have := h (inSt s st) _ _ (stepSt_ln H st) hr
      exact ⟨⟨(bp0 _ _ _), this.1⟩, this.2⟩
    · cases he

theorem BGood.group {s : ByteArray} (H : s.size ≤ 200) {f : St → Res} (h : BGood f) : BGood (groupRes s f) := by
  intro st t st' _ he
  unfold groupRes at he
  split at he
  · cases he
  · split at he
    · rename_i hr; split at he
      · injection he with h1 h2; subst h1; subst h2
        exact ⟨(h (inSt s st) _ _ (stepSt_ln H st) hr).1, stepSt_ln H _⟩
      · cases he
    · cases he

theorem BGood.signed {s : ByteArray} (H : s.size ≤ 200) {fS fE : St → Res} (hS : BGood fS) (hE : BGood fE) : BGood (signedRes s fS fE) := by
  intro st t st' hs he
  unfold signedRes at he
  split at he
  · exact hS.sign H 14 _ _ _ hs he
  split at he
  · exact hS.sign H 15 _ _ _ hs he
  split at he
  · exact hE.group H _ _ _ hs he
  split at he
  · injection he with h1 h2; subst h1; subst h2; exact ⟨bp1 hs, stepSt_ln H st⟩
  split at he
  · injection he with h1 h2; subst h1; subst h2; exact ⟨(bp0 _ _ _), stepSt_ln H st⟩
  split at he
  · injection he with h1 h2; subst h1; subst h2; exact ⟨bp1 hs, stepSt_ln H st⟩
  split at he
  · injection he with h1 h2; subst h1; subst h2; exact ⟨(bp0 _ _ _), stepSt_ln H st⟩
  split at he
  · injection he with h1 h2; subst h1; subst h2; exact ⟨(bp0 _ _ _), stepSt_ln H st⟩
  · cases he

theorem bnd_isNull {s : ByteArray} (H : s.size ≤ 200) : BGoodT (isNullRes s) := by
  intro l st t st' hl _ he
  unfold isNullRes at he
  split at he
  · split at he
    · injection he with h1 h2; subst h1; subst h2; exact ⟨⟨(bp0 _ _ _), (bp0 _ _ _), hl⟩, stepSt_ln H _⟩
    · cases he
  · split at he
    · injection he with h1 h2; subst h1; subst h2; exact ⟨⟨(bp0 _ _ _), hl⟩, stepSt_ln H _⟩
    · cases he

theorem bnd_inLoop {s : ByteArray} (H : s.size ≤ 200) {l : Ast} {pl : Nat} (hl : BndA l) : ∀ n ts st t st', ts.length + n ≤ 1000 → inLoop s l pl n ts st = .ok t st' → BndA t ∧ TkLn st' := by
  intro n
  induction n with
  | zero => intro ts st t st' _ he; rw [inLoop] at he; cases he
  | succ n ih =>
    intro ts st t st' hn he
    rw [inLoop] at he
    split at he
    · split at he
      · exact ih _ _ _ _ (by simp; omega) he
      · cases he
    · split at he
      · injection he with h1 h2; subst h1; subst h2; exact ⟨⟨⟨by simp, by show ts.length ≤ 1000; omega⟩, hl⟩, stepSt_ln H _⟩
      · cases he

theorem bnd_in {s : ByteArray} (H : s.size ≤ 200) : BGoodT (inRes s) := by
  intro l st t st' hl _ he
  unfold inRes at he
  split at he
  · split at he
    · exact bnd_inLoop H hl _ _ _ _ _ (by simp; omega) he
    · cases he
  · cases he

theorem bnd_like {s : ByteArray} (H : s.size ≤ 200) : BGoodT (likeRes s) := by
  intro l st t st' hl _ he
  unfold likeRes at he
  split at he
  · split at he
    · split at he
      · rename_i hk; injection he with h1 h2; subst h1; subst h2; rw [(escRes_ok hk).2]; exact ⟨⟨⟨stepSt_ln H _, by simp⟩, hl⟩, stepSt_ln H _⟩
      · cases he
    · injection he with h1 h2; subst h1; subst h2; exact ⟨⟨⟨stepSt_ln H _, by simp⟩, hl⟩, stepSt_ln H _⟩
  · cases he

theorem BGood.between {s : ByteArray} (H : s.size ≤ 200) {f : St → Res} (h : BGood f) : BGoodT (betweenRes s f) := by
  intro l st t st' hl _ he
  unfold betweenRes at he
  split at he
  · split at he
    · rename_i h1; split at he
      · split at he
        · rename_i h2; injection he with h3 h4; subst h3; subst h4
          have a := h _ _ _ (stepSt_ln H _) h1
          have b := h _ _ _ (stepSt_ln H _) h2
          exact ⟨⟨(bp0 _ _ _), hl, a.1, b.1⟩, b.2⟩
        · cases he
      · cases he
    · cases he
  · cases he

theorem BGood.keyword {s : ByteArray} (H : s.size ≤ 200) {f : St → Res} (h : BGood f) (bare : Bool) : BGoodT (keywordRes s f (inRes s) (likeRes s) bare) := by
  intro l st t st' hl hs he
  unfold keywordRes at he
  split at he
  · exact bnd_in H _ _ _ _ hl hs he
  split at he
  · exact bnd_like H _ _ _ _ hl hs he
  · exact h.between H _ _ _ _ hl hs he

theorem BGood.test {s : ByteArray} (H : s.size ≤ 200) {f : St → Res} (h : BGood f) : BGood (testRes s f (inRes s) (likeRes s)) := by
  intro st t st' hs he
  unfold testRes at he
  split at he
  · rename_i hr
    obtain ⟨hl, hs1⟩ := h _ _ _ hs hr
    unfold tailRes at he
    split at he
    · exact h.join H _ _ _ _ hl he
    split at he
    · split at he
      · exact bnd_isNull H _ _ _ _ hl hs1 he
      · injection he with h1 h2; subst h1; subst h2; exact ⟨hl, hs1⟩
    split at he
    · split at he
      · rename_i hk; injection he with h1 h2; subst h1; subst h2
        have := h.keyword H _ _ _ _ _ hl (stepSt_ln H _) hk
        exact ⟨⟨(bp0 _ _ _), this.1⟩, this.2⟩
      · cases he
    split at he
    · exact h.keyword H _ _ _ _ _ hl hs1 he
    · injection he with h1 h2; subst h1; subst h2; exact ⟨hl, hs1⟩
  · cases he

theorem BGood.denied {s : ByteArray} (H : s.size ≤ 200) {fD fT : St → Res} (hD : BGood fD) (hT : BGood fT) : BGood (deniedRes s fD fT) := by
  intro st t st' hs he
  unfold deniedRes at he
  split at he
  · exact hD.sign H 5 _ _ _ hs he
  · exact hT _ _ _ hs he

structure BGood3 (L : L3) : Prop where
  S : BGood L.S
  D : BGood L.D
  E : BGood L.E

theorem up3_bnd {s : ByteArray} (H : s.size ≤ 200) {L : L3} (h : BGood3 L) : BGood3 (up3 s L) := by
  have hS := BGood.signed (s := s) H h.S h.E
  have hD := BGood.denied (s := s) H h.D (BGood.test (s := s) H ((hS.row (s := s) H (ks := [24, 25])).row (s := s) H (ks := [22, 23])))
  exact ⟨hS, hD, (hD.row (s := s) H (ks := [5])).row (s := s) H (ks := [6])⟩

theorem lvl_bnd (s : ByteArray) (H : s.size ≤ 200) : ∀ d, BGood3 (lvl s d) := by
  intro d
  induction d with
  | zero => exact up3_bnd H ⟨(fun _ _ _ _ h => by cases h), (fun _ _ _ _ h => by cases h), (fun _ _ _ _ h => by cases h)⟩
  | succ d ih => exact up3_bnd H ih
end

section
/-- A text as it stands between its quotes. -/
def dblL : List UInt8 → List UInt8
  | [] => []
  | c :: r => if c == 39 then 39 :: 39 :: dblL r else c :: dblL r
theorem dblL_append (a b : List UInt8) : dblL (a ++ b) = dblL a ++ dblL b := by
  induction a with
  | nil => rfl
  | cons c r ih =>
    rw [List.cons_append, dblL, dblL, ih]
    split <;> rfl
theorem dblL_len (a : List UInt8) : (dblL a).length ≤ 2 * a.length := by
  induction a with
  | nil => exact Nat.le_refl _
  | cons c r ih => rw [dblL]; split <;> simp <;> omega
theorem dblL_snoc (a : List UInt8) (c : UInt8) : dblL (a ++ [c]) = dblL a ++ (if c == 39 then [39, 39] else [c]) := by
  rw [dblL_append]
  congr 1

theorem quotF_end (r : List UInt8) (h : ∀ c, r.head? = some c → (c == 39) = false) : quotF (39 :: r) = some ([], 1) := by
  cases r with
  | nil => rfl
  | cons d t => rw [quotF, if_pos (by decide), if_neg (by rw [h d rfl]; decide)]

theorem quotF_dbl (r : List UInt8) (h : ∀ c, r.head? = some c → (c == 39) = false) (s : List UInt8) : quotF (dblL s ++ 39 :: r) = some (s, (dblL s).length + 1) := by
  induction s with
  | nil => exact quotF_end r h
  | cons c t ih =>
    rw [dblL]
    by_cases hc : (c == 39) = true
    · rw [if_pos hc]
      show quotF (39 :: 39 :: (dblL t ++ 39 :: r)) = _
      rw [quotF, if_pos (by decide), if_pos (by decide), ih, eq_of_beq hc]
      rfl
    · rw [if_neg hc]
      cases hd : dblL t ++ 39 :: r with
      | nil => simp at hd
      | cons d u =>
        show quotF (c :: (dblL t ++ 39 :: r)) = _
        rw [hd, quotF, if_neg hc, ← hd, ih]
        rfl

/-- A text as a pattern of its own bytes, with the escape 33. -/
def escB (c : UInt8) : Bool := c == 37 || c == 95 || c == 33
def escL : List UInt8 → List UInt8
  | [] => []
  | c :: r => if escB c then 33 :: c :: escL r else c :: escL r
theorem escL_append (a b : List UInt8) : escL (a ++ b) = escL a ++ escL b := by
  induction a with
  | nil => rfl
  | cons c r ih =>
    rw [List.cons_append, escL, escL, ih]
    split <;> rfl
theorem escL_len (a : List UInt8) : (escL a).length ≤ 2 * a.length := by
  induction a with
  | nil => exact Nat.le_refl _
  | cons c r ih => rw [escL]; split <;> simp <;> omega
theorem escL_snoc (a : List UInt8) (c : UInt8) : escL (a ++ [c]) = escL a ++ (if escB c then [33, c] else [c]) := by
  rw [escL_append]
  congr 1

/-- Bytes that stand for themselves. -/
def litP (t : List UInt8) : List Pc := t.map fun c => ⟨0, c⟩

theorem plainP_lit {c : UInt8} (h : escB c = false) : plainP c = ⟨0, c⟩ ∧ ¬ c = 33 := by
  unfold escB at h
  simp only [Bool.or_eq_false_iff, beq_eq_false_iff_ne] at h
  obtain ⟨⟨h1, h2⟩, h3⟩ := h
  refine ⟨?_, h3⟩
  unfold plainP
  rw [if_neg (fun h => h1 (UInt8.toNat.inj (by have := eq_of_beq h; show c.toNat = 37; omega))), if_neg (fun h => h2 (UInt8.toNat.inj (by have := eq_of_beq h; show c.toNat = 95; omega)))]

theorem cutL_cons {e : List UInt8} {c : UInt8} (h : ¬ e.head? = some c) (r : List UInt8) : cutL e (c :: r) = (cutL e r).map (plainP c :: ·) := by
  cases r with
  | nil => show (if e.head? = some c then none else some [plainP c]) = _; rw [if_neg h]; rfl
  | cons d t => rw [cutL, if_neg h]

theorem cutL_lit (r : List UInt8) (ps : List Pc) (h : cutL [33] r = some ps) (t : List UInt8) : cutL [33] (escL t ++ r) = some (litP t ++ ps) := by
  induction t with
  | nil => exact h
  | cons c t ih =>
    rw [escL]
    cases hc : escB c with
    | true =>
      rw [if_pos rfl]
      show cutL [33] (33 :: c :: (escL t ++ r)) = _
      rw [cutL, if_pos (by rfl), ih]
      rfl
    | false =>
      rw [if_neg (by decide)]
      obtain ⟨h1, h2⟩ := plainP_lit hc
      show cutL [33] (c :: (escL t ++ r)) = _
      rw [cutL_cons (by intro e; exact h2 (by simpa using e.symm)), ih, h1]
      rfl

theorem cutL_any (r : List UInt8) : cutL [33] (37 :: r) = (cutL [33] r).map (⟨2, 0⟩ :: ·) := by
  rw [cutL_cons (by decide)]; rfl
theorem cutL_ones (n : Nat) : cutL [] (List.replicate n 95) = some (List.replicate n ⟨1, 0⟩) := by
  induction n with
  | zero => rfl
  | succ n ih => rw [List.replicate_succ, cutL_cons (by decide), ih]; rfl

/-- A text stands in another at a place. -/
def standsAt (s t : List UInt8) (i : Nat) : Bool := decide (i + t.length ≤ s.length) && (s.drop i).take t.length == t

theorem fit_lits (r : List Pc) (s t : List UInt8) : ∀ (e : Nat → Bool), ∃ e' : Nat → Bool, (∀ j, e' j = (decide (t.length ≤ j) && e (j - t.length) && decide (∀ i, i < t.length → s.getD (j - t.length + i) 0 = t.getD i 0))) ∧ fitB' (litP t ++ r) s e = fitB' r s e' := by
  induction t with
  | nil => intro e; exact ⟨e, fun j => by simp, rfl⟩
  | cons c t ih =>
    intro e
    obtain ⟨e', h1, h2⟩ := ih (nextB ⟨0, c⟩ s e)
    refine ⟨e', fun j => ?_, h2⟩
    rw [h1]
    by_cases hj : t.length < j
    · obtain ⟨k, hk⟩ : ∃ k, j - t.length = k + 1 := ⟨j - t.length - 1, by omega⟩
      have hk' : j - (c :: t).length = k := by simp; omega
      rw [hk, hk']
      show (_ && (e k && s.getD k 0 == c) && _) = _
      rw [Bool.eq_iff_iff]
      simp only [Bool.and_eq_true, decide_eq_true_eq, List.length_cons, beq_iff_eq]
      constructor
      · rintro ⟨⟨_, h3, h4⟩, h5⟩
        refine ⟨⟨by omega, h3⟩, fun i hi => ?_⟩
        cases i with
        | zero => exact h4
        | succ i => have := h5 i (by omega); rw [show k + 1 + i = k + (i + 1) by omega] at this; exact this
      · rintro ⟨⟨_, h3⟩, h5⟩
        refine ⟨⟨by omega, h3, h5 0 (by omega)⟩, fun i hi => ?_⟩
        have := h5 (i + 1) (by omega); rw [show k + (i + 1) = k + 1 + i by omega] at this; exact this
    · by_cases hj2 : t.length ≤ j
      · have : j - t.length = 0 := by omega
        rw [this]
        have hn : ¬ (c :: t).length ≤ j := by simp; omega
        rw [decide_eq_false hn]
        show (_ && (false && _) && _) = _
        simp
      · have hn : ¬ (c :: t).length ≤ j := by simp; omega
        rw [decide_eq_false hn, decide_eq_false hj2]; simp

theorem stands_iff (s t : List UInt8) (i : Nat) (h : i + t.length ≤ s.length) : standsAt s t i = decide (∀ k, k < t.length → s.getD (i + k) 0 = t.getD k 0) := by
  unfold standsAt
  rw [decide_eq_true h, Bool.true_and, Bool.eq_iff_iff, beq_iff_eq, decide_eq_true_eq]
  constructor
  · intro he k hk
    rw [← he]
    simp only [List.getD_eq_getElem?_getD]
    rw [List.getElem?_take, if_pos hk, List.getElem?_drop]
  · intro he
    apply List.ext_getElem?
    intro k
    rw [List.getElem?_take]
    by_cases hk : k < t.length
    · rw [if_pos hk, List.getElem?_drop]
      have := he k hk
      simp only [List.getD_eq_getElem?_getD] at this
      rw [List.getElem?_eq_getElem (by omega), List.getElem?_eq_getElem hk] at this ⊢
      simp at this
      rw [this]
    · rw [if_neg hk, List.getElem?_eq_none (by omega)]

theorem stands_all (s t : List UInt8) : (decide (s.length = t.length) && standsAt s t 0) = decide (s = t) := by
  rw [Bool.eq_iff_iff]
  simp only [Bool.and_eq_true, decide_eq_true_eq]
  constructor
  · rintro ⟨h1, h2⟩
    unfold standsAt at h2
    simp only [Bool.and_eq_true, beq_iff_eq, List.drop_zero] at h2
    rw [← h1, List.take_length] at h2
    exact h2.2
  · rintro rfl
    exact ⟨rfl, by simp [standsAt]⟩

/-- A pattern of a text's own bytes fits that text alone. -/
theorem fits_same (s t : List UInt8) : fitsB (escL t) [33] s = decide (s = t) := by
  have hc := cutL_lit [] [] rfl t
  rw [List.append_nil, List.append_nil] at hc
  unfold fitsB
  rw [hc]
  obtain ⟨e', h1, h2⟩ := fit_lits [] s t (fun j => j == 0)
  show fitB' (litP t) s _ = _
  rw [List.append_nil] at h2
  rw [h2]
  show e' s.length = _
  rw [h1, ← stands_all]
  by_cases h : s.length = t.length
  · rw [h, Nat.sub_self, stands_iff s t 0 (by omega)]; simp
  · by_cases h2 : t.length ≤ s.length
    · have : (s.length - t.length == 0) = false := beq_eq_false_iff_ne.2 (by omega)
      simp [this, h]
    · simp [h2, h]

theorem any_iff (s : List UInt8) (e : Nat → Bool) : ∀ j, nextB ⟨2, 0⟩ s e j = true ↔ ∃ i, i ≤ j ∧ e i = true := by
  intro j
  induction j with
  | zero =>
    show (true && e 0) = true ↔ _
    rw [Bool.true_and]
    exact ⟨fun h => ⟨0, Nat.le_refl _, h⟩, fun ⟨i, hi, h⟩ => by rwa [Nat.le_zero.1 hi] at h⟩
  | succ j ih =>
    show (e (j + 1) || nextB ⟨2, 0⟩ s e j) = true ↔ _
    rw [Bool.or_eq_true, ih]
    constructor
    · rintro (h | ⟨i, hi, h⟩)
      · exact ⟨_, Nat.le_refl _, h⟩
      · exact ⟨i, by omega, h⟩
    · rintro ⟨i, hi, h⟩
      by_cases he : i = j + 1
      · exact .inl (he ▸ h)
      · exact .inr ⟨i, by omega, h⟩

theorem fits_begins (s t : List UInt8) : fitsB (escL t ++ [37]) [33] s = standsAt s t 0 := by
  have hc := cutL_lit [37] [⟨2, 0⟩] rfl t
  unfold fitsB
  rw [hc]
  obtain ⟨e', h1, h2⟩ := fit_lits [⟨2, 0⟩] s t (fun j => j == 0)
  show fitB' _ s _ = _
  rw [h2]
  show nextB ⟨2, 0⟩ s e' s.length = _
  rw [Bool.eq_iff_iff, any_iff]
  constructor
  · rintro ⟨i, hi, h⟩
    rw [h1] at h
    simp only [Bool.and_eq_true, decide_eq_true_eq, beq_iff_eq] at h
    obtain ⟨⟨h3, h4⟩, h5⟩ := h
    have : i = t.length := by omega
    subst this
    rw [stands_iff s t 0 (by omega), decide_eq_true_eq]
    rw [h4] at h5
    exact h5
  · intro h
    have hl : 0 + t.length ≤ s.length := by unfold standsAt at h; simp only [Bool.and_eq_true, decide_eq_true_eq] at h; exact h.1
    rw [stands_iff s t 0 hl, decide_eq_true_eq] at h
    refine ⟨t.length, by omega, ?_⟩
    rw [h1]
    simp only [Bool.and_eq_true, decide_eq_true_eq, beq_iff_eq, Nat.sub_self]
    exact ⟨⟨Nat.le_refl _, trivial⟩, h⟩

theorem fits_within (s t : List UInt8) : fitsB (37 :: (escL t ++ [37])) [33] s = true ↔ ∃ i, i ≤ s.length ∧ standsAt s t i = true := by
  have hc := cutL_lit [37] [⟨2, 0⟩] rfl t
  unfold fitsB
  rw [cutL_any, hc]
  show fitB' (litP t ++ [⟨2, 0⟩]) s (nextB ⟨2, 0⟩ s fun j => j == 0) = true ↔ _
  obtain ⟨e', h1, h2⟩ := fit_lits [⟨2, 0⟩] s t (nextB ⟨2, 0⟩ s fun j => j == 0)
  rw [h2]
  show nextB ⟨2, 0⟩ s e' s.length = true ↔ _
  rw [any_iff]
  constructor
  · rintro ⟨i, hi, h⟩
    rw [h1] at h
    simp only [Bool.and_eq_true, decide_eq_true_eq] at h
    obtain ⟨⟨h3, _⟩, h5⟩ := h
    refine ⟨i - t.length, by omega, ?_⟩
    rw [stands_iff s t _ (by omega), decide_eq_true_eq]
    exact h5
  · rintro ⟨i, hi, h⟩
    have hl : i + t.length ≤ s.length := by unfold standsAt at h; simp only [Bool.and_eq_true, decide_eq_true_eq] at h; exact h.1
    rw [stands_iff s t i hl, decide_eq_true_eq] at h
    refine ⟨i + t.length, hl, ?_⟩
    rw [h1]
    simp only [Bool.and_eq_true, decide_eq_true_eq, Nat.add_sub_cancel]
    exact ⟨⟨by omega, (any_iff s _ i).2 ⟨0, Nat.zero_le _, rfl⟩⟩, h⟩

theorem fit_ones (s : List UInt8) : ∀ (n : Nat) (e : Nat → Bool), ∃ e' : Nat → Bool, (∀ j, e' j = (decide (n ≤ j) && e (j - n))) ∧ fitB' (List.replicate n ⟨1, 0⟩) s e = e' s.length := by
  intro n
  induction n with
  | zero => intro e; exact ⟨e, fun j => by simp, rfl⟩
  | succ n ih =>
    intro e
    obtain ⟨e', h1, h2⟩ := ih (nextB ⟨1, 0⟩ s e)
    refine ⟨e', fun j => ?_, h2⟩
    rw [h1]
    by_cases hj : n < j
    · obtain ⟨k, hk⟩ : ∃ k, j - n = k + 1 := ⟨j - n - 1, by omega⟩
      rw [hk, show j - (n + 1) = k by omega, decide_eq_true (show n ≤ j by omega), decide_eq_true (show n + 1 ≤ j by omega)]
      rfl
    · rw [decide_eq_false (show ¬ n + 1 ≤ j by omega)]
      by_cases hj2 : n ≤ j
      · rw [show j - n = 0 by omega]; show (_ && false) = _; simp
      · rw [decide_eq_false hj2]; simp
theorem fits_ones (s : List UInt8) (n : Nat) : fitsB (List.replicate n 95) [] s = decide (s.length = n) := by
  unfold fitsB
  rw [cutL_ones]
  obtain ⟨e', h1, h2⟩ := fit_ones s n (fun j => j == 0)
  show fitB' _ s _ = _
  rw [h2, h1, Bool.eq_iff_iff]
  simp only [Bool.and_eq_true, decide_eq_true_eq, beq_iff_eq]
  omega
end

end Go.Proofs.YtfkcaldjphakpaaGreatDoor
