/- Eval of a selector and an event. is, truth, sum. Cores: terms of the one form, their texts, and how they lie in memory. The other texts of Ranges, by their tokens. What the texts of Ranges are read as, and what that is of an event. What the texts of Ranges are of the event that holds v alone. Strings that are put together. Contracts of core's quoted, sign, spellEscape. -/
import Derived.Test.YtfkcaldjphakpaaGreatDoorRfB
import Derived.Test.YtfkcaldjphakpaaGreatDoorOfB
import Derived.Test.YtfkcaldjphakpaaGreatDoorEvA
import Derived.Test.YtfkcaldjphakpaaGreatDoorShelf
import Derived.Test.YtfkcaldjphakpaaGreatDoorClA
import Derived.Lib.AppendIntMem
import Derived.Lib.ItoaNum
import Derived.Lib.SlicesCompact
import Derived.Test.YtfkcaldjphakpaaGreatDoorDgA
import Derived.Test.YtfkcaldjphakpaaGreatDoorOfC
import Derived.Test.YtfkcaldjphakpaaGreatDoorShelf2
namespace Go.Proofs.YtfkcaldjphakpaaGreatDoor
open Go.RowKit

section
set_option maxHeartbeats 1000000 in
set_option maxRecDepth 100000 in
theorem eval_ok (s : ByteArray) (hs : s.size ≤ 140737488355328) (t : Ast) (hrd : readR s = .ok t) (ps : List Pr) (b off cap : Nat) (w : World) (hE : ErrOk w)
    (hcap : ps.length ≤ cap) (hbig : ps.length ≤ 8) (hsh : Short ps) (hw : EvAt w b off ps) (hlt : b < w.heap.size) (hok : evOk ps = true)
    (hof : ∀ lo, OfOk lo ps (.slice (some ⟨b, off, none⟩) ps.length cap) t) (hlen : (ofA ps t).str.length ≤ 281474976710656) :
    Calls Tryz.prog 23 #[.string s, .slice (some ⟨b, off, none⟩) ps.length cap] w fun e w' => e = .returned (.tuple #[vV (ofA ps t), .int .i64 0, .int .i64 0]) ∧ Below w.heap.size w w' := by
  have RD := hide (read_any s (w.alloc (.cells #[.int .i64 0, .int .i64 0, .string ⟨#[]⟩] 26)) (hE.alloc _) hs)
  rw [hrd] at RD
  have hbl := (Below.refl w.heap.size w).alloc (Nat.le_refl _) (.cells #[.int .i64 0, .int .i64 0, .string ⟨#[]⟩] 26)
  have EVA := hide (hw.below hbl hlt)
  have HV := hide (fun w1 (h : EvAt w1 b off ps) (hl : b < w1.heap.size) => valid_good b off cap ps w1 hcap (by omega) hsh h hl hok)
  have HOF := hide hof
  have HB8 := hide hbig
  obtain ⟨r, hr⟩ : ∃ r, ofA ps t = r := ⟨_, rfl⟩
  rw [hr] at hlen ⊢
  have HR := hide hr
  have hzs := BS_size r.str
  have hcl : (BS r.str).size ≤ 281474976710656 := by omega
  obtain ⟨n, hn⟩ : ∃ n, ps.length = n := ⟨_, rfl⟩
  have HN := hide hn
  rw [hn] at HV HOF ⊢
  clear hrd hE hsh hw hok hof hr hlen hzs hbig hcap hn
  go_enter Tryz.func23, Tryz.ntmps23
  go_wp2_with (first | (go_at_call 36; refine (unhide RD).mono ?_; rintro e w1 ⟨hb1, v1, rfl, hn1⟩; obtain ⟨vb, rfl⟩ := hn1.ptr; have hz1 : w.heap.size < w1.heap.size := (by have := hb1.size; simp at this; omega); have EV1 := hide ((unhide EVA).below hb1 (by simp; omega)); have g0 : w1.cell? ⟨w.heap.size, 0, none⟩ = some (.int .i64 0) := ((bcell hb1).1 _ 0 (by simp)).trans (by simp); have g1 : w1.cell? ⟨w.heap.size, 1, none⟩ = some (.int .i64 0) := ((bcell hb1).1 _ 1 (by simp)).trans (by simp); have g2 : w1.cell? ⟨w.heap.size, 2, none⟩ = some (.string ⟨#[]⟩) := ((bcell hb1).1 _ 2 (by simp)).trans (by simp); have z0 : ∀ j, w1.frozen? ⟨w.heap.size, j, none⟩ = false := (fun j => ((bcell hb1).2 _ j (by simp)).trans (by simp)); have hB1 := hide (below_any hbl hb1); have hN1 := hide hn1; clear hb1 hn1) | (go_at_call 37; refine (unhide HV _ (unhide EV1) (by omega)).mono ?_; rintro e w2 ⟨rfl, hb2⟩; have hz2 : w.heap.size < w2.heap.size := (by have := hb2.size; omega); have EV2 := hide ((unhide EV1).below hb2 (by omega)); have k0 : w2.cell? ⟨w.heap.size, 0, none⟩ = some (.int .i64 0) := ((bcell hb2).1 _ 0 hz1).trans g0; have k1 : w2.cell? ⟨w.heap.size, 1, none⟩ = some (.int .i64 0) := ((bcell hb2).1 _ 1 hz1).trans g1; have k2 : w2.cell? ⟨w.heap.size, 2, none⟩ = some (.string ⟨#[]⟩) := ((bcell hb2).1 _ 2 hz1).trans g2; have z2 : ∀ j, w2.frozen? ⟨w.heap.size, j, none⟩ = false := (fun j => ((bcell hb2).2 _ j hz1).trans (z0 j)); have hN2 := hide ((unhide hN1).kept (Kept.of_below hb2)); have hB2 := hide (below_any (unhide hB1) hb2); clear hb2 g0 g1 g2 z0) | (go_at_call 38; refine (unhide HOF _ _ _ (unhide hN2) ⟨unhide HB8, .inr ⟨b, off, cap, by rw [unhide HN], unhide EV2, by omega⟩⟩).mono ?_; rw [unhide HR]; rintro e w3 ⟨rfl, hb3⟩; have hz3 : w.heap.size < w3.heap.size := (by have := hb3.size; omega); have m0 : w3.cell? ⟨w.heap.size, 0, none⟩ = some (.int .i64 0) := ((bcell hb3).1 _ 0 hz2).trans k0; have m1 : w3.cell? ⟨w.heap.size, 1, none⟩ = some (.int .i64 0) := ((bcell hb3).1 _ 1 hz2).trans k1; have m2 : w3.cell? ⟨w.heap.size, 2, none⟩ = some (.string ⟨#[]⟩) := ((bcell hb3).1 _ 2 hz2).trans k2; have z3 : ∀ j, w3.frozen? ⟨w.heap.size, j, none⟩ = false := (fun j => ((bcell hb3).2 _ j hz2).trans (z2 j)); have hB3 := hide (below_any (unhide hB2) hb3); clear hb3 k0 k1 k2 z2; simp only [vV]) | (go_at_call 39; refine (clone_any (BS r.str) _ hcl).mono ?_; rintro e w4 ⟨rfl, hb4⟩; have hz4 : w3.heap.size < w4.heap.size := (by have := hb4.size; simp at this; omega); have n0 : w4.cell? ⟨w.heap.size, 0, none⟩ = some (.int .i64 0) := ((bcell hb4).1 _ 0 (by simp; omega)).trans (by rw [World.cell?_alloc_past _ _ _ hz3]; exact m0); have n1 : w4.cell? ⟨w.heap.size, 1, none⟩ = some (.int .i64 0) := ((bcell hb4).1 _ 1 (by simp; omega)).trans (by rw [World.cell?_alloc_past _ _ _ hz3]; exact m1); have n2 : w4.cell? ⟨w.heap.size, 2, none⟩ = some (.string ⟨#[]⟩) := ((bcell hb4).1 _ 2 (by simp; omega)).trans (by rw [World.cell?_alloc_past _ _ _ hz3]; exact m2); have z4 : ∀ j, w4.frozen? ⟨w.heap.size, j, none⟩ = false := (fun j => ((bcell hb4).2 _ j (by simp; omega)).trans (by rw [World.frozen?_alloc_past _ _ _ hz3]; exact z3 j)); have a0 : w4.cell? ⟨w3.heap.size, 0, none⟩ = some (.int .i64 r.kind) := ((bcell hb4).1 _ 0 (by simp)).trans (by simp); have a1 : w4.cell? ⟨w3.heap.size, 1, none⟩ = some (.int .i64 r.num) := ((bcell hb4).1 _ 1 (by simp)).trans (by simp); have a2 : w4.cell? ⟨w3.heap.size, 2, none⟩ = some (.string (BS r.str)) := ((bcell hb4).1 _ 2 (by simp)).trans (by simp); have z5 : ∀ j, w4.frozen? ⟨w3.heap.size, j, none⟩ = false := (fun j => ((bcell hb4).2 _ j (by simp)).trans (by simp)); have hne : ¬ w3.heap.size = w.heap.size := (by omega); have hB4 := hide (below_any (below_alloc (unhide hB3) _) hb4); clear hb4 m0 m1 m2 z3))
  refine bodyPost_ret (by simp [results, Tryz.results23, go_sem, n0, n1, n2] <;> rfl) rfl ⟨rfl, ?_⟩
  exact ((((unhide hB4).setCell (by simp; omega) _).setCell (by simp) _).setCell (by simp) _).setCell (by simp) _
end

section
set_option maxHeartbeats 400000 in
theorem truth_any (b : Bool) (w : World) :
    Calls Tryz.prog 18 #[.bool b] w fun e w' => e = .returned (vV (bV b)) ∧ Below w.heap.size w w' := by
  cases b
  all_goals
    go_enter Tryz.func18, Tryz.ntmps18
    go_wp2_with fail
    refine bodyPost_ret (by simp [results, Tryz.results18, go_sem] <;> rfl) rfl ⟨rfl, ?_⟩
    exact below2 _ _ _

set_option maxHeartbeats 400000 in
theorem is_any (s : ByteArray) (ev : Value) (r want : V) (hev : ∃ a n c, ev = .slice a n c) (w : World) (hEV : ∀ w1, Below w.heap.size w w1 → w.heap.size < w1.heap.size → Calls Tryz.prog 23 #[.string s, ev] w1 fun e w' => e = .returned (.tuple #[vV r, .int .i64 0, .int .i64 0]) ∧ Below w1.heap.size w1 w') :
    Calls Tryz.prog 17 #[.string s, ev, vV want] w fun e w' => e = .returned (.bool (decide (r = want))) ∧ Below w.heap.size w w' := by
  have he := fun w => eql_v r want w
  have EV := hide hEV
  obtain ⟨a, n, c, rfl⟩ := hev
  obtain ⟨d, hd⟩ : ∃ d, decide (r = want) = d := ⟨_, rfl⟩
  rw [hd] at he ⊢
  clear hEV hd
  simp only [vV] at he
  conv => arg 3; simp only [vV]
  go_enter Tryz.func17, Tryz.ntmps17
  go_wp2_with (go_at_call 23; refine (unhide EV _ ((Below.refl _ _).alloc (Nat.le_refl _) _) (by simp)).mono ?_; rintro e w1 ⟨rfl, hb1⟩; have hz1 : w.heap.size < w1.heap.size := (by have := hb1.size; simp at this; omega); have g0 : w1.cell? ⟨w.heap.size, 0, none⟩ = some (.int .i64 want.kind) := ((bcell hb1).1 _ 0 (by simp)).trans (by simp); have g1 : w1.cell? ⟨w.heap.size, 1, none⟩ = some (.int .i64 want.num) := ((bcell hb1).1 _ 1 (by simp)).trans (by simp); have g2 : w1.cell? ⟨w.heap.size, 2, none⟩ = some (.string (BS want.str)) := ((bcell hb1).1 _ 2 (by simp)).trans (by simp); have hB1 := hide (below_step hb1); clear hb1; simp only [vV])
  go_ret
  exact ⟨rfl, below_alloc (unhide hB1) _⟩


/-- The sum goes round just where it is no int64. -/
def sumOk (x y : Int) : Bool := fitB (x + y)
end

section
/-- What contracts of the library lean on: the error, the longest needle, the powers of ten. -/
structure LibOk (w : World) : Prop where
  err : ErrOk w
  max : 4 < w.heap.size ∧ ∃ m, w.cell? ⟨4, 0, none⟩ = some (.int .i64 m)
  pow : Lib.TabIs Tryz.prog w "internal/strconv.uint64pow10" .u64 Lib.pow10Tab

theorem LibOk.below {w w' : World} {B : Nat} (h : LibOk w) (hb : Below B w w') (hB : w.heap.size ≤ B) : LibOk w' := by
  obtain ⟨hz, m, hm⟩ := h.max
  exact ⟨h.err.below hb hB, ⟨Nat.lt_of_lt_of_le hz (by have := hb.size; omega), m, (hb.cell (p := ⟨4, 0, none⟩) (Nat.lt_of_lt_of_le hz hB)).trans hm⟩, (Lib.tabBelow_of_tabIs h.pow) w' (hb.mono hB)⟩
theorem LibOk.alloc {w : World} (h : LibOk w) (o : Obj) : LibOk (w.alloc o) := h.below ((Below.refl _ _).alloc (Nat.le_refl _) o) (Nat.le_refl _)

/-- What a term of a core bears. -/
structure CP where
  op : Int
  num : Int
  str : List UInt8
  esc : List UInt8
inductive Co where
  | leaf (p : CP)
  | un (p : CP) (x : Co)
  | bin (p : CP) (x y : Co)

/-- A text between its quotes. -/
def qL (s : List UInt8) : List UInt8 := 39 :: (dblL s ++ [39])
def signL (op : Int) : List UInt8 :=
  if op == 6 then [65, 78, 68] else if op == 7 then [79, 82] else if op == 8 then [61] else if op == 10 then [60] else if op == 11 then [60, 61]
  else if op == 16 then [43] else if op == 17 then [45] else if op == 18 then [42] else [47]
def escT (e : List UInt8) : List UInt8 := if e.isEmpty then [] else [32, 69, 83, 67, 65, 80, 69, 32] ++ qL e
def spellN (p : CP) (l r : List UInt8) : List UInt8 :=
  if p.op == 0 then p.str else if p.op == 1 then Lib.itoa p.num else if p.op == 2 then qL p.str else if p.op == 3 then [84, 82, 85, 69] else if p.op == 4 then [70, 65, 76, 83, 69]
  else if p.op == 5 then [40, 78, 79, 84, 32] ++ l ++ [41] else if p.op == 23 then [40] ++ l ++ [32, 73, 83, 32, 78, 85, 76, 76, 41]
  else if p.op == 22 then [40] ++ l ++ [32, 76, 73, 75, 69, 32] ++ qL p.str ++ escT p.esc ++ [41]
  else [40] ++ l ++ [32] ++ signL p.op ++ [32] ++ r ++ [41]
def spell : Co → List UInt8
  | .leaf p => spellN p [] []
  | .un p x => spellN p (spell x) []
  | .bin p x y => spellN p (spell x) (spell y)

def opC : Co → Int
  | .leaf p => p.op
  | .un p _ => p.op
  | .bin p _ _ => p.op
def plainP' (op : Int) : CP := ⟨op, 0, [], []⟩

def eitherB (op : Int) : Bool := op == 6 || op == 7 || op == 8 || op == 16 || op == 18
def pairC (op : Int) (x y : Co) : Co := if eitherB op && Op.bytesLess (spell y) (spell x) then .bin (plainP' op) y x else .bin (plainP' op) x y
def notC : Co → Co
  | .leaf p => if p.op == 3 then .leaf (plainP' 4) else if p.op == 4 then .leaf (plainP' 3) else .un (plainP' 5) (.leaf p)
  | .un p x => if p.op == 5 && opC x != 0 then x else .un (plainP' 5) (.un p x)
  | .bin p x y => if p.op == 6 then pairC 7 (notC x) (notC y) else if p.op == 7 then pairC 6 (notC x) (notC y)
      else if p.op == 10 then pairC 11 y x else if p.op == 11 then pairC 10 y x else .un (plainP' 5) (.bin p x y)
def textC (s : List UInt8) : Co := .leaf ⟨2, 0, s, []⟩
def numC (n : Int) : Co := .leaf ⟨1, n, [], []⟩
def orAll (x : Co) : Co → List (List UInt8) → Co
  | f, [] => f
  | f, t :: r => orAll x (pairC 7 f (pairC 8 x (textC t))) r
def sortT (ts : List (List UInt8)) : List (List UInt8) := Lib.compact (ts.mergeSort fun x y => decide (x ≤ y))
def amongC (x : Co) (ts : List (List UInt8)) : Co := match sortT ts with
  | [] => x
  | t :: r => orAll x (pairC 8 x (textC t)) r
def cpOf (p : Pay) : CP := ⟨p.op, p.num, p.str, p.esc⟩
def coreA : Ast → Co
  | .leaf p => .leaf (cpOf p)
  | .un p x => if p.op == 14 then pairC 16 (numC 0) (coreA x) else if p.op == 15 then pairC 17 (numC 0) (coreA x) else if p.op == 5 then notC (coreA x)
      else if p.op == 21 then amongC (coreA x) p.texts else .un (cpOf p) (coreA x)
  | .bin p x y => if p.op == 12 then pairC 10 (coreA y) (coreA x) else if p.op == 13 then pairC 11 (coreA y) (coreA x) else if p.op == 9 then notC (pairC 8 (coreA x) (coreA y)) else pairC p.op (coreA x) (coreA y)
  | .tri _ x y z => pairC 6 (pairC 11 (coreA y) (coreA x)) (pairC 11 (coreA x) (coreA z))

/-- A core's own block. -/
structure CellsC (B E : Nat) (w : World) (b : Nat) (p : CP) (l r : Value) (t : List UInt8) : Prop where
  lo : B ≤ b
  hi : b < E
  within : b < w.heap.size
  c0 : w.cell? ⟨b, 0, none⟩ = some (.int .i64 p.op)
  c1 : w.cell? ⟨b, 1, none⟩ = some l
  c2 : w.cell? ⟨b, 2, none⟩ = some r
  c3 : w.cell? ⟨b, 3, none⟩ = some (.int .i64 p.num)
  c4 : w.cell? ⟨b, 4, none⟩ = some (.string (BS p.str))
  c5 : w.cell? ⟨b, 5, none⟩ = some (.string (BS p.esc))
  c6 : w.cell? ⟨b, 6, none⟩ = some (.string (BS t))
def nilP : Value := .pointer none
def at0 (b : Nat) : Value := .pointer (some ⟨b, 0, none⟩)
def CoAt (B E : Nat) (w : World) (v : Value) : Co → Prop
  | .leaf p => ∃ b, v = at0 b ∧ CellsC B E w b p nilP nilP (spell (.leaf p))
  | .un p x => ∃ b vx, v = at0 b ∧ CellsC B E w b p vx nilP (spell (.un p x)) ∧ CoAt B E w vx x
  | .bin p x y => ∃ b vx vy, v = at0 b ∧ CellsC B E w b p vx vy (spell (.bin p x y)) ∧ CoAt B E w vx x ∧ CoAt B E w vy y

theorem CellsC.keep {B E E' : Nat} {w w' : World} {b : Nat} {p : CP} {l r : Value} {t : List UInt8} (h : CellsC B E w b p l r t) (hE : E ≤ E') (hk : ∀ k, B ≤ k → k < E → w'.heap[k]? = w.heap[k]?) (hz : w.heap.size ≤ w'.heap.size) : CellsC B E' w' b p l r t := by
  have hc : ∀ j, w'.cell? ⟨b, j, none⟩ = w.cell? ⟨b, j, none⟩ := fun j => World.cell?_of_block (w := w) (w' := w') (a := ⟨b, j, none⟩) (hk b h.lo h.hi)
  exact ⟨h.lo, Nat.lt_of_lt_of_le h.hi hE, Nat.lt_of_lt_of_le h.within hz, (hc 0).trans h.c0, (hc 1).trans h.c1, (hc 2).trans h.c2, (hc 3).trans h.c3, (hc 4).trans h.c4, (hc 5).trans h.c5, (hc 6).trans h.c6⟩
theorem CoAt.keep {B E E' : Nat} {w w' : World} (hE : E ≤ E') (hk : ∀ k, B ≤ k → k < E → w'.heap[k]? = w.heap[k]?) (hz : w.heap.size ≤ w'.heap.size) : ∀ {c : Co} {v : Value}, CoAt B E w v c → CoAt B E' w' v c := by
  intro c
  induction c with
  | leaf p => rintro v ⟨b, rfl, h⟩; exact ⟨b, rfl, h.keep hE hk hz⟩
  | un p x ih => rintro v ⟨b, vx, rfl, h, hx⟩; exact ⟨b, vx, rfl, h.keep hE hk hz, ih hx⟩
  | bin p x y ihx ihy => rintro v ⟨b, vx, vy, rfl, h, hx, hy⟩; exact ⟨b, vx, vy, rfl, h.keep hE hk hz, ihx hx, ihy hy⟩
theorem CoAt.below {B : Nat} {w w' : World} (hb : Below w.heap.size w w') {c : Co} {v : Value} (h : CoAt B w.heap.size w v c) : CoAt B w'.heap.size w' v c :=
  h.keep hb.size (fun k _ hk => hb.block k hk) hb.size
theorem CoAt.head {B E : Nat} {w : World} {v : Value} {c : Co} (h : CoAt B E w v c) : ∃ b p l r, v = at0 b ∧ p.op = opC c ∧ CellsC B E w b p l r (spell c) := by
  cases c with
  | leaf p => obtain ⟨b, rfl, h⟩ := h; exact ⟨b, p, _, _, rfl, rfl, h⟩
  | un p x => obtain ⟨b, vx, rfl, h, _⟩ := h; exact ⟨b, p, _, _, rfl, rfl, h⟩
  | bin p x y => obtain ⟨b, vx, vy, rfl, h, _⟩ := h; exact ⟨b, p, _, _, rfl, rfl, h⟩

/-- A side's text: what spelling asks of it. -/
def TextAt (w : World) (v : Value) (t : List UInt8) : Prop := ∃ b, v = at0 b ∧ b < w.heap.size ∧ w.cell? ⟨b, 6, none⟩ = some (.string (BS t))
theorem CoAt.text {B E : Nat} {w : World} {v : Value} {c : Co} (h : CoAt B E w v c) : TextAt w v (spell c) := by
  obtain ⟨b, p, l, r, rfl, _, h⟩ := h.head
  exact ⟨b, rfl, h.within, h.c6⟩
end

section
theorem digZ_cons (a : Int) : ∃ c t, digZ a = c :: t ∧ (c == 61) = false ∧ (c == 62) = false := by
  unfold digZ
  by_cases h0 : a < 0
  · rw [if_pos h0]; exact ⟨45, _, rfl, rfl, rfl⟩
  · rw [if_neg h0]
    cases h : digN a.toNat with
    | nil => exact absurd h (digN_ne _)
    | cons c t =>
      have hd : digU c = true := digN_dig _ c (by rw [h]; simp)
      have hz : 48 ≤ c.toNat ∧ c.toNat ≤ 57 := by unfold digU digB at hd; simp at hd; omega
      refine ⟨c, t, rfl, ?_, ?_⟩
      · apply beq_eq_false_iff_ne.2; intro e; rw [e] at hz; revert hz; decide
      · apply beq_eq_false_iff_ne.2; intro e; rw [e] at hz; revert hz; decide

/-- v not between a and b -/
theorem lx_text2 {a b : Int} (ha : Rng a) (hma : ¬ a = -9223372036854775808) (hb : Rng b) (hmb : ¬ b = -9223372036854775808) :
    Lx ([118, 32, 110, 111, 116, 32, 98, 101, 116, 119, 101, 101, 110, 32] ++ (digZ a ++ ([32, 97, 110, 100, 32] ++ (digZ b ++ [])))) (⟨2, 0, [118]⟩ :: ⟨7, 0, []⟩ :: ⟨10, 0, []⟩ :: (numToks a ++ (⟨5, 0, []⟩ :: (numToks b ++ [])))) := by
  have h1 := lx_num hb hmb (r := []) (fun c h => by cases h) lx_end
  have h2 : Lx ([32, 97, 110, 100, 32] ++ (digZ b ++ [])) (⟨5, 0, []⟩ :: (numToks b ++ [])) :=
    lx_space (.cons (k := ⟨5, 0, []⟩) rfl (show (5 : Int) ≠ 0 by decide) (lx_space h1))
  have h3 := lx_num ha hma (r := [32, 97, 110, 100, 32] ++ (digZ b ++ [])) (fun c h => by simp at h; subst h; rfl) h2
  exact .cons (k := ⟨2, 0, [118]⟩) rfl (show (2 : Int) ≠ 0 by decide) (lx_space (.cons (k := ⟨7, 0, []⟩) rfl (show (7 : Int) ≠ 0 by decide) (lx_space (.cons (k := ⟨10, 0, []⟩) rfl (show (10 : Int) ≠ 0 by decide) (lx_space h3)))))

theorem lx_less {r : List UInt8} {L : List Tk} {c : UInt8} {t : List UInt8} (hr : r = c :: t) (h1 : (c == 61) = false) (h2 : (c == 62) = false) (h : Lx r L) : Lx (60 :: r) (⟨18, 0, []⟩ :: L) := by
  subst hr
  have hS : markS (60 :: c :: t) = 1 := by
    show (if (60 : UInt8) == 60 && c == 62 || ((60 : UInt8) == 60 || (60 : UInt8) == 62) && c == 61 then 2 else 1) = 1
    rw [h1, h2]; rfl
  have hT : markT (60 :: c :: t) = 18 := by
    unfold markT
    rw [hS]
    have : ((60 :: c :: t).take 2 == [60, 62]) = false := by
      show ((60 : UInt8) == 60 && (c == 62 && true)) = false
      rw [h2]; rfl
    rw [this]; rfl
  have hm : nextTk (60 :: c :: t) 0 = ⟨18, 0, []⟩ ∧ nextTo (60 :: c :: t) 0 = 1 := by
    constructor
    · show plainTk (markT (60 :: c :: t)) = _
      rw [hT]; rfl
    · show 0 + markS (60 :: c :: t) = 1
      rw [hS]
  exact .cons hm.1 (show (18 : Int) ≠ 0 by decide) (by rw [hm.2]; exact h)
theorem lx_more {r : List UInt8} {L : List Tk} {c : UInt8} {t : List UInt8} (hr : r = c :: t) (h1 : (c == 61) = false) (h : Lx r L) : Lx (62 :: r) (⟨20, 0, []⟩ :: L) := by
  subst hr
  have hS : markS (62 :: c :: t) = 1 := by
    show (if (62 : UInt8) == 60 && c == 62 || ((62 : UInt8) == 60 || (62 : UInt8) == 62) && c == 61 then 2 else 1) = 1
    rw [h1]; rfl
  have hT : markT (62 :: c :: t) = 20 := by
    unfold markT
    rw [hS]
    have : ((62 :: c :: t).take 2 == [60, 62]) = false := rfl
    rw [this]; rfl
  have hm : nextTk (62 :: c :: t) 0 = ⟨20, 0, []⟩ ∧ nextTo (62 :: c :: t) 0 = 1 := by
    constructor
    · show plainTk (markT (62 :: c :: t)) = _
      rw [hT]; rfl
    · show 0 + markS (62 :: c :: t) = 1
      rw [hS]
  exact .cons hm.1 (show (20 : Int) ≠ 0 by decide) (by rw [hm.2]; exact h)

/-- v<a Or v>b -/
theorem lx_text3 {a b : Int} (ha : Rng a) (hma : ¬ a = -9223372036854775808) (hb : Rng b) (hmb : ¬ b = -9223372036854775808) :
    Lx ([118, 60] ++ (digZ a ++ ([32, 79, 114, 32, 118, 62] ++ (digZ b ++ [])))) (⟨2, 0, [118]⟩ :: ⟨18, 0, []⟩ :: (numToks a ++ (⟨6, 0, []⟩ :: ⟨2, 0, [118]⟩ :: ⟨20, 0, []⟩ :: (numToks b ++ [])))) := by
  have h1 := lx_num hb hmb (r := []) (fun c h => by cases h) lx_end
  obtain ⟨cb, tb, eb, eb1, _⟩ := digZ_cons b
  obtain ⟨ca, ta, ea, ea1, ea2⟩ := digZ_cons a
  have h2 : Lx ([32, 79, 114, 32, 118, 62] ++ (digZ b ++ [])) (⟨6, 0, []⟩ :: ⟨2, 0, [118]⟩ :: ⟨20, 0, []⟩ :: (numToks b ++ [])) :=
    lx_space (.cons (k := ⟨6, 0, []⟩) rfl (show (6 : Int) ≠ 0 by decide) (lx_space (.cons (k := ⟨2, 0, [118]⟩) rfl (show (2 : Int) ≠ 0 by decide) (lx_more (by rw [eb]; rfl) eb1 h1))))
  have h3 := lx_num ha hma (r := [32, 79, 114, 32, 118, 62] ++ (digZ b ++ [])) (fun c h => by simp at h; subst h; rfl) h2
  exact .cons (k := ⟨2, 0, [118]⟩) rfl (show (2 : Int) ≠ 0 by decide) (lx_less (by rw [ea]; rfl) ea1 ea2 h3)

/-- (v <> a) -/
theorem lx_text4 {a : Int} (ha : Rng a) (hma : ¬ a = -9223372036854775808) :
    Lx ([40, 118, 32, 60, 62, 32] ++ (digZ a ++ [41])) (⟨26, 0, []⟩ :: ⟨2, 0, [118]⟩ :: ⟨17, 0, []⟩ :: (numToks a ++ [⟨27, 0, []⟩])) := by
  have h3 := lx_num ha hma (r := [41]) (fun c h => by simp at h; subst h; rfl) (.cons (k := ⟨27, 0, []⟩) rfl (show (27 : Int) ≠ 0 by decide) lx_end)
  have h4 : Lx ([118, 32, 60, 62, 32] ++ (digZ a ++ [41])) (⟨2, 0, [118]⟩ :: ⟨17, 0, []⟩ :: (numToks a ++ [⟨27, 0, []⟩])) :=
    .cons (k := ⟨2, 0, [118]⟩) rfl (show (2 : Int) ≠ 0 by decide) (lx_space (.cons (k := ⟨17, 0, []⟩) rfl (show (17 : Int) ≠ 0 by decide) (lx_space h3)))
  exact .cons (k := ⟨26, 0, []⟩) rfl (show (26 : Int) ≠ 0 by decide) h4

/-- v = b -/
theorem lx_text5 {b : Int} (hb : Rng b) (hmb : ¬ b = -9223372036854775808) :
    Lx ([118, 32, 61, 32] ++ (digZ b ++ [])) (⟨2, 0, [118]⟩ :: ⟨16, 0, []⟩ :: (numToks b ++ [])) := by
  have h1 := lx_num hb hmb (r := []) (fun c h => by cases h) lx_end
  exact .cons (k := ⟨2, 0, [118]⟩) rfl (show (2 : Int) ≠ 0 by decide) (lx_space (.cons (k := ⟨16, 0, []⟩) rfl (show (16 : Int) ≠ 0 by decide) (lx_space h1)))

/-- v <= a AND b >= v -/
theorem lx_text6 {a b : Int} (ha : Rng a) (hma : ¬ a = -9223372036854775808) (hb : Rng b) (hmb : ¬ b = -9223372036854775808) :
    Lx ([118, 32, 60, 61, 32] ++ (digZ a ++ ([32, 65, 78, 68, 32] ++ (digZ b ++ [32, 62, 61, 32, 118])))) (⟨2, 0, [118]⟩ :: ⟨19, 0, []⟩ :: (numToks a ++ (⟨5, 0, []⟩ :: (numToks b ++ [⟨21, 0, []⟩, ⟨2, 0, [118]⟩])))) := by
  have h0 : Lx [32, 62, 61, 32, 118] [⟨21, 0, []⟩, ⟨2, 0, [118]⟩] := lx_space (.cons (k := ⟨21, 0, []⟩) rfl (show (21 : Int) ≠ 0 by decide) (lx_space (.cons (k := ⟨2, 0, [118]⟩) rfl (show (2 : Int) ≠ 0 by decide) lx_end)))
  have h1 := lx_num hb hmb (r := [32, 62, 61, 32, 118]) (fun c h => by simp at h; subst h; rfl) h0
  have h2 : Lx ([32, 65, 78, 68, 32] ++ (digZ b ++ [32, 62, 61, 32, 118])) (⟨5, 0, []⟩ :: (numToks b ++ [⟨21, 0, []⟩, ⟨2, 0, [118]⟩])) :=
    lx_space (.cons (k := ⟨5, 0, []⟩) rfl (show (5 : Int) ≠ 0 by decide) (lx_space h1))
  have h3 := lx_num ha hma (r := [32, 65, 78, 68, 32] ++ (digZ b ++ [32, 62, 61, 32, 118])) (fun c h => by simp at h; subst h; rfl) h2
  exact .cons (k := ⟨2, 0, [118]⟩) rfl (show (2 : Int) ≠ 0 by decide) (lx_space (.cons (k := ⟨19, 0, []⟩) rfl (show (19 : Int) ≠ 0 by decide) (lx_space h3)))

/-- w BETWEEN a AND b -/
theorem lx_text7 {a b : Int} (ha : Rng a) (hma : ¬ a = -9223372036854775808) (hb : Rng b) (hmb : ¬ b = -9223372036854775808) :
    Lx ([119, 32, 66, 69, 84, 87, 69, 69, 78, 32] ++ (digZ a ++ ([32, 65, 78, 68, 32] ++ (digZ b ++ [])))) (⟨2, 0, [119]⟩ :: ⟨10, 0, []⟩ :: (numToks a ++ (⟨5, 0, []⟩ :: (numToks b ++ [])))) := by
  have h1 := lx_num hb hmb (r := []) (fun c h => by cases h) lx_end
  have h2 : Lx ([32, 65, 78, 68, 32] ++ (digZ b ++ [])) (⟨5, 0, []⟩ :: (numToks b ++ [])) :=
    lx_space (.cons (k := ⟨5, 0, []⟩) rfl (show (5 : Int) ≠ 0 by decide) (lx_space h1))
  have h3 := lx_num ha hma (r := [32, 65, 78, 68, 32] ++ (digZ b ++ [])) (fun c h => by simp at h; subst h; rfl) h2
  exact .cons (k := ⟨2, 0, [119]⟩) rfl (show (2 : Int) ≠ 0 by decide) (lx_space (.cons (k := ⟨10, 0, []⟩) rfl (show (10 : Int) ≠ 0 by decide) (lx_space h3)))
end

section
theorem digZ_len {a : Int} (ha : Rng a) : (digZ a).length ≤ 20 := by
  unfold Rng at ha
  unfold digZ
  by_cases h0 : a < 0
  · rw [if_pos h0]
    have := digN_len 18 (-a).toNat (by omega)
    simp; omega
  · rw [if_neg h0]
    have := digN_len 18 a.toNat (by omega)
    omega

set_option maxRecDepth 1000000 in
theorem parse_1 (a b : Int) : (tLvl 12).E ⟨⟨2, 0, [118]⟩ :: ⟨10, 0, []⟩ :: (numToks a ++ (⟨5, 0, []⟩ :: (numToks b ++ []))), 0⟩ = .ok (.tri ⟨20, 0, 0, [], [], []⟩ (tLeaf 0 0 [118]) (numAst a) (numAst b)) ⟨[], 0⟩ := by
  unfold numToks numAst
  by_cases ha : a < 0 <;> by_cases hb : b < 0
  · rw [if_pos ha, if_pos ha, if_pos hb, if_pos hb]; kernel_rfl
  · rw [if_pos ha, if_pos ha, if_neg hb, if_neg hb]; kernel_rfl
  · rw [if_neg ha, if_neg ha, if_pos hb, if_pos hb]; kernel_rfl
  · rw [if_neg ha, if_neg ha, if_neg hb, if_neg hb]; kernel_rfl
theorem chk_1 (a b : Int) : chkR (clsA (.tri ⟨20, 0, 0, [], [], []⟩ (tLeaf 0 0 [118]) (numAst a) (numAst b))) = none := by
  unfold numAst
  by_cases ha : a < 0 <;> by_cases hb : b < 0
  · rw [if_pos ha, if_pos hb]; rfl
  · rw [if_pos ha, if_neg hb]; rfl
  · rw [if_neg ha, if_pos hb]; rfl
  · rw [if_neg ha, if_neg hb]; rfl
theorem readg_1 (a b : Int) (ha : Rng a) (hma : ¬ a = -9223372036854775808) (hb : Rng b) (hmb : ¬ b = -9223372036854775808) : ∃ t, readR (BS ([118, 32, 66, 69, 84, 87, 69, 69, 78, 32] ++ (digZ a ++ ([32, 65, 78, 68, 32] ++ (digZ b ++ []))))) = .ok t ∧ erase t = .tri ⟨20, 0, 0, [], [], []⟩ (tLeaf 0 0 [118]) (numAst a) (numAst b) ∧ NumA t ∧ BndA t := by
  have la := digZ_len ha; have lb := digZ_len hb
  exact read_of_tokens _ (by rw [BS_size]; simp; omega) _ (by rw [BS_data]; exact lx_between ha hma hb hmb) _ (parse_1 a b) (chk_1 a b)

set_option maxRecDepth 1000000 in
theorem parse_2 (a b : Int) : (tLvl 12).E ⟨⟨2, 0, [118]⟩ :: ⟨7, 0, []⟩ :: ⟨10, 0, []⟩ :: (numToks a ++ (⟨5, 0, []⟩ :: (numToks b ++ []))), 0⟩ = .ok (.un ⟨5, 0, 0, [], [], []⟩ (.tri ⟨20, 0, 0, [], [], []⟩ (tLeaf 0 0 [118]) (numAst a) (numAst b))) ⟨[], 0⟩ := by
  unfold numToks numAst
  by_cases ha : a < 0 <;> by_cases hb : b < 0
  · rw [if_pos ha, if_pos ha, if_pos hb, if_pos hb]; kernel_rfl
  · rw [if_pos ha, if_pos ha, if_neg hb, if_neg hb]; kernel_rfl
  · rw [if_neg ha, if_neg ha, if_pos hb, if_pos hb]; kernel_rfl
  · rw [if_neg ha, if_neg ha, if_neg hb, if_neg hb]; kernel_rfl
theorem chk_2 (a b : Int) : chkR (clsA (.un ⟨5, 0, 0, [], [], []⟩ (.tri ⟨20, 0, 0, [], [], []⟩ (tLeaf 0 0 [118]) (numAst a) (numAst b)))) = none := by
  unfold numAst
  by_cases ha : a < 0 <;> by_cases hb : b < 0
  · rw [if_pos ha, if_pos hb]; rfl
  · rw [if_pos ha, if_neg hb]; rfl
  · rw [if_neg ha, if_pos hb]; rfl
  · rw [if_neg ha, if_neg hb]; rfl
theorem readg_2 (a b : Int) (ha : Rng a) (hma : ¬ a = -9223372036854775808) (hb : Rng b) (hmb : ¬ b = -9223372036854775808) : ∃ t, readR (BS ([118, 32, 110, 111, 116, 32, 98, 101, 116, 119, 101, 101, 110, 32] ++ (digZ a ++ ([32, 97, 110, 100, 32] ++ (digZ b ++ []))))) = .ok t ∧ erase t = .un ⟨5, 0, 0, [], [], []⟩ (.tri ⟨20, 0, 0, [], [], []⟩ (tLeaf 0 0 [118]) (numAst a) (numAst b)) ∧ NumA t ∧ BndA t := by
  have la := digZ_len ha; have lb := digZ_len hb
  exact read_of_tokens _ (by rw [BS_size]; simp; omega) _ (by rw [BS_data]; exact lx_text2 ha hma hb hmb) _ (parse_2 a b) (chk_2 a b)

set_option maxRecDepth 1000000 in
theorem parse_3 (a b : Int) : (tLvl 12).E ⟨⟨2, 0, [118]⟩ :: ⟨18, 0, []⟩ :: (numToks a ++ (⟨6, 0, []⟩ :: ⟨2, 0, [118]⟩ :: ⟨20, 0, []⟩ :: (numToks b ++ []))), 0⟩ = .ok (.bin ⟨7, 0, 0, [], [], []⟩ (.bin ⟨10, 0, 0, [], [], []⟩ (tLeaf 0 0 [118]) (numAst a)) (.bin ⟨12, 0, 0, [], [], []⟩ (tLeaf 0 0 [118]) (numAst b))) ⟨[], 0⟩ := by
  unfold numToks numAst
  by_cases ha : a < 0 <;> by_cases hb : b < 0
  · rw [if_pos ha, if_pos ha, if_pos hb, if_pos hb]; kernel_rfl
  · rw [if_pos ha, if_pos ha, if_neg hb, if_neg hb]; kernel_rfl
  · rw [if_neg ha, if_neg ha, if_pos hb, if_pos hb]; kernel_rfl
  · rw [if_neg ha, if_neg ha, if_neg hb, if_neg hb]; kernel_rfl
theorem chk_3 (a b : Int) : chkR (clsA (.bin ⟨7, 0, 0, [], [], []⟩ (.bin ⟨10, 0, 0, [], [], []⟩ (tLeaf 0 0 [118]) (numAst a)) (.bin ⟨12, 0, 0, [], [], []⟩ (tLeaf 0 0 [118]) (numAst b)))) = none := by
  unfold numAst
  by_cases ha : a < 0 <;> by_cases hb : b < 0
  · rw [if_pos ha, if_pos hb]; rfl
  · rw [if_pos ha, if_neg hb]; rfl
  · rw [if_neg ha, if_pos hb]; rfl
  · rw [if_neg ha, if_neg hb]; rfl
theorem readg_3 (a b : Int) (ha : Rng a) (hma : ¬ a = -9223372036854775808) (hb : Rng b) (hmb : ¬ b = -9223372036854775808) : ∃ t, readR (BS ([118, 60] ++ (digZ a ++ ([32, 79, 114, 32, 118, 62] ++ (digZ b ++ []))))) = .ok t ∧ erase t = .bin ⟨7, 0, 0, [], [], []⟩ (.bin ⟨10, 0, 0, [], [], []⟩ (tLeaf 0 0 [118]) (numAst a)) (.bin ⟨12, 0, 0, [], [], []⟩ (tLeaf 0 0 [118]) (numAst b)) ∧ NumA t ∧ BndA t := by
  have la := digZ_len ha; have lb := digZ_len hb
  exact read_of_tokens _ (by rw [BS_size]; simp; omega) _ (by rw [BS_data]; exact lx_text3 ha hma hb hmb) _ (parse_3 a b) (chk_3 a b)

set_option maxRecDepth 1000000 in
theorem parse_4 (a : Int) : (tLvl 12).E ⟨⟨26, 0, []⟩ :: ⟨2, 0, [118]⟩ :: ⟨17, 0, []⟩ :: (numToks a ++ [⟨27, 0, []⟩]), 0⟩ = .ok (.bin ⟨9, 0, 0, [], [], []⟩ (tLeaf 0 0 [118]) (numAst a)) ⟨[], 0⟩ := by
  unfold numToks numAst
  by_cases ha : a < 0
  · rw [if_pos ha, if_pos ha]; kernel_rfl
  · rw [if_neg ha, if_neg ha]; kernel_rfl
theorem chk_4 (a : Int) : chkR (clsA (.bin ⟨9, 0, 0, [], [], []⟩ (tLeaf 0 0 [118]) (numAst a))) = none := by
  unfold numAst
  by_cases ha : a < 0
  · rw [if_pos ha]; rfl
  · rw [if_neg ha]; rfl
theorem readg_4 (a : Int) (ha : Rng a) (hma : ¬ a = -9223372036854775808) : ∃ t, readR (BS ([40, 118, 32, 60, 62, 32] ++ (digZ a ++ [41]))) = .ok t ∧ erase t = .bin ⟨9, 0, 0, [], [], []⟩ (tLeaf 0 0 [118]) (numAst a) ∧ NumA t ∧ BndA t := by
  have la := digZ_len ha
  exact read_of_tokens _ (by rw [BS_size]; simp; omega) _ (by rw [BS_data]; exact lx_text4 ha hma) _ (parse_4 a) (chk_4 a)

set_option maxRecDepth 1000000 in
theorem parse_5 (b : Int) : (tLvl 12).E ⟨⟨2, 0, [118]⟩ :: ⟨16, 0, []⟩ :: (numToks b ++ []), 0⟩ = .ok (.bin ⟨8, 0, 0, [], [], []⟩ (tLeaf 0 0 [118]) (numAst b)) ⟨[], 0⟩ := by
  unfold numToks numAst
  by_cases hb : b < 0
  · rw [if_pos hb, if_pos hb]; kernel_rfl
  · rw [if_neg hb, if_neg hb]; kernel_rfl
theorem chk_5 (b : Int) : chkR (clsA (.bin ⟨8, 0, 0, [], [], []⟩ (tLeaf 0 0 [118]) (numAst b))) = none := by
  unfold numAst
  by_cases hb : b < 0
  · rw [if_pos hb]; rfl
  · rw [if_neg hb]; rfl
theorem readg_5 (b : Int) (hb : Rng b) (hmb : ¬ b = -9223372036854775808) : ∃ t, readR (BS ([118, 32, 61, 32] ++ (digZ b ++ []))) = .ok t ∧ erase t = .bin ⟨8, 0, 0, [], [], []⟩ (tLeaf 0 0 [118]) (numAst b) ∧ NumA t ∧ BndA t := by
  have lb := digZ_len hb
  exact read_of_tokens _ (by rw [BS_size]; simp; omega) _ (by rw [BS_data]; exact lx_text5 hb hmb) _ (parse_5 b) (chk_5 b)

set_option maxRecDepth 1000000 in
theorem parse_6 (a b : Int) : (tLvl 12).E ⟨⟨2, 0, [118]⟩ :: ⟨19, 0, []⟩ :: (numToks a ++ (⟨5, 0, []⟩ :: (numToks b ++ [⟨21, 0, []⟩, ⟨2, 0, [118]⟩]))), 0⟩ = .ok (.bin ⟨6, 0, 0, [], [], []⟩ (.bin ⟨11, 0, 0, [], [], []⟩ (tLeaf 0 0 [118]) (numAst a)) (.bin ⟨13, 0, 0, [], [], []⟩ (numAst b) (tLeaf 0 0 [118]))) ⟨[], 0⟩ := by
  unfold numToks numAst
  by_cases ha : a < 0 <;> by_cases hb : b < 0
  · rw [if_pos ha, if_pos ha, if_pos hb, if_pos hb]; kernel_rfl
  · rw [if_pos ha, if_pos ha, if_neg hb, if_neg hb]; kernel_rfl
  · rw [if_neg ha, if_neg ha, if_pos hb, if_pos hb]; kernel_rfl
  · rw [if_neg ha, if_neg ha, if_neg hb, if_neg hb]; kernel_rfl
theorem chk_6 (a b : Int) : chkR (clsA (.bin ⟨6, 0, 0, [], [], []⟩ (.bin ⟨11, 0, 0, [], [], []⟩ (tLeaf 0 0 [118]) (numAst a)) (.bin ⟨13, 0, 0, [], [], []⟩ (numAst b) (tLeaf 0 0 [118])))) = none := by
  unfold numAst
  by_cases ha : a < 0 <;> by_cases hb : b < 0
  · rw [if_pos ha, if_pos hb]; rfl
  · rw [if_pos ha, if_neg hb]; rfl
  · rw [if_neg ha, if_pos hb]; rfl
  · rw [if_neg ha, if_neg hb]; rfl
theorem readg_6 (a b : Int) (ha : Rng a) (hma : ¬ a = -9223372036854775808) (hb : Rng b) (hmb : ¬ b = -9223372036854775808) : ∃ t, readR (BS ([118, 32, 60, 61, 32] ++ (digZ a ++ ([32, 65, 78, 68, 32] ++ (digZ b ++ [32, 62, 61, 32, 118]))))) = .ok t ∧ erase t = .bin ⟨6, 0, 0, [], [], []⟩ (.bin ⟨11, 0, 0, [], [], []⟩ (tLeaf 0 0 [118]) (numAst a)) (.bin ⟨13, 0, 0, [], [], []⟩ (numAst b) (tLeaf 0 0 [118])) ∧ NumA t ∧ BndA t := by
  have la := digZ_len ha; have lb := digZ_len hb
  exact read_of_tokens _ (by rw [BS_size]; simp; omega) _ (by rw [BS_data]; exact lx_text6 ha hma hb hmb) _ (parse_6 a b) (chk_6 a b)

set_option maxRecDepth 1000000 in
theorem parse_7 (a b : Int) : (tLvl 12).E ⟨⟨2, 0, [119]⟩ :: ⟨10, 0, []⟩ :: (numToks a ++ (⟨5, 0, []⟩ :: (numToks b ++ []))), 0⟩ = .ok (.tri ⟨20, 0, 0, [], [], []⟩ (tLeaf 0 0 [119]) (numAst a) (numAst b)) ⟨[], 0⟩ := by
  unfold numToks numAst
  by_cases ha : a < 0 <;> by_cases hb : b < 0
  · rw [if_pos ha, if_pos ha, if_pos hb, if_pos hb]; kernel_rfl
  · rw [if_pos ha, if_pos ha, if_neg hb, if_neg hb]; kernel_rfl
  · rw [if_neg ha, if_neg ha, if_pos hb, if_pos hb]; kernel_rfl
  · rw [if_neg ha, if_neg ha, if_neg hb, if_neg hb]; kernel_rfl
theorem chk_7 (a b : Int) : chkR (clsA (.tri ⟨20, 0, 0, [], [], []⟩ (tLeaf 0 0 [119]) (numAst a) (numAst b))) = none := by
  unfold numAst
  by_cases ha : a < 0 <;> by_cases hb : b < 0
  · rw [if_pos ha, if_pos hb]; rfl
  · rw [if_pos ha, if_neg hb]; rfl
  · rw [if_neg ha, if_pos hb]; rfl
  · rw [if_neg ha, if_neg hb]; rfl
theorem readg_7 (a b : Int) (ha : Rng a) (hma : ¬ a = -9223372036854775808) (hb : Rng b) (hmb : ¬ b = -9223372036854775808) : ∃ t, readR (BS ([119, 32, 66, 69, 84, 87, 69, 69, 78, 32] ++ (digZ a ++ ([32, 65, 78, 68, 32] ++ (digZ b ++ []))))) = .ok t ∧ erase t = .tri ⟨20, 0, 0, [], [], []⟩ (tLeaf 0 0 [119]) (numAst a) (numAst b) ∧ NumA t ∧ BndA t := by
  have la := digZ_len ha; have lb := digZ_len hb
  exact read_of_tokens _ (by rw [BS_size]; simp; omega) _ (by rw [BS_data]; exact lx_text7 ha hma hb hmb) _ (parse_7 a b) (chk_7 a b)
end

section
/-- The event of Ranges. -/
def evv (x : Int) : List Pr := [⟨[118], iV x⟩]

theorem of_v (x : Int) : ofA (evv x) (tLeaf 0 0 [118]) = iV x := rfl
theorem of_w (x : Int) : ofA (evv x) (tLeaf 0 0 [119]) = nV := rfl
theorem of_num (x : Int) {a : Int} (ha : Rng a) : ofA (evv x) (numAst a) = iV a := by
  unfold Rng at ha
  unfold numAst
  by_cases h : a < 0
  · rw [if_pos h]
    show subV (iV 0) (iV (-a)) = iV a
    have h0 : (0 : Int) - -a = a := by omega
    have hs : subV (iV 0) (iV (-a)) = if fitB (0 - -a) then iV (0 - -a) else nV := rfl
    rw [hs, h0, if_pos (by simp [fitB]; omega)]
  · rw [if_neg h]; rfl

theorem less_ii (a b : Int) : lessV (iV a) (iV b) = bV (decide (a < b)) := rfl
theorem le_ii (a b : Int) : leV (iV a) (iV b) = bV (decide (a ≤ b)) := rfl
theorem eq_ii (a b : Int) : eqV (iV a) (iV b) = bV (decide (a = b)) := by
  have h : eqV (iV a) (iV b) = bV (decide (iV a = iV b)) := rfl
  rw [h]
  congr 1
  simp [iV]
theorem and_bb (p q : Bool) : andV (bV p) (bV q) = bV (p && q) := by cases p <;> cases q <;> rfl
theorem or_bb (p q : Bool) : orV (bV p) (bV q) = bV (p || q) := by cases p <;> cases q <;> rfl
theorem not_b (p : Bool) : notV (bV p) = bV (!p) := by cases p <;> rfl

theorem valg_1 (x a b : Int) (ha : Rng a) (hb : Rng b) : ofA (evv x) (.tri ⟨20, 0, 0, [], [], []⟩ (tLeaf 0 0 [118]) (numAst a) (numAst b)) = bV (decide (a ≤ x) && decide (x ≤ b)) := by
  show andV (leV (ofA (evv x) (numAst a)) (iV x)) (leV (iV x) (ofA (evv x) (numAst b))) = _
  rw [of_num x ha, of_num x hb, le_ii, le_ii, and_bb]
theorem valg_2 (x a b : Int) (ha : Rng a) (hb : Rng b) : ofA (evv x) (.un ⟨5, 0, 0, [], [], []⟩ (.tri ⟨20, 0, 0, [], [], []⟩ (tLeaf 0 0 [118]) (numAst a) (numAst b))) = bV (!(decide (a ≤ x) && decide (x ≤ b))) := by
  show notV (ofA (evv x) (.tri ⟨20, 0, 0, [], [], []⟩ (tLeaf 0 0 [118]) (numAst a) (numAst b))) = _
  rw [valg_1 x a b ha hb, not_b]
theorem valg_3 (x a b : Int) (ha : Rng a) (hb : Rng b) : ofA (evv x) (.bin ⟨7, 0, 0, [], [], []⟩ (.bin ⟨10, 0, 0, [], [], []⟩ (tLeaf 0 0 [118]) (numAst a)) (.bin ⟨12, 0, 0, [], [], []⟩ (tLeaf 0 0 [118]) (numAst b))) = bV (decide (x < a) || decide (b < x)) := by
  show orV (lessV (iV x) (ofA (evv x) (numAst a))) (lessV (ofA (evv x) (numAst b)) (iV x)) = _
  rw [of_num x ha, of_num x hb, less_ii, less_ii, or_bb]
theorem valg_4 (x a : Int) (ha : Rng a) : ofA (evv x) (.bin ⟨9, 0, 0, [], [], []⟩ (tLeaf 0 0 [118]) (numAst a)) = bV (!decide (x = a)) := by
  show notV (eqV (iV x) (ofA (evv x) (numAst a))) = _
  rw [of_num x ha, eq_ii, not_b]
theorem valg_5 (x b : Int) (hb : Rng b) : ofA (evv x) (.bin ⟨8, 0, 0, [], [], []⟩ (tLeaf 0 0 [118]) (numAst b)) = bV (decide (x = b)) := by
  show eqV (iV x) (ofA (evv x) (numAst b)) = _
  rw [of_num x hb, eq_ii]
theorem valg_6 (x a b : Int) (ha : Rng a) (hb : Rng b) : ofA (evv x) (.bin ⟨6, 0, 0, [], [], []⟩ (.bin ⟨11, 0, 0, [], [], []⟩ (tLeaf 0 0 [118]) (numAst a)) (.bin ⟨13, 0, 0, [], [], []⟩ (numAst b) (tLeaf 0 0 [118]))) = bV (decide (x ≤ a) && decide (x ≤ b)) := by
  show andV (leV (iV x) (ofA (evv x) (numAst a))) (leV (iV x) (ofA (evv x) (numAst b))) = _
  rw [of_num x ha, of_num x hb, le_ii, le_ii, and_bb]
theorem valg_7 (x a b : Int) (ha : Rng a) (hb : Rng b) : ofA (evv x) (.tri ⟨20, 0, 0, [], [], []⟩ (tLeaf 0 0 [119]) (numAst a) (numAst b)) = nV := by
  show andV (leV (ofA (evv x) (numAst a)) nV) (leV nV (ofA (evv x) (numAst b))) = _
  rw [of_num x ha, of_num x hb]
  rfl

/-- The world that holds the event of Ranges. -/
def eventedV (w : World) (x : Int) : World := w.alloc (.cells #[.string ⟨#[118]⟩, .int .i64 2, .int .i64 x, .string ⟨#[]⟩] 28)

theorem eventedV_at (w : World) (x : Int) : EvAt (eventedV w x) w.heap.size 0 (evv x) := by
  intro k p hk
  unfold eventedV
  match k, hk with
  | 0, hk =>
    obtain rfl : (⟨[118], iV x⟩ : Pr) = p := by simpa [evv] using hk
    refine ⟨?_, ?_, ?_, ?_⟩ <;> simp [iV, BS]
  | k + 1, hk => simp [evv] at hk

theorem evv_ok (x : Int) : evOk (evv x) = true := by kernel_rfl
theorem evv_short (x : Int) : Short (evv x) := by
  intro p hp
  simp [evv] at hp
  subst hp
  simp [iV]
theorem evv_rng {x : Int} (hx : Rng x) : EvRng (evv x) := by
  intro p hp
  simp [evv] at hp
  subst hp
  exact hx
theorem evv_sh (x : Int) : EvSh (evv x) := by
  intro p hp
  simp [evv] at hp
  subst hp
  exact sh_i _

/-- is, of a text that is read and of the event of Ranges, whatever came since. -/
theorem is_v (w : World) (hE : ErrOk w) (x : Int) (hx : Rng x) (s : ByteArray) (hs : s.size ≤ 140737488355328) (want : V) (hl : want.str.length ≤ 281474976710656) (u : Ast) (hrd : ∃ t, readR s = .ok t ∧ erase t = u ∧ NumA t ∧ BndA t) (hv : ofA (evv x) u = want)
    (w1 : World) (hb : Below (w.heap.size + 1) (eventedV w x) w1) :
    Calls Tryz.prog 17 #[.string s, .slice (some ⟨w.heap.size, 0, none⟩) 1 1, vV want] w1 fun e w' => e = .returned (.bool true) ∧ Below w1.heap.size w1 w' := by
  have hz : (eventedV w x).heap.size = w.heap.size + 1 := by simp [eventedV]
  have hz1 := hb.size
  have hE0 : ErrOk (eventedV w x) := hE.alloc _
  obtain ⟨t, hrt, het, hN, hB⟩ := hrd
  have hv' : ofA (evv x) t = want := by rw [← of_erase, het]; exact hv
  refine (is_any s (.slice (some ⟨w.heap.size, 0, none⟩) 1 1) want want ⟨_, _, _, rfl⟩ w1 (fun w2 hb2 hlt => ?_)).mono ?_
  · have hb3 : Below (w.heap.size + 1) (eventedV w x) w2 := hb.trans (hb2.mono (by omega))
    have := eval_ok s hs t hrt (evv x) w.heap.size 0 1 w2 (hE0.below hb3 (by omega)) (by simp [evv]) (by simp [evv]) (evv_short x) ((eventedV_at w x).belowB hb3 (by omega)) (by have := hb2.size; omega) (evv_ok x) (fun lo => of_every lo (evv x) _ (evv_rng hx) (evv_sh x) t hB hN) (by rw [hv']; exact hl)
    rw [hv'] at this
    exact this
  · rintro e w' ⟨rfl, h⟩
    exact ⟨by simp, h⟩
end

section
theorem add_run (s t : ByteArray) (m n : Nat) (hs : s.size ≤ m) (ht : t.size ≤ n) (h : m + n ≤ 1000) : ∃ r, r = s ++ t ∧ r.size ≤ m + n ∧ ∀ w : World, (Op.stringOp .add s t).run Tryz.prog w = .ok (.string r) w :=
  ⟨s ++ t, rfl, by rw [ByteArray.size_append]; omega, fun w => run_string_add_sum (P := Tryz.prog) (w := w) _ _ (by omega)⟩
end

section
theorem replaceK_dbl : ∀ s : List UInt8, Lib.replaceK [39] [39, 39] (Lib.count s [39]) s = dblL s := by
  intro s
  induction s with
  | nil => rfl
  | cons b l ih =>
    rw [dblL]
    by_cases hb : b = 39
    · subst hb
      rw [Lib.count_cons_eq, Nat.add_comm, Lib.replaceK_hit _ _ _ _ 0 (by rfl), if_pos (by rfl)]
      show [] ++ [39, 39] ++ Lib.replaceK [39] [39, 39] (Lib.count l [39]) l = _
      rw [ih]
      rfl
    · rw [Lib.count_cons_ne b 39 l hb, if_neg (by simpa using hb)]
      cases hc : Lib.count l [39] with
      | zero =>
        rw [hc] at ih
        show b :: l = b :: dblL l
        rw [← ih]
        rfl
      | succ k =>
        obtain ⟨i, hi⟩ := Lib.index_of_count (s := l) (old := [39]) (by rw [hc]; omega)
        have hi' : Lib.index (b :: l) [39] = ((i + 1 : Nat) : Int) := by
          rw [Lib.index]
          have h1 : ([39] : List UInt8).isPrefixOf (b :: l) = false := by
            show ((39 : UInt8) == b && true) = false
            rw [Bool.and_true]
            apply beq_eq_false_iff_ne.2
            intro e; exact hb e.symm
          rw [h1, if_neg (by decide), if_neg (by rw [hi]; intro e; have := eq_of_beq e; omega), hi]
          push_cast
          rfl
        rw [hc, Lib.replaceK_hit _ _ _ _ i hi] at ih
        rw [Lib.replaceK_hit _ _ _ _ (i + 1) hi', ← ih]
        rfl
theorem replaceAll_dbl (s : List UInt8) : Lib.replaceAll s [39] [39, 39] = dblL s := by
  unfold Lib.replaceAll Lib.replace
  rw [if_neg (by decide)]
  unfold Lib.replaceNum
  rw [if_pos (.inl (by decide))]
  exact replaceK_dbl s

/-- The sum of two strings. -/
theorem add_any (s t : ByteArray) (m n : Nat) (hs : s.size ≤ m) (ht : t.size ≤ n) (h : m + n ≤ 9000000000) : ∃ r, r = s ++ t ∧ r.size ≤ m + n ∧ ∀ w : World, (Op.stringOp .add s t).run Tryz.prog w = .ok (.string r) w :=
  ⟨s ++ t, rfl, by rw [ByteArray.size_append]; omega, fun w => run_string_add_sum (P := Tryz.prog) (w := w) _ _ (by omega)⟩

theorem qL_len (s : List UInt8) : (qL s).length ≤ 2 * s.length + 2 := by
  have := dblL_len s
  unfold qL
  simp
  omega

set_option maxHeartbeats 400000 in
theorem cquoted_any (s : List UInt8) (hs : s.length ≤ 1000000000) (w : World) (hL : LibOk w) :
    Calls Tryz.prog 210 #[.string (BS s)] w fun e w' => e = .returned (.string (BS (qL s))) ∧ Below w.heap.size w w' := by
  obtain ⟨_, m, hm⟩ := hL.max
  have hc := Lib.countB_le ⟨#[39]⟩ (by decide) _ (BS s) (Nat.le_refl _)
  rw [BS_size] at hc
  have hrep := Tryz.strings_ReplaceAll (BS s) ⟨#[39]⟩ ⟨#[39, 39]⟩ m w (by rw [BS_size]; omega) hm (by decide) (by rw [BS_size]; show _ + _ * 2 ≤ _; omega)
  rw [show Lib.replaceAll (BS s).data.toList (⟨#[39]⟩ : ByteArray).data.toList (⟨#[39, 39]⟩ : ByteArray).data.toList = dblL s from replaceAll_dbl s] at hrep
  have HREP : Hid (Calls Tryz.prog 255 #[.string (BS s), .string ⟨#[39]⟩, .string ⟨#[39, 39]⟩] w fun e w' => e = .returned (.string (BS (dblL s))) ∧ Below w.heap.size w w') := hide hrep
  have hd := dblL_len s
  obtain ⟨R1, e1, z1, a1⟩ := add_any ⟨#[39]⟩ (BS (dblL s)) 1 2000000000 (Nat.le_refl _) (by rw [BS_size]; omega) (by decide)
  obtain ⟨R2, e2, z2, a2⟩ := add_any R1 ⟨#[39]⟩ 2000000001 1 z1 (Nat.le_refl _) (by decide)
  have HR : Hid (R2 = BS (qL s)) := hide (by
    rw [e2, e1, show (⟨#[39]⟩ : ByteArray) = BS [39] from rfl, BS_add, BS_add]
    rfl)
  clear hrep hm hL hc hs hd e1 z1 e2 z2
  go_enter Tryz.func210, Tryz.ntmps210
  go_wp2_with (go_at_call 255; refine (unhide HREP).mono ?_; rintro e w1 ⟨rfl, hb1⟩)
  go_ret
  exact ⟨by rw [unhide HR]; rfl, hb1⟩

theorem signL_len (op : Int) : (signL op).length ≤ 3 := by
  unfold signL
  repeat' split
  all_goals decide

set_option maxHeartbeats 400000 in
theorem csign_any (op : Int) (w : World) :
    Calls Tryz.prog 212 #[.int .i64 op] w fun e w' => e = .returned (.string (BS (signL op))) ∧ w' = w := by
  go_enter Tryz.func212, Tryz.ntmps212
  go_wp2_with fail
  all_goals (go_ret; refine ⟨?_, rfl⟩; go_light; simp only [signL, *, if_true, Bool.false_eq_true, if_false]; rfl)

set_option maxHeartbeats 400000 in
theorem takesEither_any (op : Int) (w : World) :
    Calls Tryz.prog 164 #[.int .i64 op] w fun e w' => e = .returned (.bool (eitherB op)) ∧ w' = w := by
  go_enter Tryz.func164, Tryz.ntmps164
  go_wp2_with fail
  all_goals (go_ret; refine ⟨?_, rfl⟩; go_light; simp only [eitherB, *, Bool.or_true, Bool.true_or, Bool.or_false]; rfl)

set_option maxHeartbeats 400000 in
theorem spellEscape_any (b : Nat) (s : List UInt8) (hs : s.length ≤ 1000000000) (w : World) (hL : LibOk w) (hc : w.cell? ⟨b, 5, none⟩ = some (.string (BS s))) :
    Calls Tryz.prog 211 #[at0 b] w fun e w' => e = .returned (.string (BS (escT s))) ∧ Below w.heap.size w w' := by
  unfold at0 escT
  cases he : s.isEmpty with
  | true =>
    have h1 : (BS s).toList.isEmpty = true := by rw [BS_toList]; exact he
    rw [if_pos rfl]
    clear hL
    go_enter Tryz.func211, Tryz.ntmps211
    go_wp2_with fail
    go_ret
    exact ⟨rfl, Below.refl _ _⟩
  | false =>
    have h1 : (BS s).toList.isEmpty = false := by rw [BS_toList]; exact he
    rw [if_neg (by decide)]
    have HQ := hide (cquoted_any s hs w hL)
    have hq := qL_len s
    obtain ⟨R1, e1, z1, a1⟩ := add_any ⟨#[32, 69, 83, 67, 65, 80, 69, 32]⟩ (BS (qL s)) 8 2000000002 (Nat.le_refl _) (by rw [BS_size]; omega) (by decide)
    have HR : Hid (R1 = BS ([32, 69, 83, 67, 65, 80, 69, 32] ++ qL s)) := hide (by rw [e1, show (⟨#[32, 69, 83, 67, 65, 80, 69, 32]⟩ : ByteArray) = BS [32, 69, 83, 67, 65, 80, 69, 32] from rfl, BS_add])
    clear hL hs hq e1 z1 he
    go_enter Tryz.func211, Tryz.ntmps211
    go_wp2_with (go_at_call 210; refine (unhide HQ).mono ?_; rintro e w1 ⟨rfl, hb1⟩)
    go_ret
    exact ⟨by rw [unhide HR]; rfl, hb1⟩
end

end Go.Proofs.YtfkcaldjphakpaaGreatDoor
