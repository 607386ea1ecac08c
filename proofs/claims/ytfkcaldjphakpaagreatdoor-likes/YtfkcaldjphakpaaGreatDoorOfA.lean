/- What a term is of an event. -/
import Derived.Test.YtfkcaldjphakpaaGreatDoorLvA
import Derived.Test.YtfkcaldjphakpaaGreatDoorJnA
import Derived.Test.YtfkcaldjphakpaaGreatDoorEvA
import Derived.Test.YtfkcaldjphakpaaGreatDoorClA
import Derived.Test.YtfkcaldjphakpaaGreatDoorPatA
namespace Go.Proofs.YtfkcaldjphakpaaGreatDoor
open Go.RowKit

/-- Which ends can be reached: of one piece. -/
def nextB (p : Pc) (t : List UInt8) (e : Nat → Bool) : Nat → Bool
  | 0 => p.kind == 2 && e 0
  | j + 1 => if p.kind == 2 then e (j + 1) || nextB p t e j else if p.kind == 1 then e j else e j && t.getD j 0 == p.c

def fitB' (ps : List Pc) (t : List UInt8) (e : Nat → Bool) : Bool := match ps with
  | [] => e t.length
  | p :: r => fitB' r t (nextB p t e)

def fitsB (pat esc t : List UInt8) : Bool := match cutL esc pat with
  | none => false
  | some ps => fitB' ps t fun j => j == 0

def likeV (x : V) (pat esc : List UInt8) : V := if x.kind == 3 then bV (fitsB pat esc x.str) else nV
def amongV (x : V) (ts : List (List UInt8)) : V := ts.foldl (fun f t => orV f (eqV x (tV t))) (bV false)

def joinN (p : Pay) (x y z : V) : V :=
  if p.op = 20 then andV (leV y x) (leV x z) else if p.op = 21 then amongV x p.texts else if p.op = 22 then likeV x p.str p.esc else joinV p.op x y

def ofN (ps : List Pr) (p : Pay) (s : List V) : V :=
  if p.op = 0 then findV ps p.str else if p.op = 1 then iV p.num else if p.op = 2 then tV p.str else if p.op = 3 then bV true else if p.op = 4 then bV false
  else joinN p (s.getD 0 nV) (s.getD 1 nV) (s.getD 2 nV)

def ofA (ps : List Pr) : Ast → V
  | .leaf p => ofN ps p []
  | .un p x => ofN ps p [ofA ps x]
  | .bin p x y => ofN ps p [ofA ps x, ofA ps y]
  | .tri p x y z => ofN ps p [ofA ps x, ofA ps y, ofA ps z]

theorem ofA_eq (ps : List Pr) (t : Ast) : ofA ps t = ofN ps (payA t) ((sidesA t).map (ofA ps)) := by cases t <;> rfl

/-- Values' numbers fit. -/
theorem rng_b (b : Bool) : Rng (bV b).num := by cases b <;> exact ⟨by decide, by decide⟩
theorem rng_n : Rng nV.num := ⟨by decide, by decide⟩
theorem rng_fit {n : Int} (h : fitB n = true) : Rng (iV n).num := by
  simp [fitB] at h; exact h
theorem rng_not (x : V) : Rng (notV x).num := by unfold notV; split; exact rng_b _; exact rng_n
theorem rng_and (x y : V) : Rng (andV x y).num := by unfold andV; split; exact rng_b _; split; exact rng_b _; exact rng_n
theorem rng_or (x y : V) : Rng (orV x y).num := by unfold orV; split; exact rng_b _; split; exact rng_b _; exact rng_n
theorem rng_eq (x y : V) : Rng (eqV x y).num := by unfold eqV; split; exact rng_n; exact rng_b _
theorem rng_less (x y : V) : Rng (lessV x y).num := by unfold lessV; split; exact rng_b _; exact rng_n
theorem rng_le (x y : V) : Rng (leV x y).num := by unfold leV; split; exact rng_b _; exact rng_n
theorem rng_add (x y : V) : Rng (addV x y).num := by
  unfold addV; split
  · rename_i h; simp only [Bool.and_eq_true] at h; exact rng_fit h.2
  · exact rng_n
theorem rng_sub (x y : V) : Rng (subV x y).num := by
  unfold subV; split
  · rename_i h; simp only [Bool.and_eq_true] at h; exact rng_fit h.2
  · exact rng_n
theorem rng_mul (x y : V) : Rng (mulV x y).num := by
  unfold mulV; split
  · rename_i h; simp only [Bool.and_eq_true] at h; exact rng_fit h.2
  · exact rng_n
theorem rng_div (x y : V) : Rng (divV x y).num := by
  unfold divV; split
  · rename_i h; simp only [Bool.and_eq_true] at h; exact rng_fit h.2
  · exact rng_n
theorem rng_ite {c : Prop} [Decidable c] {a b : V} (ha : Rng a.num) (hb : Rng b.num) : Rng (if c then a else b).num := by
  split
  · exact ha
  · exact hb
theorem rng_join (op : Int) (x y : V) : Rng (joinV op x y).num := by
  unfold joinV
  exact rng_ite (rng_not _) (rng_ite (rng_and _ _) (rng_ite (rng_or _ _) (rng_ite (rng_eq _ _) (rng_ite (rng_not _) (rng_ite (rng_less _ _) (rng_ite (rng_less _ _) (rng_ite (rng_le _ _) (rng_ite (rng_le _ _) (rng_ite (rng_add _ _) (rng_ite (rng_add _ _) (rng_ite (rng_sub _ _) (rng_ite (rng_sub _ _) (rng_ite (rng_mul _ _) (rng_ite (rng_div _ _) (rng_b _)))))))))))))))
theorem rng_among (x : V) (ts : List (List UInt8)) : ∀ f : V, Rng f.num → Rng (ts.foldl (fun f t => orV f (eqV x (tV t))) f).num := by
  induction ts with
  | nil => intro f h; exact h
  | cons t r ih => intro f _; exact ih _ (rng_or _ _)
theorem rng_joinN (p : Pay) (x y z : V) : Rng (joinN p x y z).num := by
  unfold joinN
  split
  · exact rng_and _ _
  split
  · exact rng_among x _ _ (rng_b _)
  split
  · unfold likeV; split; exact rng_b _; exact rng_n
  · exact rng_join _ _ _

def EvRng (ps : List Pr) : Prop := ∀ p ∈ ps, Rng p.val.num

theorem rng_find {ps : List Pr} (h : EvRng ps) (n : List UInt8) : Rng (findV ps n).num := by
  unfold findV
  split
  · rename_i p hp; exact h p (List.mem_of_find?_eq_some hp)
  · exact rng_n

theorem rng_of {ps : List Pr} (h : EvRng ps) {p : Pay} (hp : Rng p.num) (s : List V) : Rng (ofN ps p s).num := by
  unfold ofN
  split
  · exact rng_find h _
  split
  · exact hp
  split
  · exact rngZ
  split
  · exact rng_b _
  split
  · exact rng_b _
  · exact rng_joinN _ _ _ _

theorem rng_ofA {ps : List Pr} (h : EvRng ps) : ∀ t, NumA t → Rng (ofA ps t).num := by
  intro t
  cases t with
  | leaf p => intro hn; exact rng_of h hn _
  | un p x => intro hn; exact rng_of h hn.1 _
  | bin p x y => intro hn; exact rng_of h hn.1 _
  | tri p x y z => intro hn; exact rng_of h hn.1 _

/-- An event as an argument. -/
def EvArg (w : World) (ev : Value) (ps : List Pr) : Prop :=
  ps.length ≤ 8 ∧ ((ps = [] ∧ ∃ a cap, ev = .slice a 0 cap) ∨ ∃ b off cap, ev = .slice (some ⟨b, off, none⟩) ps.length cap ∧ EvAt w b off ps ∧ b < w.heap.size)

theorem EvArg.below {w w' : World} {ev : Value} {ps : List Pr} (h : EvArg w ev ps) (hb : Below w.heap.size w w') : EvArg w' ev ps := by
  refine ⟨h.1, ?_⟩
  rcases h.2 with h | ⟨b, off, cap, rfl, he, hlt⟩
  · exact .inl h
  · exact .inr ⟨b, off, cap, rfl, he.below hb hlt, Nat.lt_of_lt_of_le hlt hb.size⟩

theorem EvArg.slice {w : World} {ev : Value} {ps : List Pr} (h : EvArg w ev ps) : ∃ a n c, ev = .slice a n c := by
  rcases h.2 with ⟨_, a, cap, rfl⟩ | ⟨b, off, cap, rfl, _⟩
  · exact ⟨_, _, _, rfl⟩
  · exact ⟨_, _, _, rfl⟩

theorem find_arg {w : World} {ev : Value} {ps : List Pr} (h : EvArg w ev ps) (s : ByteArray) :
    Calls Tryz.prog 61 #[ev, .string s] w fun e w' => e = .returned (vV (findV ps s.data.toList)) ∧ Below w.heap.size w w' := by
  rcases h.2 with ⟨rfl, a, cap, rfl⟩ | ⟨b, off, cap, rfl, he, hlt⟩
  · exact find_empty a cap s w
  · exact find_any b off cap ps s w h.1 he hlt

end Go.Proofs.YtfkcaldjphakpaaGreatDoor
