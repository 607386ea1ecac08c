/- Patterns: plain; what cut is to answer. cut and Valid. Contracts of package value: sums, differences, products, quotients. Contracts of package value: Or. Contracts of package value: products and quotients. Contracts of package value: Multiply, Divide. Contracts of package events: has, Find. -/
import Derived.Test.YtfkcaldjphakpaaGreatDoorQVal1
import Derived.Deep.QuietTactic
import Derived.BigQuiet
import Derived.Test.YtfkcaldjphakpaaGreatDoorQVal2
import Derived.Deep.RegionWith
import Derived.Deep.DeepCutAuto
import Derived.Test.YtfkcaldjphakpaaGreatDoorQLex9
namespace Go.Proofs.YtfkcaldjphakpaaGreatDoor
open Go.RowKit

section
/-- A piece of a pattern: its kind, its byte. -/
structure Pc where
  kind : Int
  c : UInt8

def pcV (p : Pc) : Value := .agg #[.int .i64 p.kind, .int .u8 p.c.toNat]
def plainP (c : UInt8) : Pc := if ((c.toNat : Int) == 37) = true then ⟨2, 0⟩ else if ((c.toNat : Int) == 95) = true then ⟨1, 0⟩ else ⟨0, c⟩

set_option maxHeartbeats 400000 in
theorem plain_any (c : UInt8) (w : World) :
    Calls Tryz.prog 250 #[.int .u8 c.toNat] w fun e w' => e = .returned (pcV (plainP c)) ∧ Below w.heap.size w w' := by
  unfold plainP
  cases h1 : ((c.toNat : Int) == 37)
  · cases h2 : ((c.toNat : Int) == 95)
    · simp only [Bool.false_eq_true, if_false]
      go_enter Tryz.func250, Tryz.ntmps250
      go_wp2_with fail
      refine bodyPost_ret (by simp [results, Tryz.results250, go_sem]; rfl) rfl ⟨rfl, (Below.refl _ _).alloc (Nat.le_refl _) _⟩
    · simp only [Bool.false_eq_true, if_false, if_true]
      go_enter Tryz.func250, Tryz.ntmps250
      go_wp2_with fail
      refine bodyPost_ret (by simp [results, Tryz.results250, go_sem]; rfl) rfl ⟨rfl, (Below.refl _ _).alloc (Nat.le_refl _) _⟩
  · simp only [if_true]
    go_enter Tryz.func250, Tryz.ntmps250
    go_wp2_with fail
    refine bodyPost_ret (by simp [results, Tryz.results250, go_sem]; rfl) rfl ⟨rfl, (Below.refl _ _).alloc (Nat.le_refl _) _⟩

/-- The pieces of a pattern; none: an escape lacks the byte behind it. -/
def cutL (e : List UInt8) : List UInt8 → Option (List Pc)
  | [] => some []
  | [c] => if e.head? = some c then none else some [plainP c]
  | c :: d :: t => if e.head? = some c then (cutL e t).map (⟨0, d⟩ :: ·) else (cutL e (d :: t)).map (plainP c :: ·)

theorem cutL_plain {e p : List UInt8} {k : Nat} {c : UInt8} (h : p[k]? = some c) (hn : ¬ e.head? = some c) : cutL e (p.drop k) = (cutL e (p.drop (k + 1))).map (plainP c :: ·) := by
  obtain ⟨hk, he⟩ := List.getElem?_eq_some_iff.1 h
  rw [List.drop_eq_getElem_cons hk, he]
  cases hd : p.drop (k + 1) with
  | nil => show (if e.head? = some c then none else some [plainP c]) = _; rw [if_neg hn]; rfl
  | cons d t => rw [cutL, if_neg hn]

theorem cutL_esc {e p : List UInt8} {k : Nat} {c d : UInt8} (h : p[k]? = some c) (hn : e.head? = some c) (h2 : p[k + 1]? = some d) : cutL e (p.drop k) = (cutL e (p.drop (k + 2))).map (⟨0, d⟩ :: ·) := by
  obtain ⟨hk, he⟩ := List.getElem?_eq_some_iff.1 h
  obtain ⟨hk2, he2⟩ := List.getElem?_eq_some_iff.1 h2
  rw [List.drop_eq_getElem_cons hk, he, List.drop_eq_getElem_cons hk2, he2, cutL, if_pos hn]

theorem cutL_last {e p : List UInt8} {k : Nat} {c : UInt8} (h : p[k]? = some c) (hn : e.head? = some c) (h2 : p.length ≤ k + 1) : cutL e (p.drop k) = none := by
  obtain ⟨hk, he⟩ := List.getElem?_eq_some_iff.1 h
  rw [List.drop_eq_getElem_cons hk, he, List.drop_of_length_le h2, cutL, if_pos hn]

theorem cutL_end {e p : List UInt8} {k : Nat} (h : p.length ≤ k) : cutL e (p.drop k) = some [] := by
  rw [List.drop_of_length_le h, cutL]

/-- The pieces as cells. -/
def pcCells (ps : List Pc) : List Value := ps.flatMap fun p => [.int .i64 p.kind, .int .u8 p.c.toNat]
theorem pcCells_snoc (ps : List Pc) (p : Pc) : pcCells (ps ++ [p]) = pcCells ps ++ [.int .i64 p.kind, .int .u8 p.c.toNat] := by simp [pcCells]
end

section
theorem info_piece : (Tryz.prog.info? 262).map (fun i => (i.zero, i.size, i.bytes)) = some (some (.agg #[.int .i64 0, .int .u8 0]), 2, 16) := by kernel_rfl

/-- How cut ends. -/
def CutEnds (w : World) (r : Option (List Pc)) (e : Ending) (w' : World) : Prop :=
  Below w.heap.size w w' ∧ match r with
  | none => e = .returned (.tuple #[.slice none 0 0, .bool false])
  | some ps => ∃ v, e = .returned (.tuple #[v, .bool true]) ∧ w'.ownsRow w.heap.size 262 2 v ps.length (pcCells ps)

theorem ownsRow_below {base e size n B : Nat} {w w' : World} {v : Value} {xs : List Value} (h : w.ownsRow base e size v n xs) (hb : Below B w w') (hB : w.heap.size ≤ B) : w'.ownsRow base e size v n xs := by
  refine ⟨h.1, ?_⟩
  rcases h.2 with hn | ⟨g, cap, cur, rfl, hbg, hgg, rest⟩
  · exact .inl hn
  · refine .inr ⟨g, cap, cur, rfl, hbg, ?_, rest⟩
    rw [hb.block g (by have := (Array.getElem?_eq_some_iff.1 hgg).1; omega)]
    exact hgg

theorem ownBlock_ge {base e size n : Nat} {w : World} {v : Value} {xs : List Value} (h : w.ownsRow base e size v n xs) : ∀ k, v.ownBlock = some k → base ≤ k := fun k hk => (h.lt k hk).1

theorem Below.grown {B : Nat} {a w w' : World} {row : Option Nat} (h : Below B a w) (hg : w.grownBy w' row) (hB : B ≤ w.heap.size) (hrow : ∀ k, row = some k → B ≤ k) : Below B a w' :=
  ⟨hg.os.trans h.os, hg.tape.trans h.tape, hg.output.trans h.output, Nat.le_trans h.size hg.size, fun k hk => (hg.block k (by omega) (fun e => by have := hrow k e.symm; omega)).trans (h.block k hk)⟩

/-- What a round leaves. -/
theorem cut_more {w wr w1 w2 : World} {e : Nat} {v v' : Value} {ps : List Pc} {q : Pc} {o : Obj} (hown' : w2.ownsRow w.heap.size e 2 v' (ps.length + 1) (pcCells ps ++ [.int .i64 q.kind, .int .u8 q.c.toNat])) (hgrow : (w1.alloc o).grownBy w2 v.ownBlock)
    (hown1 : w1.ownsRow w.heap.size e 2 v ps.length (pcCells ps)) (hbel : Below w.heap.size w wr) (hb1 : Below wr.heap.size wr w1) :
    w2.ownsRow w.heap.size e 2 v' (ps ++ [q]).length (pcCells (ps ++ [q])) ∧ Below w.heap.size w w2 := by
  have h1 := hbel.size
  have h2 := hb1.size
  refine ⟨by rw [pcCells_snoc, List.length_append]; exact hown', ?_⟩
  exact Below.grown ((below_any hbel hb1).alloc (by omega) o) hgrow (by simp; omega) (ownBlock_ge hown1)

set_option maxHeartbeats 1000000 in
set_option maxRecDepth 100000 in
theorem cut_any (p e : ByteArray) (hp : p.size ≤ 200) (w : World) :
    Calls Tryz.prog 203 #[.string p, .string e] w (CutEnds w (cutL e.data.toList p.data.toList)) := by
  obtain ⟨R, hR⟩ : ∃ r, cutL e.data.toList p.data.toList = r := ⟨_, rfl⟩
  rw [hR]
  have HR := hide hR
  clear hR
  obtain ⟨i0, hi, hz0, hz1', hz2'⟩ := info_parts info_piece
  go_enter Tryz.func203, Tryz.ntmps203
  go_wp2_with fail
  go_loopw [6, 7] (fun v i wr => ∃ (k : Nat) (ps : List Pc), k ≤ p.size ∧ ps.length ≤ k ∧ i = .int .i64 k ∧ Hid (R = (cutL e.data.toList (p.data.toList.drop k)).map (ps ++ ·)) ∧ wr.ownsRow w.heap.size 262 2 v ps.length (pcCells ps) ∧ Below w.heap.size w wr) (fun _ i _ => p.size - (intOf i).toNat)
  case atStart => exact ⟨0, [], Nat.zero_le _, Nat.zero_le _, rfl, hide (by rw [List.drop_zero, unhide HR]; cases R <;> rfl), World.ownsRow_nil _ _ _ _, Below.refl _ _⟩
  case round =>
    obtain ⟨k, ps, hk, hpk, rfl, hh, hown, hbel⟩ := hrel
    have hbz := hbel.size
    by_cases hlt : k < p.size
    · have hpe : p.data.toList[k]? = some p[k] := by rw [List.getElem?_eq_getElem (by rw [data_len]; exact hlt), data_getElem p k hlt]
      have plainCase : ¬ e.data.toList.head? = some p[k] → Hid (R = (cutL e.data.toList (p.data.toList.drop (k + 1))).map ((ps ++ [plainP p[k]]) ++ ·)) := fun hn => hide (by rw [unhide hh, cutL_plain hpe hn]; cases cutL e.data.toList (p.data.toList.drop (k + 1)) <;> simp)
      by_cases he : 0 < e.size
      · have hne := toList_ne he
        have hhd : e.data.toList.head? = some e[0] := by
          have := List.getElem?_eq_getElem (l := e.data.toList) (i := 0) (by rw [data_len]; exact he)
          rw [data_getElem e 0 he] at this
          rw [List.head?_eq_getElem?]; exact this
        cases hx : (p[k] == e[0]) with
        | false =>
          have HT := plainCase (by rw [hhd]; intro h; injection h with h; rw [h] at hx; simp at hx)
          have hx' : ((p[k].toNat : Int) == (e[0].toNat : Int)) = false := by rw [u8_beq]; exact hx
          clear plainCase hh hpe hhd hx
          go_wp2_with fail
          go_quiet (fail)
          go_wp2_with (first | (go_at_call 250; refine (plain_any p[k] _).mono ?_; rintro en w1 ⟨rfl, hb1'⟩; have hb1 : Below wr.heap.size wr w1 := (below_drewN (Below.refl _ wr) _).trans hb1'; clear hb1'; have hz1 := hb1.size; have hown1 := ownsRow_below hown hb1 (Nat.le_refl _); simp only [pcV]) | (at_builtin; refine wpList_append_own _ rfl _ _ 256 rfl w.heap.size 262 i0 (.agg #[.int .i64 0, .int .u8 0]) 2 16 Tryz.underlying256 hi hz0 hz1' hz2' rfl (by decide) _ _ _ rfl (hown1.alloc _) ⟨w1.heap.size, 0, none⟩ 1 1 [.int .i64 (plainP p[k]).kind, .int .u8 (plainP p[k]).c.toNat] rfl rfl ?c1 ?c2 ?c3 ?c4 ?c5 ?_))
          case c1 =>
            intro j u hj
            match j, hj with
            | 0, hj => simp at hj; subst hj; simp [Addr.add]
            | 1, hj => simp at hj; subst hj; simp [Addr.add]
            | j + 2, hj => simp at hj
          case c2 => intro u hu; simp at hu; rcases hu with rfl | rfl <;> rfl
          case c3 => unfold maxLen; omega
          case c4 => omega
          case c5 => simp; omega
          · intro v' w2 hown' hgrow _
            have R := cut_more hown' hgrow hown1 hbel hb1
            clear hown' hgrow hown hown1
            go_wp2
            go_roundw
            case rel => exact ⟨k + 1, _, by omega, by simp; omega, by go_num, HT, R.1, R.2⟩
            case measure => simp [intOf]; omega
        | true =>
          have hxe : e.data.toList.head? = some p[k] := by rw [hhd, beq_iff_eq.1 hx]
          have hx' : ((p[k].toNat : Int) == (e[0].toNat : Int)) = true := by rw [u8_beq]; exact hx
          by_cases hl : k + 1 < p.size
          · have hpe2 : p.data.toList[k + 1]? = some p[k + 1] := by rw [List.getElem?_eq_getElem (by rw [data_len]; exact hl), data_getElem p (k + 1) hl]
            have HT : Hid (R = (cutL e.data.toList (p.data.toList.drop (k + 2))).map ((ps ++ [⟨0, p[k + 1]⟩]) ++ ·)) := hide (by rw [unhide hh, cutL_esc hpe hxe hpe2]; cases cutL e.data.toList (p.data.toList.drop (k + 2)) <;> simp)
            clear plainCase hh hpe hhd hx hpe2 hxe
            have hnl : (((k : Int) + 1) == (p.size : Int)) = false := beq_eq_false_iff_ne.2 (by omega)
            go_wp2_with fail
            go_quiet (fail)
            have hown1 := ownsRow_below hown (below_drewN (Below.refl _ wr) nq) (Nat.le_refl _)
            go_wp2_with (first | (at_builtin; refine wpList_append_own _ rfl _ _ 256 rfl w.heap.size 262 i0 (.agg #[.int .i64 0, .int .u8 0]) 2 16 Tryz.underlying256 hi hz0 hz1' hz2' rfl (by decide) _ _ _ rfl (hown1.alloc _) ⟨wr.heap.size, 0, none⟩ 1 1 [.int .i64 0, .int .u8 p[k + 1].toNat] rfl rfl ?c1 ?c2 ?c3 ?c4 ?c5 ?_))
            case c1 =>
              intro j u hj
              match j, hj with
              | 0, hj => simp at hj; subst hj; simp [Addr.add]; exact (World.cell?_alloc_at (w := wr.drewN nq) _ _ _ _ rfl).trans rfl
              | 1, hj => simp at hj; subst hj; simp [Addr.add]; exact (World.cell?_alloc_at (w := wr.drewN nq) _ _ _ _ rfl).trans rfl
              | j + 2, hj => simp at hj
            case c2 => intro u hu; simp at hu; rcases hu with rfl | rfl <;> rfl
            case c3 => unfold maxLen; omega
            case c4 => omega
            case c5 => simp; omega
            · intro v' w2 hown' hgrow _
              have R := cut_more (q := ⟨0, p[k + 1]⟩) hown' hgrow hown1 hbel (below_drewN (Below.refl _ wr) nq)
              clear hown' hgrow hown hown1
              go_wp2
              go_roundw
              case rel => exact ⟨k + 2, _, by omega, by simp; omega, by go_num, HT, R.1, R.2⟩
              case measure => simp [intOf]; omega
          · have HT : Hid (R = none) := hide (by rw [unhide hh, cutL_last hpe hxe (by rw [data_len]; omega)]; rfl)
            clear plainCase hh hpe hhd hx hxe
            have hnl : (((k : Int) + 1) == (p.size : Int)) = true := beq_iff_eq.2 (by omega)
            go_wp2_with fail
            go_quiet (fail)
            go_wp2_with fail
            go_ret2
            rw [unhide HT]
            exact ⟨below_drewN hbel _, rfl⟩
      · have hee : e = ⟨#[]⟩ := by cases e with | mk d => simp [ByteArray.size] at he; simp [he]
        subst hee
        have HT := plainCase (by simp)
        clear plainCase hh hpe he
        go_wp2_with fail
        go_quiet (fail)
        go_wp2_with (first | (go_at_call 250; refine (plain_any p[k] _).mono ?_; rintro en w1 ⟨rfl, hb1'⟩; have hb1 : Below wr.heap.size wr w1 := (below_drewN (Below.refl _ wr) _).trans hb1'; clear hb1'; have hz1 := hb1.size; have hown1 := ownsRow_below hown hb1 (Nat.le_refl _); simp only [pcV]) | (at_builtin; refine wpList_append_own _ rfl _ _ 256 rfl w.heap.size 262 i0 (.agg #[.int .i64 0, .int .u8 0]) 2 16 Tryz.underlying256 hi hz0 hz1' hz2' rfl (by decide) _ _ _ rfl (hown1.alloc _) ⟨w1.heap.size, 0, none⟩ 1 1 [.int .i64 (plainP p[k]).kind, .int .u8 (plainP p[k]).c.toNat] rfl rfl ?c1 ?c2 ?c3 ?c4 ?c5 ?_))
        case c1 =>
          intro j u hj
          match j, hj with
          | 0, hj => simp at hj; subst hj; simp [Addr.add]
          | 1, hj => simp at hj; subst hj; simp [Addr.add]
          | j + 2, hj => simp at hj
        case c2 => intro u hu; simp at hu; rcases hu with rfl | rfl <;> rfl
        case c3 => unfold maxLen; omega
        case c4 => omega
        case c5 => simp; omega
        · intro v' w2 hown' hgrow _
          have R := cut_more hown' hgrow hown1 hbel hb1
          clear hown' hgrow hown hown1
          go_wp2
          go_roundw
          case rel => exact ⟨k + 1, _, by omega, by simp; omega, by go_num, HT, R.1, R.2⟩
          case measure => simp [intOf]; omega
    · have HT : Hid (R = some ps) := hide (by rw [unhide hh, cutL_end (by rw [data_len]; omega)]; simp)
      clear hh
      go_wp2_with fail
      go_ret2
      rw [unhide HT]
      exact ⟨hbel, _, rfl, hown⟩

set_option maxHeartbeats 400000 in
theorem valid_any (p e : ByteArray) (hp : p.size ≤ 200) (w : World) :
    Calls Tryz.prog 332 #[.string p, .string e] w fun en w' => en = .returned (.bool (cutL e.data.toList p.data.toList).isSome) ∧ Below w.heap.size w w' := by
  cases hc : cutL e.data.toList p.data.toList with
  | none =>
    have HC := hide hc
    clear hc
    go_enter Tryz.func332, Tryz.ntmps332
    go_wp2_with (go_at_call 203; refine (cut_any p e hp _).mono ?_; rintro en w1 ⟨hb1, h1⟩; rw [unhide HC] at h1; subst h1)
    go_ret
    exact ⟨rfl, hb1⟩
  | some ps =>
    have HC := hide hc
    clear hc
    go_enter Tryz.func332, Tryz.ntmps332
    go_wp2_with (go_at_call 203; refine (cut_any p e hp _).mono ?_; rintro en w1 ⟨hb1, h1⟩; rw [unhide HC] at h1; obtain ⟨v, rfl, hown⟩ := h1; clear hown)
    go_ret
    exact ⟨rfl, hb1⟩
end

section
def fitB (n : Int) : Bool := decide (-9223372036854775808 ≤ n) && decide (n ≤ 9223372036854775807)
def Rng (n : Int) : Prop := -9223372036854775808 ≤ n ∧ n ≤ 9223372036854775807

def addV (x y : V) : V := if intsB x y && fitB (x.num + y.num) then iV (x.num + y.num) else nV
def subV (x y : V) : V := if intsB x y && fitB (x.num - y.num) then iV (x.num - y.num) else nV
def mulV (x y : V) : V := if intsB x y && fitB (x.num * y.num) then iV (x.num * y.num) else nV
def divV (x y : V) : V := if intsB x y && !(y.num == 0) && fitB (x.num.tdiv y.num) then iV (x.num.tdiv y.num) else nV

theorem wrap_fit {n : Int} (h : fitB n = true) : wrap64 n = n := by
  simp [fitB] at h; unfold wrap64; omega

theorem add_test {a b : Int} (ha : Rng a) (hb : Rng b) : ((decide (wrap64 (a + b) < a)) != (decide (b < 0))) = !fitB (a + b) := by
  unfold Rng at ha hb
  rw [Bool.eq_iff_iff]
  simp [fitB, wrap64]
  omega

theorem sub_test {a b : Int} (ha : Rng a) (hb : Rng b) : ((decide (a < wrap64 (a - b))) != (decide (b < 0))) = !fitB (a - b) := by
  unfold Rng at ha hb
  rw [Bool.eq_iff_iff]
  simp [fitB, wrap64]
  omega

set_option maxHeartbeats 400000 in
theorem vAdd_any (x y : V) (hx : Rng x.num) (hy : Rng y.num) (w : World) :
    Calls Tryz.prog 159 #[vV x, vV y] w fun e w' => e = .returned (vV (addV x y)) ∧ Below w.heap.size w w' := by
  have ht := add_test hx hy
  simp only [bne] at ht
  unfold addV
  cases hk : intsB x y with
  | true =>
    have HK := hide hk
    clear hk
    cases hf : fitB (x.num + y.num) with
    | true =>
      rw [hf] at ht
      simp only [Bool.not_true] at ht
      have HW := hide (wrap_fit hf)
      clear hf
      simp only [Bool.and_self, if_true]
      conv => arg 3; simp only [vV]
      go_enter Tryz.func159, Tryz.ntmps159
      go_wp2_with (first | (go_at_call 153; refine (bothInts_any x y _).mono ?_; rintro e w1 ⟨rfl, hb1⟩; rw [unhide HK]; obtain ⟨hc1, hf1⟩ := bcell hb1; have hz1 : w.heap.size + 2 < w1.heap.size := (by have := hb1.size; simp at this; omega)) | (go_at_call 62; rw [unhide HW]; refine (vInt_any _ _).mono ?_; rintro e w2 ⟨rfl, hb2⟩; obtain ⟨hc2, hf2⟩ := bcell hb2; simp only [vV]))
      refine bodyPost_ret (by simp [results, Tryz.results159, go_sem, hc2, hc1, hz1] <;> rfl) rfl ⟨rfl, ?_⟩
      exact ((((below_any (below_any (below3 _ _ _ _) hb1) hb2).setCell (by simp; omega) _).setCell (by simp; omega) _).setCell (by simp; omega) _)
    | false =>
      rw [hf] at ht
      simp only [Bool.not_false] at ht
      clear hf
      simp only [Bool.and_false, Bool.false_eq_true, if_false]
      conv => arg 3; simp only [vV]
      go_enter Tryz.func159, Tryz.ntmps159
      go_wp2_with (first | (go_at_call 153; refine (bothInts_any x y _).mono ?_; rintro e w1 ⟨rfl, hb1⟩; rw [unhide HK]; obtain ⟨hc1, hf1⟩ := bcell hb1; have hz1 : w.heap.size + 2 < w1.heap.size := (by have := hb1.size; simp at this; omega)) | (go_at_call 152; refine (vnull_any _).mono ?_; rintro e w2 ⟨rfl, hb2⟩; obtain ⟨hc2, hf2⟩ := bcell hb2; simp only [vV]))
      refine bodyPost_ret (by simp [results, Tryz.results159, go_sem, hc2, hc1, hz1] <;> rfl) rfl ⟨rfl, ?_⟩
      exact ((((below_any (below_any (below3 _ _ _ _) hb1) hb2).setCell (by simp; omega) _).setCell (by simp; omega) _).setCell (by simp; omega) _)
  | false =>
    have HK := hide hk
    clear hk ht
    simp only [Bool.false_and, Bool.false_eq_true, if_false]
    conv => arg 3; simp only [vV]
    go_enter Tryz.func159, Tryz.ntmps159
    go_wp2_with (first | (go_at_call 153; refine (bothInts_any x y _).mono ?_; rintro e w1 ⟨rfl, hb1⟩; rw [unhide HK]; obtain ⟨hc1, hf1⟩ := bcell hb1; have hz1 : w.heap.size + 2 < w1.heap.size := (by have := hb1.size; simp at this; omega)) | (go_at_call 152; refine (vnull_any _).mono ?_; rintro e w2 ⟨rfl, hb2⟩; obtain ⟨hc2, hf2⟩ := bcell hb2; simp only [vV]))
    refine bodyPost_ret (by simp [results, Tryz.results159, go_sem, hc2, hc1, hz1] <;> rfl) rfl ⟨rfl, ?_⟩
    exact ((((below_any (below_any (below3 _ _ _ _) hb1) hb2).setCell (by simp; omega) _).setCell (by simp; omega) _).setCell (by simp; omega) _)

set_option maxHeartbeats 400000 in
theorem vSubtract_any (x y : V) (hx : Rng x.num) (hy : Rng y.num) (w : World) :
    Calls Tryz.prog 160 #[vV x, vV y] w fun e w' => e = .returned (vV (subV x y)) ∧ Below w.heap.size w w' := by
  have ht := sub_test hx hy
  simp only [bne] at ht
  unfold subV
  cases hk : intsB x y with
  | true =>
    have HK := hide hk
    clear hk
    cases hf : fitB (x.num - y.num) with
    | true =>
      rw [hf] at ht
      simp only [Bool.not_true] at ht
      have HW := hide (wrap_fit hf)
      clear hf
      simp only [Bool.and_self, if_true]
      conv => arg 3; simp only [vV]
      go_enter Tryz.func160, Tryz.ntmps160
      go_wp2_with (first | (go_at_call 153; refine (bothInts_any x y _).mono ?_; rintro e w1 ⟨rfl, hb1⟩; rw [unhide HK]; obtain ⟨hc1, hf1⟩ := bcell hb1; have hz1 : w.heap.size + 2 < w1.heap.size := (by have := hb1.size; simp at this; omega)) | (go_at_call 62; rw [unhide HW]; refine (vInt_any _ _).mono ?_; rintro e w2 ⟨rfl, hb2⟩; obtain ⟨hc2, hf2⟩ := bcell hb2; simp only [vV]))
      refine bodyPost_ret (by simp [results, Tryz.results160, go_sem, hc2, hc1, hz1] <;> rfl) rfl ⟨rfl, ?_⟩
      exact ((((below_any (below_any (below3 _ _ _ _) hb1) hb2).setCell (by simp; omega) _).setCell (by simp; omega) _).setCell (by simp; omega) _)
    | false =>
      rw [hf] at ht
      simp only [Bool.not_false] at ht
      clear hf
      simp only [Bool.and_false, Bool.false_eq_true, if_false]
      conv => arg 3; simp only [vV]
      go_enter Tryz.func160, Tryz.ntmps160
      go_wp2_with (first | (go_at_call 153; refine (bothInts_any x y _).mono ?_; rintro e w1 ⟨rfl, hb1⟩; rw [unhide HK]; obtain ⟨hc1, hf1⟩ := bcell hb1; have hz1 : w.heap.size + 2 < w1.heap.size := (by have := hb1.size; simp at this; omega)) | (go_at_call 152; refine (vnull_any _).mono ?_; rintro e w2 ⟨rfl, hb2⟩; obtain ⟨hc2, hf2⟩ := bcell hb2; simp only [vV]))
      refine bodyPost_ret (by simp [results, Tryz.results160, go_sem, hc2, hc1, hz1] <;> rfl) rfl ⟨rfl, ?_⟩
      exact ((((below_any (below_any (below3 _ _ _ _) hb1) hb2).setCell (by simp; omega) _).setCell (by simp; omega) _).setCell (by simp; omega) _)
  | false =>
    have HK := hide hk
    clear hk ht
    simp only [Bool.false_and, Bool.false_eq_true, if_false]
    conv => arg 3; simp only [vV]
    go_enter Tryz.func160, Tryz.ntmps160
    go_wp2_with (first | (go_at_call 153; refine (bothInts_any x y _).mono ?_; rintro e w1 ⟨rfl, hb1⟩; rw [unhide HK]; obtain ⟨hc1, hf1⟩ := bcell hb1; have hz1 : w.heap.size + 2 < w1.heap.size := (by have := hb1.size; simp at this; omega)) | (go_at_call 152; refine (vnull_any _).mono ?_; rintro e w2 ⟨rfl, hb2⟩; obtain ⟨hc2, hf2⟩ := bcell hb2; simp only [vV]))
    refine bodyPost_ret (by simp [results, Tryz.results160, go_sem, hc2, hc1, hz1] <;> rfl) rfl ⟨rfl, ?_⟩
    exact ((((below_any (below_any (below3 _ _ _ _) hb1) hb2).setCell (by simp; omega) _).setCell (by simp; omega) _).setCell (by simp; omega) _)
end

section
def orV (x y : V) : V := if decide (x = bV true) || decide (y = bV true) then bV true else if decide (x = bV false) && decide (y = bV false) then bV false else nV

set_option maxHeartbeats 4000000 in
theorem vOr_any (x y : V) (w : World) :
    Calls Tryz.prog 154 #[vV x, vV y] w fun e w' => e = .returned (vV (orV x y)) ∧ Below w.heap.size w w' := by
  have ex := fun w => eql_v x (bV true) w
  have ey := fun w => eql_v y (bV true) w
  have fx := fun w => eql_v x (bV false) w
  have fy := fun w => eql_v y (bV false) w
  simp only [vV] at ex ey fx fy
  unfold orV
  generalize decide (x = bV true) = a at *
  generalize decide (y = bV true) = b at *
  generalize decide (x = bV false) = c at *
  generalize decide (y = bV false) = d at *
  cases a
  · cases b
    · cases c
      · simp only [Bool.false_and, Bool.false_or, Bool.false_eq_true, if_false]
        conv => arg 3; simp only [vV]
        go_enter Tryz.func154, Tryz.ntmps154
        go_wp2_with fail
        go_cut [5] (fun s5 wx => s5 = .bool false ∧ wx = ((((((w.alloc (Obj.cells #[.int .i64 x.kind, .int .i64 x.num, .string (BS x.str)] 26)).alloc (Obj.cells #[.int .i64 y.kind, .int .i64 y.num, .string (BS y.str)] 26)).alloc (Obj.cells #[.int .i64 0, .int .i64 0, .string ⟨#[]⟩] 26)).alloc (Obj.cells #[.int .i64 (bV true).kind, .int .i64 (bV true).num, .string (BS (bV true).str)] 26)).alloc (Obj.cells #[.int .i64 (bV true).kind, .int .i64 (bV true).num, .string (BS (bV true).str)] 26))).drew)
        case first => go_region_with (go_at_call 64; refine (vBool_eq _ _).mono ?_; rintro e w' ⟨rfl, rfl⟩; simp only [vV]); all_goals (go_wp2_with fail; go_meet; exact ⟨rfl, rfl⟩)
        case rest =>
          obtain ⟨rfl, rfl⟩ := hcut
          go_wp2_with fail
          go_cut [15] (fun s15 wx => s15 = .bool false ∧ wx = (((((((w.alloc (Obj.cells #[.int .i64 x.kind, .int .i64 x.num, .string (BS x.str)] 26)).alloc (Obj.cells #[.int .i64 y.kind, .int .i64 y.num, .string (BS y.str)] 26)).alloc (Obj.cells #[.int .i64 0, .int .i64 0, .string ⟨#[]⟩] 26)).alloc (Obj.cells #[.int .i64 (bV true).kind, .int .i64 (bV true).num, .string (BS (bV true).str)] 26)).alloc (Obj.cells #[.int .i64 (bV true).kind, .int .i64 (bV true).num, .string (BS (bV true).str)] 26)).alloc (Obj.cells #[.int .i64 (bV false).kind, .int .i64 (bV false).num, .string (BS (bV false).str)] 26))).drew.drew)
          case first => go_region_with (go_at_call 64; refine (vBool_eq _ _).mono ?_; rintro e w' ⟨rfl, rfl⟩; simp only [vV]); all_goals (go_wp2_with fail; go_meet; exact ⟨rfl, rfl⟩)
          case rest =>
            obtain ⟨rfl, rfl⟩ := hcut
            go_wp2_with (first | (go_at_call 64; refine (vBool_eq _ _).mono ?_; rintro e w' ⟨rfl, rfl⟩; simp only [vV]) | (go_at_call 152; refine (vnull_eq _).mono ?_; rintro e w' ⟨rfl, rfl⟩; simp only [vV]))
            refine bodyPost_ret (by simp [results, Tryz.results154, go_sem] <;> rfl) rfl ⟨rfl, ?_⟩
            repeat (first | exact Below.refl _ _ | apply Below.drew | apply below_alloc)
      · cases d
        · simp only [Bool.and_false, Bool.false_or, Bool.false_eq_true, if_false]
          conv => arg 3; simp only [vV]
          go_enter Tryz.func154, Tryz.ntmps154
          go_wp2_with fail
          go_cut [5] (fun s5 wx => s5 = .bool false ∧ wx = ((((((w.alloc (Obj.cells #[.int .i64 x.kind, .int .i64 x.num, .string (BS x.str)] 26)).alloc (Obj.cells #[.int .i64 y.kind, .int .i64 y.num, .string (BS y.str)] 26)).alloc (Obj.cells #[.int .i64 0, .int .i64 0, .string ⟨#[]⟩] 26)).alloc (Obj.cells #[.int .i64 (bV true).kind, .int .i64 (bV true).num, .string (BS (bV true).str)] 26)).alloc (Obj.cells #[.int .i64 (bV true).kind, .int .i64 (bV true).num, .string (BS (bV true).str)] 26))).drew)
          case first => go_region_with (go_at_call 64; refine (vBool_eq _ _).mono ?_; rintro e w' ⟨rfl, rfl⟩; simp only [vV]); all_goals (go_wp2_with fail; go_meet; exact ⟨rfl, rfl⟩)
          case rest =>
            obtain ⟨rfl, rfl⟩ := hcut
            go_wp2_with fail
            go_cut [15] (fun s15 wx => s15 = .bool false ∧ wx = ((((((((w.alloc (Obj.cells #[.int .i64 x.kind, .int .i64 x.num, .string (BS x.str)] 26)).alloc (Obj.cells #[.int .i64 y.kind, .int .i64 y.num, .string (BS y.str)] 26)).alloc (Obj.cells #[.int .i64 0, .int .i64 0, .string ⟨#[]⟩] 26)).alloc (Obj.cells #[.int .i64 (bV true).kind, .int .i64 (bV true).num, .string (BS (bV true).str)] 26)).alloc (Obj.cells #[.int .i64 (bV true).kind, .int .i64 (bV true).num, .string (BS (bV true).str)] 26)).alloc (Obj.cells #[.int .i64 (bV false).kind, .int .i64 (bV false).num, .string (BS (bV false).str)] 26)).alloc (Obj.cells #[.int .i64 (bV false).kind, .int .i64 (bV false).num, .string (BS (bV false).str)] 26))).drew.drew)
            case first => go_region_with (go_at_call 64; refine (vBool_eq _ _).mono ?_; rintro e w' ⟨rfl, rfl⟩; simp only [vV]); all_goals (go_wp2_with fail; go_meet; exact ⟨rfl, rfl⟩)
            case rest =>
              obtain ⟨rfl, rfl⟩ := hcut
              go_wp2_with (first | (go_at_call 64; refine (vBool_eq _ _).mono ?_; rintro e w' ⟨rfl, rfl⟩; simp only [vV]) | (go_at_call 152; refine (vnull_eq _).mono ?_; rintro e w' ⟨rfl, rfl⟩; simp only [vV]))
              refine bodyPost_ret (by simp [results, Tryz.results154, go_sem] <;> rfl) rfl ⟨rfl, ?_⟩
              repeat (first | exact Below.refl _ _ | apply Below.drew | apply below_alloc)
        · simp only [Bool.and_true, Bool.false_or, Bool.false_eq_true, if_false, if_true]
          conv => arg 3; simp only [vV]
          go_enter Tryz.func154, Tryz.ntmps154
          go_wp2_with fail
          go_cut [5] (fun s5 wx => s5 = .bool false ∧ wx = ((((((w.alloc (Obj.cells #[.int .i64 x.kind, .int .i64 x.num, .string (BS x.str)] 26)).alloc (Obj.cells #[.int .i64 y.kind, .int .i64 y.num, .string (BS y.str)] 26)).alloc (Obj.cells #[.int .i64 0, .int .i64 0, .string ⟨#[]⟩] 26)).alloc (Obj.cells #[.int .i64 (bV true).kind, .int .i64 (bV true).num, .string (BS (bV true).str)] 26)).alloc (Obj.cells #[.int .i64 (bV true).kind, .int .i64 (bV true).num, .string (BS (bV true).str)] 26))).drew)
          case first => go_region_with (go_at_call 64; refine (vBool_eq _ _).mono ?_; rintro e w' ⟨rfl, rfl⟩; simp only [vV]); all_goals (go_wp2_with fail; go_meet; exact ⟨rfl, rfl⟩)
          case rest =>
            obtain ⟨rfl, rfl⟩ := hcut
            go_wp2_with fail
            go_cut [15] (fun s15 wx => s15 = .bool true ∧ wx = ((((((((w.alloc (Obj.cells #[.int .i64 x.kind, .int .i64 x.num, .string (BS x.str)] 26)).alloc (Obj.cells #[.int .i64 y.kind, .int .i64 y.num, .string (BS y.str)] 26)).alloc (Obj.cells #[.int .i64 0, .int .i64 0, .string ⟨#[]⟩] 26)).alloc (Obj.cells #[.int .i64 (bV true).kind, .int .i64 (bV true).num, .string (BS (bV true).str)] 26)).alloc (Obj.cells #[.int .i64 (bV true).kind, .int .i64 (bV true).num, .string (BS (bV true).str)] 26)).alloc (Obj.cells #[.int .i64 (bV false).kind, .int .i64 (bV false).num, .string (BS (bV false).str)] 26)).alloc (Obj.cells #[.int .i64 (bV false).kind, .int .i64 (bV false).num, .string (BS (bV false).str)] 26))).drew.drew)
            case first => go_region_with (go_at_call 64; refine (vBool_eq _ _).mono ?_; rintro e w' ⟨rfl, rfl⟩; simp only [vV]); all_goals (go_wp2_with fail; go_meet; exact ⟨rfl, rfl⟩)
            case rest =>
              obtain ⟨rfl, rfl⟩ := hcut
              go_wp2_with (first | (go_at_call 64; refine (vBool_eq _ _).mono ?_; rintro e w' ⟨rfl, rfl⟩; simp only [vV]) | (go_at_call 152; refine (vnull_eq _).mono ?_; rintro e w' ⟨rfl, rfl⟩; simp only [vV]))
              refine bodyPost_ret (by simp [results, Tryz.results154, go_sem] <;> rfl) rfl ⟨rfl, ?_⟩
              repeat (first | exact Below.refl _ _ | apply Below.drew | apply below_alloc)
    · simp only [Bool.false_or, if_true]
      conv => arg 3; simp only [vV]
      go_enter Tryz.func154, Tryz.ntmps154
      go_wp2_with fail
      go_cut [5] (fun s5 wx => s5 = .bool true ∧ wx = ((((((w.alloc (Obj.cells #[.int .i64 x.kind, .int .i64 x.num, .string (BS x.str)] 26)).alloc (Obj.cells #[.int .i64 y.kind, .int .i64 y.num, .string (BS y.str)] 26)).alloc (Obj.cells #[.int .i64 0, .int .i64 0, .string ⟨#[]⟩] 26)).alloc (Obj.cells #[.int .i64 (bV true).kind, .int .i64 (bV true).num, .string (BS (bV true).str)] 26)).alloc (Obj.cells #[.int .i64 (bV true).kind, .int .i64 (bV true).num, .string (BS (bV true).str)] 26))).drew)
      case first => go_region_with (go_at_call 64; refine (vBool_eq _ _).mono ?_; rintro e w' ⟨rfl, rfl⟩; simp only [vV]); all_goals (go_wp2_with fail; go_meet; exact ⟨rfl, rfl⟩)
      case rest =>
        obtain ⟨rfl, rfl⟩ := hcut
        go_wp2_with (first | (go_at_call 64; refine (vBool_eq _ _).mono ?_; rintro e w' ⟨rfl, rfl⟩; simp only [vV]) | (go_at_call 152; refine (vnull_eq _).mono ?_; rintro e w' ⟨rfl, rfl⟩; simp only [vV]))
        refine bodyPost_ret (by simp [results, Tryz.results154, go_sem] <;> rfl) rfl ⟨rfl, ?_⟩
        repeat (first | exact Below.refl _ _ | apply Below.drew | apply below_alloc)
  · simp only [Bool.true_or, if_true]
    conv => arg 3; simp only [vV]
    go_enter Tryz.func154, Tryz.ntmps154
    go_wp2_with fail
    go_cut [5] (fun s5 wx => s5 = .bool true ∧ wx = (((((w.alloc (Obj.cells #[.int .i64 x.kind, .int .i64 x.num, .string (BS x.str)] 26)).alloc (Obj.cells #[.int .i64 y.kind, .int .i64 y.num, .string (BS y.str)] 26)).alloc (Obj.cells #[.int .i64 0, .int .i64 0, .string ⟨#[]⟩] 26)).alloc (Obj.cells #[.int .i64 (bV true).kind, .int .i64 (bV true).num, .string (BS (bV true).str)] 26))).drew)
    case first => go_region_with (go_at_call 64; refine (vBool_eq _ _).mono ?_; rintro e w' ⟨rfl, rfl⟩; simp only [vV]); all_goals (go_wp2_with fail; go_meet; exact ⟨rfl, rfl⟩)
    case rest =>
      obtain ⟨rfl, rfl⟩ := hcut
      go_wp2_with (first | (go_at_call 64; refine (vBool_eq _ _).mono ?_; rintro e w' ⟨rfl, rfl⟩; simp only [vV]) | (go_at_call 152; refine (vnull_eq _).mono ?_; rintro e w' ⟨rfl, rfl⟩; simp only [vV]))
      refine bodyPost_ret (by simp [results, Tryz.results154, go_sem] <;> rfl) rfl ⟨rfl, ?_⟩
      repeat (first | exact Below.refl _ _ | apply Below.drew | apply below_alloc)
end

section
theorem tdiv_parts (p b : Int) (hb : b ≠ 0) : ∃ r, p = b * p.tdiv b + r ∧ r.natAbs < b.natAbs := by
  refine ⟨p.tmod b, (Int.mul_tdiv_add_tmod p b).symm, ?_⟩
  rw [Int.natAbs_tmod]
  exact Nat.mod_lt _ (Int.natAbs_pos.2 hb)

theorem tdiv_bound (p b : Int) (hb1 : b ≠ -1) (hp : Rng p) : Rng (p.tdiv b) := by
  have h := Int.natAbs_tdiv_le_natAbs p b
  unfold Rng at hp ⊢
  by_cases hm : p = -9223372036854775808
  · by_cases h1 : b = 1
    · rw [h1, Int.tdiv_one]; exact hp
    · by_cases h0 : b = 0
      · rw [h0, Int.tdiv_zero]; omega
      · have h2 := Int.natAbs_tdiv p b
        have h3 : p.natAbs.div b.natAbs ≤ p.natAbs / 2 := Nat.div_le_div_left (by omega) (by omega)
        omega
  · omega

theorem wrap_rng {n : Int} (h : Rng n) : wrap64 n = n := by
  unfold Rng at h; unfold wrap64; omega
theorem rng_wrap (n : Int) : Rng (wrap64 n) := by
  unfold Rng wrap64; omega

theorem fitB_iff (n : Int) : fitB n = true ↔ Rng n := by simp [fitB, Rng]

theorem mul_test {a b : Int} (ha : Rng a) (hb : Rng b) (h0 : b ≠ 0) :
    ((a == -9223372036854775808 && b == -1) || !(wrap64 ((wrap64 (a * b)).tdiv b) == a)) = !fitB (a * b) := by
  cases hf : fitB (a * b) with
  | true =>
    have hr := (fitB_iff _).1 hf
    have e : wrap64 (a * b) = a * b := wrap_rng hr
    have e2 : (a * b).tdiv b = a := Int.mul_tdiv_cancel a h0
    rw [e, e2, wrap_rng ha]
    have : ¬ (a = -9223372036854775808 ∧ b = -1) := by
      rintro ⟨rfl, rfl⟩
      unfold Rng at hr; omega
    simp
    intro h1 h2
    exact this ⟨h1, h2⟩
  | false =>
    have hn : ¬ Rng (a * b) := fun h => by rw [(fitB_iff _).2 h] at hf; cases hf
    by_cases h1 : b = -1
    · have : a = -9223372036854775808 := by
        subst h1; unfold Rng at hn ha; omega
      simp [h1, this]
    · have hb1 := tdiv_bound (wrap64 (a * b)) b h1 (rng_wrap _)
      rw [wrap_rng hb1]
      obtain ⟨r, hr, hrb⟩ := tdiv_parts (wrap64 (a * b)) b h0
      have : ¬ (wrap64 (a * b)).tdiv b = a := by
        intro he
        rw [he, Int.mul_comm b a] at hr
        generalize a * b = m at *
        unfold Rng at *
        unfold wrap64 at hr
        omega
      simp [this]

theorem div_test {a b : Int} (ha : Rng a) : (a == -9223372036854775808 && b == -1) = !fitB (a.tdiv b) := by
  by_cases h1 : b = -1
  · subst h1
    have e : a.tdiv (-1) = -a := by rw [Int.tdiv_neg, Int.tdiv_one]
    rw [e, Bool.eq_iff_iff]; simp [fitB]; unfold Rng at ha; omega
  · have := (fitB_iff _).2 (tdiv_bound a b h1 ha)
    rw [this]; simp; intro _; exact h1
end

section
set_option maxHeartbeats 400000 in
theorem least_any (a b : Int) (w : World) :
    Calls Tryz.prog 205 #[.int .i64 a, .int .i64 b] w fun e w' => e = .returned (.bool (a == -9223372036854775808 && b == -1)) ∧ w' = w := by
  go_enter Tryz.func205, Tryz.ntmps205
  go_wp2_with fail
  all_goals (go_ret; exact ⟨ret_bool (by simp <;> omega), rfl⟩)

theorem least_val {a b : Int} {v : Bool} (h : (a == -9223372036854775808 && b == -1) = v) (w : World) :
    Calls Tryz.prog 205 #[.int .i64 a, .int .i64 b] w fun e w' => e = .returned (.bool v) ∧ w' = w := by
  rw [← h]; exact least_any a b w

set_option maxHeartbeats 400000 in
theorem vDivide_any (x y : V) (hx : Rng x.num) (w : World) :
    Calls Tryz.prog 162 #[vV x, vV y] w fun e w' => e = .returned (vV (divV x y)) ∧ Below w.heap.size w w' := by
  have ht := div_test (b := y.num) hx
  unfold divV
  cases hk : intsB x y with
  | true =>
    have HK := hide hk
    clear hk
    cases h0 : (y.num == 0) with
    | true =>
      clear ht
      simp only [Bool.not_true, Bool.and_false, Bool.false_and, Bool.false_eq_true, if_false]
      conv => arg 3; simp only [vV]
      go_enter Tryz.func162, Tryz.ntmps162
      go_wp2_with (first | (go_at_call 153; refine (bothInts_any x y _).mono ?_; rintro e w1 ⟨rfl, hb1⟩; rw [unhide HK]; obtain ⟨hc1, hf1⟩ := bcell hb1; have hz1 : w.heap.size + 2 < w1.heap.size := (by have := hb1.size; simp at this; omega)) | (go_at_call 152; refine (vnull_any _).mono ?_; rintro e w2 ⟨rfl, hb2⟩; obtain ⟨hc2, hf2⟩ := bcell hb2; simp only [vV]))
      refine bodyPost_ret (by simp [results, Tryz.results162, go_sem, hc2, hc1, hz1] <;> rfl) rfl ⟨rfl, ?_⟩
      exact ((((below_any (below_any (below3 _ _ _ _) hb1) hb2).setCell (by simp; omega) _).setCell (by simp; omega) _).setCell (by simp; omega) _)
    | false =>
      have hy0 : ¬ y.num = 0 := by simpa using h0
      cases hf : fitB (x.num.tdiv y.num) with
      | true =>
        rw [hf, Bool.not_true] at ht
        have HL := hide ht
        have HW := hide (wrap_fit hf)
        clear ht hf
        simp only [Bool.not_false, Bool.and_self, if_true]
        conv => arg 3; simp only [vV]
        go_enter Tryz.func162, Tryz.ntmps162
        go_wp2_with (first | (go_at_call 153; refine (bothInts_any x y _).mono ?_; rintro e w1 ⟨rfl, hb1⟩; rw [unhide HK]; obtain ⟨hc1, hf1⟩ := bcell hb1; have hz1 : w.heap.size + 2 < w1.heap.size := (by have := hb1.size; simp at this; omega)) | (go_at_call 205; refine (least_val (unhide HL) _).mono ?_; rintro e w3 ⟨rfl, rfl⟩) | (go_at_call 62; rw [unhide HW]; refine (vInt_any _ _).mono ?_; rintro e w2 ⟨rfl, hb2⟩; obtain ⟨hc2, hf2⟩ := bcell hb2; simp only [vV]))
        refine bodyPost_ret (by simp [results, Tryz.results162, go_sem, hc2, hc1, hz1] <;> rfl) rfl ⟨rfl, ?_⟩
        exact ((((below_any (below_any (below3 _ _ _ _) hb1) hb2).setCell (by simp; omega) _).setCell (by simp; omega) _).setCell (by simp; omega) _)
      | false =>
        rw [hf, Bool.not_false] at ht
        have HL := hide ht
        clear ht hf
        simp only [Bool.and_false, Bool.false_eq_true, if_false]
        conv => arg 3; simp only [vV]
        go_enter Tryz.func162, Tryz.ntmps162
        go_wp2_with (first | (go_at_call 153; refine (bothInts_any x y _).mono ?_; rintro e w1 ⟨rfl, hb1⟩; rw [unhide HK]; obtain ⟨hc1, hf1⟩ := bcell hb1; have hz1 : w.heap.size + 2 < w1.heap.size := (by have := hb1.size; simp at this; omega)) | (go_at_call 205; refine (least_val (unhide HL) _).mono ?_; rintro e w3 ⟨rfl, rfl⟩) | (go_at_call 152; refine (vnull_any _).mono ?_; rintro e w2 ⟨rfl, hb2⟩; obtain ⟨hc2, hf2⟩ := bcell hb2; simp only [vV]))
        refine bodyPost_ret (by simp [results, Tryz.results162, go_sem, hc2, hc1, hz1] <;> rfl) rfl ⟨rfl, ?_⟩
        exact ((((below_any (below_any (below3 _ _ _ _) hb1) hb2).setCell (by simp; omega) _).setCell (by simp; omega) _).setCell (by simp; omega) _)
  | false =>
    have HK := hide hk
    clear hk ht
    simp only [Bool.false_and, Bool.false_eq_true, if_false]
    conv => arg 3; simp only [vV]
    go_enter Tryz.func162, Tryz.ntmps162
    go_wp2_with (first | (go_at_call 153; refine (bothInts_any x y _).mono ?_; rintro e w1 ⟨rfl, hb1⟩; rw [unhide HK]; obtain ⟨hc1, hf1⟩ := bcell hb1; have hz1 : w.heap.size + 2 < w1.heap.size := (by have := hb1.size; simp at this; omega)) | (go_at_call 152; refine (vnull_any _).mono ?_; rintro e w2 ⟨rfl, hb2⟩; obtain ⟨hc2, hf2⟩ := bcell hb2; simp only [vV]))
    refine bodyPost_ret (by simp [results, Tryz.results162, go_sem, hc2, hc1, hz1] <;> rfl) rfl ⟨rfl, ?_⟩
    exact ((((below_any (below_any (below3 _ _ _ _) hb1) hb2).setCell (by simp; omega) _).setCell (by simp; omega) _).setCell (by simp; omega) _)

set_option maxHeartbeats 800000 in
theorem vMultiply_any (x y : V) (hx : Rng x.num) (hy : Rng y.num) (w : World) :
    Calls Tryz.prog 161 #[vV x, vV y] w fun e w' => e = .returned (vV (mulV x y)) ∧ Below w.heap.size w w' := by
  unfold mulV
  cases hk : intsB x y with
  | true =>
    have HK := hide hk
    clear hk
    cases h0 : (y.num == 0) with
    | true =>
      have hm : x.num * y.num = 0 := by have : y.num = 0 := by simpa using h0
                                        rw [this, Int.mul_zero]
      rw [hm]
      clear hm
      simp only [show fitB 0 = true from rfl, Bool.and_self, if_true]
      conv => arg 3; simp only [vV]
      go_enter Tryz.func161, Tryz.ntmps161
      go_wp2_with (first | (go_at_call 153; refine (bothInts_any x y _).mono ?_; rintro e w1 ⟨rfl, hb1⟩; rw [unhide HK]; obtain ⟨hc1, hf1⟩ := bcell hb1; have hz1 : w.heap.size + 2 < w1.heap.size := (by have := hb1.size; simp at this; omega)) | (go_at_call 62; refine (vInt_any _ _).mono ?_; rintro e w2 ⟨rfl, hb2⟩; obtain ⟨hc2, hf2⟩ := bcell hb2; simp only [vV]))
      refine bodyPost_ret (by simp [results, Tryz.results161, go_sem, hc2, hc1, hz1] <;> rfl) rfl ⟨rfl, ?_⟩
      exact ((((below_any (below_any (below3 _ _ _ _) hb1) hb2).setCell (by simp; omega) _).setCell (by simp; omega) _).setCell (by simp; omega) _)
    | false =>
      have hy0 : ¬ y.num = 0 := by simpa using h0
      have ht := mul_test hx hy hy0
      cases hL : (x.num == -9223372036854775808 && y.num == -1) with
      | true =>
        rw [hL, Bool.true_or] at ht
        have hf : fitB (x.num * y.num) = false := by simpa using ht.symm
        rw [hf]
        have HL := hide hL
        clear ht hf hL
        simp only [Bool.and_false, Bool.false_eq_true, if_false]
        conv => arg 3; simp only [vV]
        go_enter Tryz.func161, Tryz.ntmps161
        go_wp2_with (first | (go_at_call 153; refine (bothInts_any x y _).mono ?_; rintro e w1 ⟨rfl, hb1⟩; rw [unhide HK]; obtain ⟨hc1, hf1⟩ := bcell hb1; have hz1 : w.heap.size + 2 < w1.heap.size := (by have := hb1.size; simp at this; omega)))
        go_quiet ((go_at_call 205; exact Calls.quiet_of_same (least_val (unhide HL) _)))
        go_wp2_with (first | (go_at_call 152; refine (vnull_any _).mono ?_; rintro e w2 ⟨rfl, hb2'⟩; have hb2 : Below w1.heap.size w1 w2 := (below_drewN (Below.refl w1.heap.size w1) _).trans hb2'; clear hb2'; obtain ⟨hc2, hf2⟩ := bcell hb2; simp only [vV]))
        refine bodyPost_ret (by simp [results, Tryz.results161, go_sem, hc2, hc1, hz1] <;> rfl) rfl ⟨rfl, ?_⟩
        exact ((((below_any (below_any (below3 _ _ _ _) hb1) hb2).setCell (by simp; omega) _).setCell (by simp; omega) _).setCell (by simp; omega) _)
      | false =>
        rw [hL, Bool.false_or] at ht
        have HL := hide hL
        clear hL
        cases hf : fitB (x.num * y.num) with
        | true =>
          rw [hf, Bool.not_true] at ht
          have ht2 : (wrap64 ((wrap64 (x.num * y.num)).tdiv y.num) != x.num) = false := ht
          have HW := hide (wrap_fit hf)
          clear hf
          simp only [Bool.and_self, if_true]
          conv => arg 3; simp only [vV]
          go_enter Tryz.func161, Tryz.ntmps161
          go_wp2_with (first | (go_at_call 153; refine (bothInts_any x y _).mono ?_; rintro e w1 ⟨rfl, hb1⟩; rw [unhide HK]; obtain ⟨hc1, hf1⟩ := bcell hb1; have hz1 : w.heap.size + 2 < w1.heap.size := (by have := hb1.size; simp at this; omega)))
          go_quiet ((go_at_call 205; exact Calls.quiet_of_same (least_val (unhide HL) _)))
          go_wp2_with (first | (go_at_call 62; rw [unhide HW]; refine (vInt_any _ _).mono ?_; rintro e w2 ⟨rfl, hb2'⟩; have hb2 : Below w1.heap.size w1 w2 := (below_drewN (Below.refl w1.heap.size w1) _).trans hb2'; clear hb2'; obtain ⟨hc2, hf2⟩ := bcell hb2; simp only [vV]))
          refine bodyPost_ret (by simp [results, Tryz.results161, go_sem, hc2, hc1, hz1] <;> rfl) rfl ⟨rfl, ?_⟩
          exact ((((below_any (below_any (below3 _ _ _ _) hb1) hb2).setCell (by simp; omega) _).setCell (by simp; omega) _).setCell (by simp; omega) _)
        | false =>
          rw [hf, Bool.not_false] at ht
          have ht2 : (wrap64 ((wrap64 (x.num * y.num)).tdiv y.num) != x.num) = true := ht
          clear hf
          simp only [Bool.and_false, Bool.false_eq_true, if_false]
          conv => arg 3; simp only [vV]
          go_enter Tryz.func161, Tryz.ntmps161
          go_wp2_with (first | (go_at_call 153; refine (bothInts_any x y _).mono ?_; rintro e w1 ⟨rfl, hb1⟩; rw [unhide HK]; obtain ⟨hc1, hf1⟩ := bcell hb1; have hz1 : w.heap.size + 2 < w1.heap.size := (by have := hb1.size; simp at this; omega)))
          go_quiet ((go_at_call 205; exact Calls.quiet_of_same (least_val (unhide HL) _)))
          go_wp2_with (first | (go_at_call 152; refine (vnull_any _).mono ?_; rintro e w2 ⟨rfl, hb2'⟩; have hb2 : Below w1.heap.size w1 w2 := (below_drewN (Below.refl w1.heap.size w1) _).trans hb2'; clear hb2'; obtain ⟨hc2, hf2⟩ := bcell hb2; simp only [vV]))
          refine bodyPost_ret (by simp [results, Tryz.results161, go_sem, hc2, hc1, hz1] <;> rfl) rfl ⟨rfl, ?_⟩
          exact ((((below_any (below_any (below3 _ _ _ _) hb1) hb2).setCell (by simp; omega) _).setCell (by simp; omega) _).setCell (by simp; omega) _)
  | false =>
    have HK := hide hk
    clear hk
    simp only [Bool.false_and, Bool.false_eq_true, if_false]
    conv => arg 3; simp only [vV]
    go_enter Tryz.func161, Tryz.ntmps161
    go_wp2_with (first | (go_at_call 153; refine (bothInts_any x y _).mono ?_; rintro e w1 ⟨rfl, hb1⟩; rw [unhide HK]; obtain ⟨hc1, hf1⟩ := bcell hb1; have hz1 : w.heap.size + 2 < w1.heap.size := (by have := hb1.size; simp at this; omega)) | (go_at_call 152; refine (vnull_any _).mono ?_; rintro e w2 ⟨rfl, hb2⟩; obtain ⟨hc2, hf2⟩ := bcell hb2; simp only [vV]))
    refine bodyPost_ret (by simp [results, Tryz.results161, go_sem, hc2, hc1, hz1] <;> rfl) rfl ⟨rfl, ?_⟩
    exact ((((below_any (below_any (below3 _ _ _ _) hb1) hb2).setCell (by simp; omega) _).setCell (by simp; omega) _).setCell (by simp; omega) _)
end

section
/-- A property: its name and its value. -/
structure Pr where
  name : List UInt8
  val : V

/-- The properties lie at a place. -/
def EvAt (w : World) (b off : Nat) (ps : List Pr) : Prop := ∀ (k : Nat) (p : Pr), ps[k]? = some p →
  w.cell? ⟨b, off + k * 4, none⟩ = some (.string (BS p.name)) ∧ w.cell? ⟨b, off + k * 4 + 1, none⟩ = some (.int .i64 p.val.kind) ∧
  w.cell? ⟨b, off + k * 4 + 2, none⟩ = some (.int .i64 p.val.num) ∧ w.cell? ⟨b, off + k * 4 + 3, none⟩ = some (.string (BS p.val.str))

def hasB (ps : List Pr) (n : List UInt8) : Bool := ps.any fun p => p.name == n


theorem EvAt.below {w w' : World} {b off : Nat} {ps : List Pr} (h : EvAt w b off ps) (hb : Below w.heap.size w w') (hlt : b < w.heap.size) : EvAt w' b off ps := by
  intro k p hk
  obtain ⟨h1, h2, h3, h4⟩ := h k p hk
  exact ⟨(hb.cell hlt).trans h1, (hb.cell hlt).trans h2, (hb.cell hlt).trans h3, (hb.cell hlt).trans h4⟩

theorem any_drop {ps : List Pr} {n : List UInt8} {k : Nat} {p : Pr} (h : ps[k]? = some p) : hasB (ps.drop k) n = (p.name == n || hasB (ps.drop (k + 1)) n) := by
  obtain ⟨hk, he⟩ := List.getElem?_eq_some_iff.1 h
  unfold hasB
  rw [List.drop_eq_getElem_cons hk, List.any_cons, he]

set_option maxHeartbeats 400000 in
theorem has_any (b off cap : Nat) (ps : List Pr) (s : ByteArray) (w : World) (hps : ps.length ≤ 8) (hw : EvAt w b off ps) (hlt : b < w.heap.size) :
    Calls Tryz.prog 60 #[.slice (some ⟨b, off, none⟩) ps.length cap, .string s] w fun e w' => e = .returned (.bool (hasB ps s.data.toList)) ∧ Below w.heap.size w w' := by
  go_enter Tryz.func60, Tryz.ntmps60
  go_wp2_with fail
  go_loopw [6, 9] (fun _ i wr => ∃ k : Nat, k ≤ ps.length ∧ i = .int .i64 k ∧ Hid (hasB ps s.data.toList = hasB (ps.drop k) s.data.toList) ∧ Below w.heap.size w wr) (fun _ i _ => ps.length - (intOf i).toNat)
  case atStart => exact ⟨0, Nat.zero_le _, rfl, hide (by rw [List.drop_zero]), Below.refl _ _⟩
  case round =>
    obtain ⟨k, hk, rfl, hh, hb⟩ := hrel
    by_cases hlt2 : k < ps.length
    · obtain ⟨p, hp⟩ : ∃ p, ps[k]? = some p := ⟨_, List.getElem?_eq_getElem hlt2⟩
      obtain ⟨h1, h2, h3, h4⟩ := (hw.below hb hlt) k p hp
      have hA := any_drop (n := s.data.toList) hp
      have hst : ((BS p.name).toList == s.toList) = (p.name == s.data.toList) := by rw [BS_toList, Lib.toList_data]
      cases he : (p.name == s.data.toList) with
      | true =>
        rw [he, Bool.true_or] at hA
        rw [he] at hst
        have HT : Hid (hasB ps s.data.toList = true) := hide (by rw [unhide hh, hA])
        clear hA hp he hh
        go_wp2_with fail
        go_ret
        exact ⟨ret_bool (by rw [unhide HT]), below_alloc hb _⟩
      | false =>
        rw [he, Bool.false_or] at hA
        rw [he] at hst
        have HT : Hid (hasB ps s.data.toList = hasB (ps.drop (k + 1)) s.data.toList) := hide (by rw [unhide hh, hA])
        clear hA hp he hh
        go_wp2_with fail
        exact ⟨⟨k + 1, by omega, by go_num, HT, below_alloc hb _⟩, by simp [intOf]; omega⟩
    · have HT : Hid (hasB ps s.data.toList = false) := hide (by rw [unhide hh, List.drop_of_length_le (by omega)]; rfl)
      clear hh
      go_wp2_with fail
      go_ret
      exact ⟨ret_bool (by rw [unhide HT]), hb⟩

/-- What the property of a name is. -/
def findV (ps : List Pr) (n : List UInt8) : V := match ps.find? fun p => p.name == n with
  | some p => p.val
  | none => nV

theorem find_drop {ps : List Pr} {n : List UInt8} {k : Nat} {p : Pr} (h : ps[k]? = some p) : findV (ps.drop k) n = if p.name == n then p.val else findV (ps.drop (k + 1)) n := by
  obtain ⟨hk, he⟩ := List.getElem?_eq_some_iff.1 h
  unfold findV
  rw [List.drop_eq_getElem_cons hk, he, List.find?_cons]
  cases p.name == n <;> rfl

set_option maxHeartbeats 400000 in
theorem find_any (b off cap : Nat) (ps : List Pr) (s : ByteArray) (w : World) (hps : ps.length ≤ 8) (hw : EvAt w b off ps) (hlt : b < w.heap.size) :
    Calls Tryz.prog 61 #[.slice (some ⟨b, off, none⟩) ps.length cap, .string s] w fun e w' => e = .returned (vV (findV ps s.data.toList)) ∧ Below w.heap.size w w' := by
  obtain ⟨F, hF⟩ : ∃ f, findV ps s.data.toList = f := ⟨_, rfl⟩
  rw [hF]
  have HF := hide hF
  clear hF
  go_enter Tryz.func61, Tryz.ntmps61
  go_wp2_with fail
  go_loopw [6, 9] (fun _ i wr => ∃ k : Nat, k ≤ ps.length ∧ i = .int .i64 k ∧ Hid (F = findV (ps.drop k) s.data.toList) ∧ Below (w.heap.size + 1) (w.alloc (.cells #[.int .i64 0, .int .i64 0, .string ⟨#[]⟩] 26)) wr) (fun _ i _ => ps.length - (intOf i).toNat)
  case atStart => exact ⟨0, Nat.zero_le _, rfl, hide (by rw [List.drop_zero, unhide HF]), Below.refl _ _⟩
  case round =>
    obtain ⟨k, hk, rfl, hh, hb⟩ := hrel
    have hb' : Below (w.alloc (.cells #[.int .i64 0, .int .i64 0, .string ⟨#[]⟩] 26)).heap.size (w.alloc (.cells #[.int .i64 0, .int .i64 0, .string ⟨#[]⟩] 26)) wr := by simpa using hb
    have hbw := below_step hb'
    obtain ⟨hc0, hf0⟩ := bcell hb'
    have hz0 : w.heap.size < wr.heap.size := by have := hb'.size; simp at this; omega
    by_cases hlt2 : k < ps.length
    · obtain ⟨p, hp⟩ : ∃ p, ps[k]? = some p := ⟨_, List.getElem?_eq_getElem hlt2⟩
      obtain ⟨h1, h2, h3, h4⟩ := hw k p hp
      have hA := find_drop (n := s.data.toList) hp
      have hst : ((BS p.name).toList == s.toList) = (p.name == s.data.toList) := by rw [BS_toList, Lib.toList_data]
      cases he : (p.name == s.data.toList) with
      | true =>
        rw [he, if_pos rfl] at hA
        rw [he] at hst
        have HT : Hid (F = p.val) := hide (by rw [unhide hh, hA])
        clear hA hp he hh
        go_wp2_with fail
        refine bodyPost_ret (by simp [results, Tryz.results61, go_sem, hc0, hz0] <;> rfl) rfl ⟨?_, ?_⟩
        · rw [unhide HT]; rfl
        · exact below_alloc (((hbw.setCell (by simp) _).setCell (by simp) _).setCell (by simp) _) _
      | false =>
        rw [he, if_neg (by simp)] at hA
        rw [he] at hst
        have HT : Hid (F = findV (ps.drop (k + 1)) s.data.toList) := hide (by rw [unhide hh, hA])
        clear hA hp he hh
        go_wp2_with fail
        exact ⟨⟨k + 1, by omega, by go_num, HT, hb.alloc (by omega) _⟩, by simp [intOf]; omega⟩
    · have HT : Hid (F = nV) := hide (by rw [unhide hh, List.drop_of_length_le (by omega)]; rfl)
      clear hh
      go_wp2_with fail
      refine bodyPost_ret (by simp [results, Tryz.results61, go_sem, hc0] <;> rfl) rfl ⟨?_, ?_⟩
      · rw [unhide HT]; rfl
      · exact ((hbw.setCell (by simp) _).setCell (by simp) _).setCell (by simp) _

/-- No property at all, nil too. -/
theorem find_empty (a : Option Addr) (cap : Nat) (s : ByteArray) (w : World) :
    Calls Tryz.prog 61 #[.slice a 0 cap, .string s] w fun e w' => e = .returned (vV nV) ∧ Below w.heap.size w w' := by
  go_enter Tryz.func61, Tryz.ntmps61
  go_wp2_with fail
  refine wp_loop_rounds 1 ?_
  rw [rounds_succ]
  go_wp2_with fail
  refine bodyPost_ret (by simp [results, Tryz.results61, go_sem] <;> rfl) rfl ⟨rfl, (Below.refl _ _).alloc (Nat.le_refl _) _⟩

def nameOk (n : List UInt8) : Bool := decide (n.length ≤ 16) && nameB n
def valOk (v : V) : Bool :=
  if v.kind == 0 then v.num == 0 && v.str.isEmpty
  else if v.kind == 1 then (v.num == 0 || v.num == 1) && v.str.isEmpty
  else if v.kind == 2 then v.str.isEmpty
  else if v.kind == 3 then v.num == 0 && decide (v.str.length ≤ 20)
  else false
end

end Go.Proofs.YtfkcaldjphakpaaGreatDoor
