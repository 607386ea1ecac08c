/- Patterns: plain; what cut is to answer. cut and Valid. Contracts of package value: sums, differences, products, quotients. Contracts of package events: has, Find. -/
import Derived.Test.YtfkcaldjphakpabGreatDoorYVal1
import Derived.Deep.QuietTactic
import Derived.BigQuiet
import Derived.Test.YtfkcaldjphakpabGreatDoorN03
namespace Go.Proofs.YtfkcaldjphakpabGreatDoor
open Go.RowKit

section
/-- A piece of a pattern: its kind, its byte. -/
structure Pc where
  kind : Int
  c : UInt8

def pcV (p : Pc) : Value := .agg #[.int .i64 p.kind, .int .u8 p.c.toNat]
def plainP (c : UInt8) : Pc := if ((c.toNat : Int) == 37) = true then ⟨2, 0⟩ else if ((c.toNat : Int) == 95) = true then ⟨1, 0⟩ else ⟨0, c⟩

set_option maxHeartbeats 400000 in
theorem plain_any (c : UInt8) (w : World) :
    Calls Tryz.prog 228 #[.int .u8 c.toNat] w fun e w' => e = .returned (pcV (plainP c)) ∧ Below w.heap.size w w' := by
  unfold plainP
  cases h1 : ((c.toNat : Int) == 37)
  · cases h2 : ((c.toNat : Int) == 95)
    · simp only [Bool.false_eq_true, if_false]
      go_enter Tryz.func228, Tryz.ntmps228
      go_wp2_with fail
      refine bodyPost_ret (by simp [results, Tryz.results228, go_sem]; rfl) rfl ⟨rfl, (Below.refl _ _).alloc (Nat.le_refl _) _⟩
    · simp only [Bool.false_eq_true, if_false, if_true]
      go_enter Tryz.func228, Tryz.ntmps228
      go_wp2_with fail
      refine bodyPost_ret (by simp [results, Tryz.results228, go_sem]; rfl) rfl ⟨rfl, (Below.refl _ _).alloc (Nat.le_refl _) _⟩
  · simp only [if_true]
    go_enter Tryz.func228, Tryz.ntmps228
    go_wp2_with fail
    refine bodyPost_ret (by simp [results, Tryz.results228, go_sem]; rfl) rfl ⟨rfl, (Below.refl _ _).alloc (Nat.le_refl _) _⟩

/-- The pieces of a pattern; none: an escape lacks the byte behind it. -/
def cutL (e : List UInt8) : List UInt8 → Option (List Pc)
  | [] => some []
  | [c] => if e.head? = some c then none else some [plainP c]
  | c :: d :: t => if e.head? = some c then (cutL e t).map (⟨0, d⟩ :: ·) else (cutL e (d :: t)).map (plainP c :: ·)

theorem cutL_plain {e p : List UInt8} {k : Nat} {c : UInt8} (h : p[k]? = some c) (hn : ¬ e.head? = some c) : cutL e (p.drop k) = (cutL e (p.drop (k + 1))).map (plainP c :: ·) := by
  obtain ⟨hk, he⟩ := List.getElem?_eq_some_iff.1 h
  rw [List.drop_eq_getElem_cons hk, he]
  cases hd : p.drop (k + 1) with
  | nil => show (if e.head? = some c then none else some [plainP c]) = _; rw [if_neg hn]; rfl
  | cons d t => rw [cutL, if_neg hn]

theorem cutL_esc {e p : List UInt8} {k : Nat} {c d : UInt8} (h : p[k]? = some c) (hn : e.head? = some c) (h2 : p[k + 1]? = some d) : cutL e (p.drop k) = (cutL e (p.drop (k + 2))).map (⟨0, d⟩ :: ·) := by
  obtain ⟨hk, he⟩ := List.getElem?_eq_some_iff.1 h
  obtain ⟨hk2, he2⟩ := List.getElem?_eq_some_iff.1 h2
  rw [List.drop_eq_getElem_cons hk, he, List.drop_eq_getElem_cons hk2, he2, cutL, if_pos hn]

theorem cutL_last {e p : List UInt8} {k : Nat} {c : UInt8} (h : p[k]? = some c) (hn : e.head? = some c) (h2 : p.length ≤ k + 1) : cutL e (p.drop k) = none := by
  obtain ⟨hk, he⟩ := List.getElem?_eq_some_iff.1 h
  rw [List.drop_eq_getElem_cons hk, he, List.drop_of_length_le h2, cutL, if_pos hn]

theorem cutL_end {e p : List UInt8} {k : Nat} (h : p.length ≤ k) : cutL e (p.drop k) = some [] := by
  rw [List.drop_of_length_le h, cutL]

/-- The pieces as cells. -/
def pcCells (ps : List Pc) : List Value := ps.flatMap fun p => [.int .i64 p.kind, .int .u8 p.c.toNat]
theorem pcCells_snoc (ps : List Pc) (p : Pc) : pcCells (ps ++ [p]) = pcCells ps ++ [.int .i64 p.kind, .int .u8 p.c.toNat] := by simp [pcCells]
end

section
theorem info_piece : (Tryz.prog.info? 257).map (fun i => (i.zero, i.size, i.bytes)) = some (some (.agg #[.int .i64 0, .int .u8 0]), 2, 16) := by kernel_rfl

/-- How cut ends. -/
def CutEnds (w : World) (r : Option (List Pc)) (e : Ending) (w' : World) : Prop :=
  Below w.heap.size w w' ∧ match r with
  | none => e = .returned (.tuple #[.slice none 0 0, .bool false])
  | some ps => ∃ v, e = .returned (.tuple #[v, .bool true]) ∧ w'.ownsRow w.heap.size 257 2 v ps.length (pcCells ps)

theorem ownsRow_below {base e size n B : Nat} {w w' : World} {v : Value} {xs : List Value} (h : w.ownsRow base e size v n xs) (hb : Below B w w') (hB : w.heap.size ≤ B) : w'.ownsRow base e size v n xs := by
  refine ⟨h.1, ?_⟩
  rcases h.2 with hn | ⟨g, cap, cur, rfl, hbg, hgg, rest⟩
  · exact .inl hn
  · refine .inr ⟨g, cap, cur, rfl, hbg, ?_, rest⟩
    rw [hb.block g (by have := (Array.getElem?_eq_some_iff.1 hgg).1; omega)]
    exact hgg

theorem ownBlock_ge {base e size n : Nat} {w : World} {v : Value} {xs : List Value} (h : w.ownsRow base e size v n xs) : ∀ k, v.ownBlock = some k → base ≤ k := fun k hk => (h.lt k hk).1

theorem Below.grown {B : Nat} {a w w' : World} {row : Option Nat} (h : Below B a w) (hg : w.grownBy w' row) (hB : B ≤ w.heap.size) (hrow : ∀ k, row = some k → B ≤ k) : Below B a w' :=
  ⟨hg.os.trans h.os, hg.tape.trans h.tape, hg.output.trans h.output, Nat.le_trans h.size hg.size, fun k hk => (hg.block k (by omega) (fun e => by have := hrow k e.symm; omega)).trans (h.block k hk)⟩

/-- What a round leaves. -/
theorem cut_more {w wr w1 w2 : World} {e : Nat} {v v' : Value} {ps : List Pc} {q : Pc} {o : Obj} (hown' : w2.ownsRow w.heap.size e 2 v' (ps.length + 1) (pcCells ps ++ [.int .i64 q.kind, .int .u8 q.c.toNat])) (hgrow : (w1.alloc o).grownBy w2 v.ownBlock)
    (hown1 : w1.ownsRow w.heap.size e 2 v ps.length (pcCells ps)) (hbel : Below w.heap.size w wr) (hb1 : Below wr.heap.size wr w1) :
    w2.ownsRow w.heap.size e 2 v' (ps ++ [q]).length (pcCells (ps ++ [q])) ∧ Below w.heap.size w w2 := by
  have h1 := hbel.size
  have h2 := hb1.size
  refine ⟨by rw [pcCells_snoc, List.length_append]; exact hown', ?_⟩
  exact Below.grown ((below_any hbel hb1).alloc (by omega) o) hgrow (by simp; omega) (ownBlock_ge hown1)

set_option maxHeartbeats 1000000 in
set_option maxRecDepth 100000 in
theorem cut_any (p e : ByteArray) (hp : p.size ≤ 200) (w : World) :
    Calls Tryz.prog 195 #[.string p, .string e] w (CutEnds w (cutL e.data.toList p.data.toList)) := by
  obtain ⟨R, hR⟩ : ∃ r, cutL e.data.toList p.data.toList = r := ⟨_, rfl⟩
  rw [hR]
  have HR := hide hR
  clear hR
  obtain ⟨i0, hi, hz0, hz1', hz2'⟩ := info_parts info_piece
  go_enter Tryz.func195, Tryz.ntmps195
  go_wp2_with fail
  go_loopw [6, 7] (fun v i wr => ∃ (k : Nat) (ps : List Pc), k ≤ p.size ∧ ps.length ≤ k ∧ i = .int .i64 k ∧ Hid (R = (cutL e.data.toList (p.data.toList.drop k)).map (ps ++ ·)) ∧ wr.ownsRow w.heap.size 257 2 v ps.length (pcCells ps) ∧ Below w.heap.size w wr) (fun _ i _ => p.size - (intOf i).toNat)
  case atStart => exact ⟨0, [], Nat.zero_le _, Nat.zero_le _, rfl, hide (by rw [List.drop_zero, unhide HR]; cases R <;> rfl), World.ownsRow_nil _ _ _ _, Below.refl _ _⟩
  case round =>
    obtain ⟨k, ps, hk, hpk, rfl, hh, hown, hbel⟩ := hrel
    have hbz := hbel.size
    by_cases hlt : k < p.size
    · have hpe : p.data.toList[k]? = some p[k] := by rw [List.getElem?_eq_getElem (by rw [data_len]; exact hlt), data_getElem p k hlt]
      have plainCase : ¬ e.data.toList.head? = some p[k] → Hid (R = (cutL e.data.toList (p.data.toList.drop (k + 1))).map ((ps ++ [plainP p[k]]) ++ ·)) := fun hn => hide (by rw [unhide hh, cutL_plain hpe hn]; cases cutL e.data.toList (p.data.toList.drop (k + 1)) <;> simp)
      by_cases he : 0 < e.size
      · have hne := toList_ne he
        have hhd : e.data.toList.head? = some e[0] := by
          have := List.getElem?_eq_getElem (l := e.data.toList) (i := 0) (by rw [data_len]; exact he)
          rw [data_getElem e 0 he] at this
          rw [List.head?_eq_getElem?]; exact this
        cases hx : (p[k] == e[0]) with
        | false =>
          have HT := plainCase (by rw [hhd]; intro h; injection h with h; rw [h] at hx; simp at hx)
          have hx' : ((p[k].toNat : Int) == (e[0].toNat : Int)) = false := by rw [u8_beq]; exact hx
          clear plainCase hh hpe hhd hx
          go_wp2_with fail
          go_quiet (fail)
          go_wp2_with (first | (go_at_call 228; refine (plain_any p[k] _).mono ?_; rintro en w1 ⟨rfl, hb1'⟩; have hb1 : Below wr.heap.size wr w1 := (below_drewN (Below.refl _ wr) _).trans hb1'; clear hb1'; have hz1 := hb1.size; have hown1 := ownsRow_below hown hb1 (Nat.le_refl _); simp only [pcV]) | (at_builtin; refine wpList_append_own _ rfl _ _ 251 rfl w.heap.size 257 i0 (.agg #[.int .i64 0, .int .u8 0]) 2 16 Tryz.underlying251 hi hz0 hz1' hz2' rfl (by decide) _ _ _ rfl (hown1.alloc _) ⟨w1.heap.size, 0, none⟩ 1 1 [.int .i64 (plainP p[k]).kind, .int .u8 (plainP p[k]).c.toNat] rfl rfl ?c1 ?c2 ?c3 ?c4 ?c5 ?_))
          case c1 =>
            intro j u hj
            match j, hj with
            | 0, hj => simp at hj; subst hj; simp [Addr.add]
            | 1, hj => simp at hj; subst hj; simp [Addr.add]
            | j + 2, hj => simp at hj
          case c2 => intro u hu; simp at hu; rcases hu with rfl | rfl <;> rfl
          case c3 => unfold maxLen; omega
          case c4 => omega
          case c5 => simp; omega
          · intro v' w2 hown' hgrow _
            have R := cut_more hown' hgrow hown1 hbel hb1
            clear hown' hgrow hown hown1
            go_wp2
            go_roundw
            case rel => exact ⟨k + 1, _, by omega, by simp; omega, by go_num, HT, R.1, R.2⟩
            case measure => simp [intOf]; omega
        | true =>
          have hxe : e.data.toList.head? = some p[k] := by rw [hhd, beq_iff_eq.1 hx]
          have hx' : ((p[k].toNat : Int) == (e[0].toNat : Int)) = true := by rw [u8_beq]; exact hx
          by_cases hl : k + 1 < p.size
          · have hpe2 : p.data.toList[k + 1]? = some p[k + 1] := by rw [List.getElem?_eq_getElem (by rw [data_len]; exact hl), data_getElem p (k + 1) hl]
            have HT : Hid (R = (cutL e.data.toList (p.data.toList.drop (k + 2))).map ((ps ++ [⟨0, p[k + 1]⟩]) ++ ·)) := hide (by rw [unhide hh, cutL_esc hpe hxe hpe2]; cases cutL e.data.toList (p.data.toList.drop (k + 2)) <;> simp)
            clear plainCase hh hpe hhd hx hpe2 hxe
            have hnl : (((k : Int) + 1) == (p.size : Int)) = false := beq_eq_false_iff_ne.2 (by omega)
            go_wp2_with fail
            go_quiet (fail)
            have hown1 := ownsRow_below hown (below_drewN (Below.refl _ wr) nq) (Nat.le_refl _)
            go_wp2_with (first | (at_builtin; refine wpList_append_own _ rfl _ _ 251 rfl w.heap.size 257 i0 (.agg #[.int .i64 0, .int .u8 0]) 2 16 Tryz.underlying251 hi hz0 hz1' hz2' rfl (by decide) _ _ _ rfl (hown1.alloc _) ⟨wr.heap.size, 0, none⟩ 1 1 [.int .i64 0, .int .u8 p[k + 1].toNat] rfl rfl ?c1 ?c2 ?c3 ?c4 ?c5 ?_))
            case c1 =>
              intro j u hj
              match j, hj with
              | 0, hj => simp at hj; subst hj; simp [Addr.add]; exact (World.cell?_alloc_at (w := wr.drewN nq) _ _ _ _ rfl).trans rfl
              | 1, hj => simp at hj; subst hj; simp [Addr.add]; exact (World.cell?_alloc_at (w := wr.drewN nq) _ _ _ _ rfl).trans rfl
              | j + 2, hj => simp at hj
            case c2 => intro u hu; simp at hu; rcases hu with rfl | rfl <;> rfl
            case c3 => unfold maxLen; omega
            case c4 => omega
            case c5 => simp; omega
            · intro v' w2 hown' hgrow _
              have R := cut_more (q := ⟨0, p[k + 1]⟩) hown' hgrow hown1 hbel (below_drewN (Below.refl _ wr) nq)
              clear hown' hgrow hown hown1
              go_wp2
              go_roundw
              case rel => exact ⟨k + 2, _, by omega, by simp; omega, by go_num, HT, R.1, R.2⟩
              case measure => simp [intOf]; omega
          · have HT : Hid (R = none) := hide (by rw [unhide hh, cutL_last hpe hxe (by rw [data_len]; omega)]; rfl)
            clear plainCase hh hpe hhd hx hxe
            have hnl : (((k : Int) + 1) == (p.size : Int)) = true := beq_iff_eq.2 (by omega)
            go_wp2_with fail
            go_quiet (fail)
            go_wp2_with fail
            go_ret2
            rw [unhide HT]
            exact ⟨below_drewN hbel _, rfl⟩
      · have hee : e = ⟨#[]⟩ := by cases e with | mk d => simp [ByteArray.size] at he; simp [he]
        subst hee
        have HT := plainCase (by simp)
        clear plainCase hh hpe he
        go_wp2_with fail
        go_quiet (fail)
        go_wp2_with (first | (go_at_call 228; refine (plain_any p[k] _).mono ?_; rintro en w1 ⟨rfl, hb1'⟩; have hb1 : Below wr.heap.size wr w1 := (below_drewN (Below.refl _ wr) _).trans hb1'; clear hb1'; have hz1 := hb1.size; have hown1 := ownsRow_below hown hb1 (Nat.le_refl _); simp only [pcV]) | (at_builtin; refine wpList_append_own _ rfl _ _ 251 rfl w.heap.size 257 i0 (.agg #[.int .i64 0, .int .u8 0]) 2 16 Tryz.underlying251 hi hz0 hz1' hz2' rfl (by decide) _ _ _ rfl (hown1.alloc _) ⟨w1.heap.size, 0, none⟩ 1 1 [.int .i64 (plainP p[k]).kind, .int .u8 (plainP p[k]).c.toNat] rfl rfl ?c1 ?c2 ?c3 ?c4 ?c5 ?_))
        case c1 =>
          intro j u hj
          match j, hj with
          | 0, hj => simp at hj; subst hj; simp [Addr.add]
          | 1, hj => simp at hj; subst hj; simp [Addr.add]
          | j + 2, hj => simp at hj
        case c2 => intro u hu; simp at hu; rcases hu with rfl | rfl <;> rfl
        case c3 => unfold maxLen; omega
        case c4 => omega
        case c5 => simp; omega
        · intro v' w2 hown' hgrow _
          have R := cut_more hown' hgrow hown1 hbel hb1
          clear hown' hgrow hown hown1
          go_wp2
          go_roundw
          case rel => exact ⟨k + 1, _, by omega, by simp; omega, by go_num, HT, R.1, R.2⟩
          case measure => simp [intOf]; omega
    · have HT : Hid (R = some ps) := hide (by rw [unhide hh, cutL_end (by rw [data_len]; omega)]; simp)
      clear hh
      go_wp2_with fail
      go_ret2
      rw [unhide HT]
      exact ⟨hbel, _, rfl, hown⟩

set_option maxHeartbeats 400000 in
theorem valid_any (p e : ByteArray) (hp : p.size ≤ 200) (w : World) :
    Calls Tryz.prog 318 #[.string p, .string e] w fun en w' => en = .returned (.bool (cutL e.data.toList p.data.toList).isSome) ∧ Below w.heap.size w w' := by
  cases hc : cutL e.data.toList p.data.toList with
  | none =>
    have HC := hide hc
    clear hc
    go_enter Tryz.func318, Tryz.ntmps318
    go_wp2_with (go_at_call 195; refine (cut_any p e hp _).mono ?_; rintro en w1 ⟨hb1, h1⟩; rw [unhide HC] at h1; subst h1)
    go_ret
    exact ⟨rfl, hb1⟩
  | some ps =>
    have HC := hide hc
    clear hc
    go_enter Tryz.func318, Tryz.ntmps318
    go_wp2_with (go_at_call 195; refine (cut_any p e hp _).mono ?_; rintro en w1 ⟨hb1, h1⟩; rw [unhide HC] at h1; obtain ⟨v, rfl, hown⟩ := h1; clear hown)
    go_ret
    exact ⟨rfl, hb1⟩
end

section
def fitB (n : Int) : Bool := decide (-9223372036854775808 ≤ n) && decide (n ≤ 9223372036854775807)
def Rng (n : Int) : Prop := -9223372036854775808 ≤ n ∧ n ≤ 9223372036854775807

def addV (x y : V) : V := if intsB x y && fitB (x.num + y.num) then iV (x.num + y.num) else nV
def subV (x y : V) : V := if intsB x y && fitB (x.num - y.num) then iV (x.num - y.num) else nV
def mulV (x y : V) : V := if intsB x y && fitB (x.num * y.num) then iV (x.num * y.num) else nV
def divV (x y : V) : V := if intsB x y && !(y.num == 0) && fitB (x.num.tdiv y.num) then iV (x.num.tdiv y.num) else nV
end

section
/-- A property: its name and its value. -/
structure Pr where
  name : List UInt8
  val : V

/-- The properties lie at a place. -/
def EvAt (w : World) (b off : Nat) (ps : List Pr) : Prop := ∀ (k : Nat) (p : Pr), ps[k]? = some p →
  w.cell? ⟨b, off + k * 4, none⟩ = some (.string (BS p.name)) ∧ w.cell? ⟨b, off + k * 4 + 1, none⟩ = some (.int .i64 p.val.kind) ∧
  w.cell? ⟨b, off + k * 4 + 2, none⟩ = some (.int .i64 p.val.num) ∧ w.cell? ⟨b, off + k * 4 + 3, none⟩ = some (.string (BS p.val.str))

theorem EvAt.below {w w' : World} {b off : Nat} {ps : List Pr} (h : EvAt w b off ps) (hb : Below w.heap.size w w') (hlt : b < w.heap.size) : EvAt w' b off ps := by
  intro k p hk
  obtain ⟨h1, h2, h3, h4⟩ := h k p hk
  exact ⟨(hb.cell hlt).trans h1, (hb.cell hlt).trans h2, (hb.cell hlt).trans h3, (hb.cell hlt).trans h4⟩

/-- What the property of a name is. -/
def findV (ps : List Pr) (n : List UInt8) : V := match ps.find? fun p => p.name == n with
  | some p => p.val
  | none => nV
end

end Go.Proofs.YtfkcaldjphakpabGreatDoor
