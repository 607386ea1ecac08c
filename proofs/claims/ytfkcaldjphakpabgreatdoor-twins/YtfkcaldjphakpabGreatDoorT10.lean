/- Patterns: plain; what cut is to answer. cut and Valid. Contracts of package value: And. Contracts of package value: Or. Contracts of package events: has, Find. -/
import Derived.Test.YtfkcaldjphakpabGreatDoorYVal1
import Derived.Deep.QuietTactic
import Derived.BigQuiet
import Derived.Deep.RegionWith
import Derived.Deep.DeepCutAuto
import Derived.Test.YtfkcaldjphakpabGreatDoorT02
namespace Go.Proofs.YtfkcaldjphakpabGreatDoor
open Go.RowKit
section
structure Pc where
  kind : Int
  c : UInt8
def pcV (p : Pc) : Value := .agg #[.int .i64 p.kind, .int .u8 p.c.toNat]
def qw3 (c : UInt8) : Pc := if ((c.toNat : Int) == 37) = true then ⟨2, 0⟩ else if ((c.toNat : Int) == 95) = true then ⟨1, 0⟩ else ⟨0, c⟩
set_option maxHeartbeats 400000 in
theorem ja0 (c : UInt8) (w : World) :
    Calls Tryz.prog 228 #[.int .u8 c.toNat] w fun e w' => e = .returned (pcV (qw3 c)) ∧ Below w.heap.size w w' := by
  unfold qw3
  cases h1 : ((c.toNat : Int) == 37)
  · cases h2 : ((c.toNat : Int) == 95)
    · simp only [Bool.false_eq_true, if_false]
      go_enter Tryz.func228, Tryz.ntmps228
      go_wp2_with fail
      refine bodyPost_ret (by simp [results, Tryz.results228, go_sem]; rfl) rfl ⟨rfl, (Below.refl _ _).alloc (Nat.le_refl _) _⟩
    · simp only [Bool.false_eq_true, if_false, if_true]
      go_enter Tryz.func228, Tryz.ntmps228
      go_wp2_with fail
      refine bodyPost_ret (by simp [results, Tryz.results228, go_sem]; rfl) rfl ⟨rfl, (Below.refl _ _).alloc (Nat.le_refl _) _⟩
  · simp only [if_true]
    go_enter Tryz.func228, Tryz.ntmps228
    go_wp2_with fail
    refine bodyPost_ret (by simp [results, Tryz.results228, go_sem]; rfl) rfl ⟨rfl, (Below.refl _ _).alloc (Nat.le_refl _) _⟩
def qv4 (e : List UInt8) : List UInt8 → Option (List Pc)
  | [] => some []
  | [c] => if e.head? = some c then none else some [qw3 c]
  | c :: d :: t => if e.head? = some c then (qv4 e t).map (⟨0, d⟩ :: ·) else (qv4 e (d :: t)).map (qw3 c :: ·)
theorem jr6 {e p : List UInt8} {k : Nat} {c : UInt8} (h : p[k]? = some c) (hn : ¬ e.head? = some c) : qv4 e (p.drop k) = (qv4 e (p.drop (k + 1))).map (qw3 c :: ·) := by
  obtain ⟨hk, he⟩ := List.getElem?_eq_some_iff.1 h
  rw [List.drop_eq_getElem_cons hk, he]
  cases hd : p.drop (k + 1) with
  | nil => show (if e.head? = some c then none else some [qw3 c]) = _; rw [if_neg hn]; rfl
  | cons d t => rw [qv4, if_neg hn]
theorem cutL_esc {e p : List UInt8} {k : Nat} {c d : UInt8} (h : p[k]? = some c) (hn : e.head? = some c) (h2 : p[k + 1]? = some d) : qv4 e (p.drop k) = (qv4 e (p.drop (k + 2))).map (⟨0, d⟩ :: ·) := by
  obtain ⟨hk, he⟩ := List.getElem?_eq_some_iff.1 h
  obtain ⟨hk2, he2⟩ := List.getElem?_eq_some_iff.1 h2
  rw [List.drop_eq_getElem_cons hk, he, List.drop_eq_getElem_cons hk2, he2, qv4, if_pos hn]
theorem cutL_last {e p : List UInt8} {k : Nat} {c : UInt8} (h : p[k]? = some c) (hn : e.head? = some c) (h2 : p.length ≤ k + 1) : qv4 e (p.drop k) = none := by
  obtain ⟨hk, he⟩ := List.getElem?_eq_some_iff.1 h
  rw [List.drop_eq_getElem_cons hk, he, List.drop_of_length_le h2, qv4, if_pos hn]
theorem cutL_end {e p : List UInt8} {k : Nat} (h : p.length ≤ k) : qv4 e (p.drop k) = some [] := by
  rw [List.drop_of_length_le h, qv4]
def qn4 (ps : List Pc) : List Value := ps.flatMap fun p => [.int .i64 p.kind, .int .u8 p.c.toNat]
theorem vz7 (ps : List Pc) (p : Pc) : qn4 (ps ++ [p]) = qn4 ps ++ [.int .i64 p.kind, .int .u8 p.c.toNat] := by simp [qn4]
end
section
theorem jt6 : (Tryz.prog.info? 257).map (fun i => (i.zero, i.size, i.bytes)) = some (some (.agg #[.int .i64 0, .int .u8 0]), 2, 16) := by kernel_rfl
def CutEnds (w : World) (r : Option (List Pc)) (e : Ending) (w' : World) : Prop :=
  Below w.heap.size w w' ∧ match r with
  | none => e = .returned (.tuple #[.slice none 0 0, .bool false])
  | some ps => ∃ v, e = .returned (.tuple #[v, .bool true]) ∧ w'.ownsRow w.heap.size 257 2 v ps.length (qn4 ps)
theorem qe6 {base e size n B : Nat} {w w' : World} {v : Value} {xs : List Value} (h : w.ownsRow base e size v n xs) (hb : Below B w w') (hB : w.heap.size ≤ B) : w'.ownsRow base e size v n xs := by
  refine ⟨h.1, ?_⟩
  rcases h.2 with hn | ⟨g, cap, cur, rfl, hbg, hgg, rest⟩
  · exact .inl hn
  · refine .inr ⟨g, cap, cur, rfl, hbg, ?_, rest⟩
    rw [hb.block g (by have := (Array.getElem?_eq_some_iff.1 hgg).1; omega)]
    exact hgg
theorem jh3 {base e size n : Nat} {w : World} {v : Value} {xs : List Value} (h : w.ownsRow base e size v n xs) : ∀ k, v.ownBlock = some k → base ≤ k := fun k hk => (h.lt k hk).1
theorem Below.grown {B : Nat} {a w w' : World} {row : Option Nat} (h : Below B a w) (hg : w.grownBy w' row) (hB : B ≤ w.heap.size) (hrow : ∀ k, row = some k → B ≤ k) : Below B a w' :=
  ⟨hg.os.trans h.os, hg.tape.trans h.tape, hg.output.trans h.output, Nat.le_trans h.size hg.size, fun k hk => (hg.block k (by omega) (fun e => by have := hrow k e.symm; omega)).trans (h.block k hk)⟩
theorem vs7 {w wr w1 w2 : World} {e : Nat} {v v' : Value} {ps : List Pc} {q : Pc} {o : Obj} (hown' : w2.ownsRow w.heap.size e 2 v' (ps.length + 1) (qn4 ps ++ [.int .i64 q.kind, .int .u8 q.c.toNat])) (hgrow : (w1.alloc o).grownBy w2 v.ownBlock)
    (hown1 : w1.ownsRow w.heap.size e 2 v ps.length (qn4 ps)) (hbel : Below w.heap.size w wr) (hb1 : Below wr.heap.size wr w1) :
    w2.ownsRow w.heap.size e 2 v' (ps ++ [q]).length (qn4 (ps ++ [q])) ∧ Below w.heap.size w w2 := by
  have h1 := hbel.size
  have h2 := hb1.size
  refine ⟨by rw [vz7, List.length_append]; exact hown', ?_⟩
  exact Below.grown ((v7 hbel hb1).alloc (by omega) o) hgrow (by simp; omega) (jh3 hown1)
set_option maxHeartbeats 1000000 in
set_option maxRecDepth 100000 in
theorem jd5 (p e : ByteArray) (hp : p.size ≤ 200) (w : World) :
    Calls Tryz.prog 195 #[.string p, .string e] w (CutEnds w (qv4 e.data.toList p.data.toList)) := by
  obtain ⟨R, hR⟩ : ∃ r, qv4 e.data.toList p.data.toList = r := ⟨_, rfl⟩
  rw [hR]
  have HR := v6 hR
  clear hR
  obtain ⟨i0, hi, hz0, hz1', hz2'⟩ := info_parts jt6
  go_enter Tryz.func195, Tryz.ntmps195
  go_wp2_with fail
  go_loopw [6, 7] (fun v i wr => ∃ (k : Nat) (ps : List Pc), k ≤ p.size ∧ ps.length ≤ k ∧ i = .int .i64 k ∧ Hid (R = (qv4 e.data.toList (p.data.toList.drop k)).map (ps ++ ·)) ∧ wr.ownsRow w.heap.size 257 2 v ps.length (qn4 ps) ∧ Below w.heap.size w wr) (fun _ i _ => p.size - (intOf i).toNat)
  case atStart => exact ⟨0, [], Nat.zero_le _, Nat.zero_le _, rfl, v6 (by rw [List.drop_zero, q9 HR]; cases R <;> rfl), World.ownsRow_nil _ _ _ _, Below.refl _ _⟩
  case round =>
    obtain ⟨k, ps, hk, hpk, rfl, hh, hown, hbel⟩ := hrel
    have hbz := hbel.size
    by_cases hlt : k < p.size
    · have hpe : p.data.toList[k]? = some p[k] := by rw [List.getElem?_eq_getElem (by rw [qa9]; exact hlt), qc3 p k hlt]
      have plainCase : ¬ e.data.toList.head? = some p[k] → Hid (R = (qv4 e.data.toList (p.data.toList.drop (k + 1))).map ((ps ++ [qw3 p[k]]) ++ ·)) := fun hn => v6 (by rw [q9 hh, jr6 hpe hn]; cases qv4 e.data.toList (p.data.toList.drop (k + 1)) <;> simp)
      by_cases he : 0 < e.size
      · have hne := jb4 he
        have hhd : e.data.toList.head? = some e[0] := by
          have := List.getElem?_eq_getElem (l := e.data.toList) (i := 0) (by rw [qa9]; exact he)
          rw [qc3 e 0 he] at this
          rw [List.head?_eq_getElem?]; exact this
        cases hx : (p[k] == e[0]) with
        | false =>
          have HT := plainCase (by rw [hhd]; intro h; injection h with h; rw [h] at hx; simp at hx)
          have hx' : ((p[k].toNat : Int) == (e[0].toNat : Int)) = false := by rw [vm5]; exact hx
          clear plainCase hh hpe hhd hx
          go_wp2_with fail
          go_quiet (fail)
          go_wp2_with (first | (go_at_call 228; refine (ja0 p[k] _).mono ?_; rintro en w1 ⟨rfl, hb1'⟩; have hb1 : Below wr.heap.size wr w1 := (below_drewN (Below.refl _ wr) _).trans hb1'; clear hb1'; have hz1 := hb1.size; have hown1 := qe6 hown hb1 (Nat.le_refl _); simp only [pcV]) | (at_builtin; refine wpList_append_own _ rfl _ _ 251 rfl w.heap.size 257 i0 (.agg #[.int .i64 0, .int .u8 0]) 2 16 Tryz.underlying251 hi hz0 hz1' hz2' rfl (by decide) _ _ _ rfl (hown1.alloc _) ⟨w1.heap.size, 0, none⟩ 1 1 [.int .i64 (qw3 p[k]).kind, .int .u8 (qw3 p[k]).c.toNat] rfl rfl ?c1 ?c2 ?c3 ?c4 ?c5 ?_))
          case c1 =>
            intro j u hj
            match j, hj with
            | 0, hj => simp at hj; subst hj; simp [Addr.add]
            | 1, hj => simp at hj; subst hj; simp [Addr.add]
            | j + 2, hj => simp at hj
          case c2 => intro u hu; simp at hu; rcases hu with rfl | rfl <;> rfl
          case c3 => unfold maxLen; omega
          case c4 => omega
          case c5 => simp; omega
          · intro v' w2 hown' hgrow _
            have R := vs7 hown' hgrow hown1 hbel hb1
            clear hown' hgrow hown hown1
            go_wp2
            go_roundw
            case rel => exact ⟨k + 1, _, by omega, by simp; omega, by go_num, HT, R.1, R.2⟩
            case measure => simp [intOf]; omega
        | true =>
          have hxe : e.data.toList.head? = some p[k] := by rw [hhd, beq_iff_eq.1 hx]
          have hx' : ((p[k].toNat : Int) == (e[0].toNat : Int)) = true := by rw [vm5]; exact hx
          by_cases hl : k + 1 < p.size
          · have hpe2 : p.data.toList[k + 1]? = some p[k + 1] := by rw [List.getElem?_eq_getElem (by rw [qa9]; exact hl), qc3 p (k + 1) hl]
            have HT : Hid (R = (qv4 e.data.toList (p.data.toList.drop (k + 2))).map ((ps ++ [⟨0, p[k + 1]⟩]) ++ ·)) := v6 (by rw [q9 hh, cutL_esc hpe hxe hpe2]; cases qv4 e.data.toList (p.data.toList.drop (k + 2)) <;> simp)
            clear plainCase hh hpe hhd hx hpe2 hxe
            have hnl : (((k : Int) + 1) == (p.size : Int)) = false := beq_eq_false_iff_ne.2 (by omega)
            go_wp2_with fail
            go_quiet (fail)
            have hown1 := qe6 hown (below_drewN (Below.refl _ wr) nq) (Nat.le_refl _)
            go_wp2_with (first | (at_builtin; refine wpList_append_own _ rfl _ _ 251 rfl w.heap.size 257 i0 (.agg #[.int .i64 0, .int .u8 0]) 2 16 Tryz.underlying251 hi hz0 hz1' hz2' rfl (by decide) _ _ _ rfl (hown1.alloc _) ⟨wr.heap.size, 0, none⟩ 1 1 [.int .i64 0, .int .u8 p[k + 1].toNat] rfl rfl ?c1 ?c2 ?c3 ?c4 ?c5 ?_))
            case c1 =>
              intro j u hj
              match j, hj with
              | 0, hj => simp at hj; subst hj; simp [Addr.add]; exact (World.cell?_alloc_at (w := wr.drewN nq) _ _ _ _ rfl).trans rfl
              | 1, hj => simp at hj; subst hj; simp [Addr.add]; exact (World.cell?_alloc_at (w := wr.drewN nq) _ _ _ _ rfl).trans rfl
              | j + 2, hj => simp at hj
            case c2 => intro u hu; simp at hu; rcases hu with rfl | rfl <;> rfl
            case c3 => unfold maxLen; omega
            case c4 => omega
            case c5 => simp; omega
            · intro v' w2 hown' hgrow _
              have R := vs7 (q := ⟨0, p[k + 1]⟩) hown' hgrow hown1 hbel (below_drewN (Below.refl _ wr) nq)
              clear hown' hgrow hown hown1
              go_wp2
              go_roundw
              case rel => exact ⟨k + 2, _, by omega, by simp; omega, by go_num, HT, R.1, R.2⟩
              case measure => simp [intOf]; omega
          · have HT : Hid (R = none) := v6 (by rw [q9 hh, cutL_last hpe hxe (by rw [qa9]; omega)]; rfl)
            clear plainCase hh hpe hhd hx hxe
            have hnl : (((k : Int) + 1) == (p.size : Int)) = true := beq_iff_eq.2 (by omega)
            go_wp2_with fail
            go_quiet (fail)
            go_wp2_with fail
            go_ret2
            rw [q9 HT]
            exact ⟨below_drewN hbel _, rfl⟩
      · have hee : e = ⟨#[]⟩ := by cases e with | mk d => simp [ByteArray.size] at he; simp [he]
        subst hee
        have HT := plainCase (by simp)
        clear plainCase hh hpe he
        go_wp2_with fail
        go_quiet (fail)
        go_wp2_with (first | (go_at_call 228; refine (ja0 p[k] _).mono ?_; rintro en w1 ⟨rfl, hb1'⟩; have hb1 : Below wr.heap.size wr w1 := (below_drewN (Below.refl _ wr) _).trans hb1'; clear hb1'; have hz1 := hb1.size; have hown1 := qe6 hown hb1 (Nat.le_refl _); simp only [pcV]) | (at_builtin; refine wpList_append_own _ rfl _ _ 251 rfl w.heap.size 257 i0 (.agg #[.int .i64 0, .int .u8 0]) 2 16 Tryz.underlying251 hi hz0 hz1' hz2' rfl (by decide) _ _ _ rfl (hown1.alloc _) ⟨w1.heap.size, 0, none⟩ 1 1 [.int .i64 (qw3 p[k]).kind, .int .u8 (qw3 p[k]).c.toNat] rfl rfl ?c1 ?c2 ?c3 ?c4 ?c5 ?_))
        case c1 =>
          intro j u hj
          match j, hj with
          | 0, hj => simp at hj; subst hj; simp [Addr.add]
          | 1, hj => simp at hj; subst hj; simp [Addr.add]
          | j + 2, hj => simp at hj
        case c2 => intro u hu; simp at hu; rcases hu with rfl | rfl <;> rfl
        case c3 => unfold maxLen; omega
        case c4 => omega
        case c5 => simp; omega
        · intro v' w2 hown' hgrow _
          have R := vs7 hown' hgrow hown1 hbel hb1
          clear hown' hgrow hown hown1
          go_wp2
          go_roundw
          case rel => exact ⟨k + 1, _, by omega, by simp; omega, by go_num, HT, R.1, R.2⟩
          case measure => simp [intOf]; omega
    · have HT : Hid (R = some ps) := v6 (by rw [q9 hh, cutL_end (by rw [qa9]; omega)]; simp)
      clear hh
      go_wp2_with fail
      go_ret2
      rw [q9 HT]
      exact ⟨hbel, _, rfl, hown⟩
set_option maxHeartbeats 400000 in
theorem valid_any (p e : ByteArray) (hp : p.size ≤ 200) (w : World) :
    Calls Tryz.prog 318 #[.string p, .string e] w fun en w' => en = .returned (.bool (qv4 e.data.toList p.data.toList).isSome) ∧ Below w.heap.size w w' := by
  cases hc : qv4 e.data.toList p.data.toList with
  | none =>
    have HC := v6 hc
    clear hc
    go_enter Tryz.func318, Tryz.ntmps318
    go_wp2_with (go_at_call 195; refine (jd5 p e hp _).mono ?_; rintro en w1 ⟨hb1, h1⟩; rw [q9 HC] at h1; subst h1)
    go_ret
    exact ⟨rfl, hb1⟩
  | some ps =>
    have HC := v6 hc
    clear hc
    go_enter Tryz.func318, Tryz.ntmps318
    go_wp2_with (go_at_call 195; refine (jd5 p e hp _).mono ?_; rintro en w1 ⟨hb1, h1⟩; rw [q9 HC] at h1; obtain ⟨v, rfl, hown⟩ := h1; clear hown)
    go_ret
    exact ⟨rfl, hb1⟩
end
section
theorem z9 {a w : World} (h : Below a.heap.size a w) (o : Obj) : Below a.heap.size a (w.alloc o) := h.alloc h.size o
set_option maxHeartbeats 400000 in
theorem qa6 (b : Bool) (w : World) :
    Calls Tryz.prog 70 #[.bool b] w fun e w' => e = .returned (vV (bV b)) ∧ w' = w.alloc (.cells #[.int .i64 (bV b).kind, .int .i64 (bV b).num, .string (BS (bV b).str)] 118) := by
  cases b
  all_goals
    go_enter Tryz.func70, Tryz.ntmps70
    go_wp2_with fail
    refine bodyPost_ret (by simp [results, Tryz.results70, go_sem]; rfl) rfl ⟨rfl, rfl⟩
set_option maxHeartbeats 400000 in
theorem qk9 (w : World) :
    Calls Tryz.prog 146 #[] w fun e w' => e = .returned (vV nV) ∧ w' = w.alloc (.cells #[.int .i64 nV.kind, .int .i64 nV.num, .string (BS nV.str)] 118) := by
  go_enter Tryz.func146, Tryz.ntmps146
  go_wp2_with fail
  refine bodyPost_ret (by simp [results, Tryz.results146, go_sem]; rfl) rfl ⟨rfl, rfl⟩
def andV (x y : V) : V := if decide (x = bV false) || decide (y = bV false) then bV false else if decide (x = bV true) && decide (y = bV true) then bV true else nV
set_option maxHeartbeats 4000000 in
theorem jq1 (x y : V) (w : World) :
    Calls Tryz.prog 149 #[vV x, vV y] w fun e w' => e = .returned (vV (andV x y)) ∧ Below w.heap.size w w' := by
  have ex := fun w => vh9 x (bV false) w
  have ey := fun w => vh9 y (bV false) w
  have fx := fun w => vh9 x (bV true) w
  have fy := fun w => vh9 y (bV true) w
  simp only [vV] at ex ey fx fy
  unfold andV
  generalize decide (x = bV false) = a at *
  generalize decide (y = bV false) = b at *
  generalize decide (x = bV true) = c at *
  generalize decide (y = bV true) = d at *
  cases a
  · cases b
    · cases c
      · simp only [Bool.false_and, Bool.false_or, Bool.false_eq_true, if_false]
        conv => arg 3; simp only [vV]
        go_enter Tryz.func149, Tryz.ntmps149
        go_wp2_with fail
        go_cut [5] (fun s5 wx => s5 = .bool false ∧ wx = ((((((w.alloc (Obj.cells #[.int .i64 x.kind, .int .i64 x.num, .string (BS x.str)] 118)).alloc (Obj.cells #[.int .i64 y.kind, .int .i64 y.num, .string (BS y.str)] 118)).alloc (Obj.cells #[.int .i64 0, .int .i64 0, .string ⟨#[]⟩] 118)).alloc (Obj.cells #[.int .i64 (bV false).kind, .int .i64 (bV false).num, .string (BS (bV false).str)] 118)).alloc (Obj.cells #[.int .i64 (bV false).kind, .int .i64 (bV false).num, .string (BS (bV false).str)] 118))).drew)
        case first => go_region_with (go_at_call 70; refine (qa6 _ _).mono ?_; rintro e w' ⟨rfl, rfl⟩; simp only [vV]); all_goals (go_wp2_with fail; go_meet; exact ⟨rfl, rfl⟩)
        case rest =>
          obtain ⟨rfl, rfl⟩ := hcut
          go_wp2_with fail
          go_cut [15] (fun s15 wx => s15 = .bool false ∧ wx = (((((((w.alloc (Obj.cells #[.int .i64 x.kind, .int .i64 x.num, .string (BS x.str)] 118)).alloc (Obj.cells #[.int .i64 y.kind, .int .i64 y.num, .string (BS y.str)] 118)).alloc (Obj.cells #[.int .i64 0, .int .i64 0, .string ⟨#[]⟩] 118)).alloc (Obj.cells #[.int .i64 (bV false).kind, .int .i64 (bV false).num, .string (BS (bV false).str)] 118)).alloc (Obj.cells #[.int .i64 (bV false).kind, .int .i64 (bV false).num, .string (BS (bV false).str)] 118)).alloc (Obj.cells #[.int .i64 (bV true).kind, .int .i64 (bV true).num, .string (BS (bV true).str)] 118))).drew.drew)
          case first => go_region_with (go_at_call 70; refine (qa6 _ _).mono ?_; rintro e w' ⟨rfl, rfl⟩; simp only [vV]); all_goals (go_wp2_with fail; go_meet; exact ⟨rfl, rfl⟩)
          case rest =>
            obtain ⟨rfl, rfl⟩ := hcut
            go_wp2_with (first | (go_at_call 70; refine (qa6 _ _).mono ?_; rintro e w' ⟨rfl, rfl⟩; simp only [vV]) | (go_at_call 146; refine (qk9 _).mono ?_; rintro e w' ⟨rfl, rfl⟩; simp only [vV]))
            refine bodyPost_ret (by simp [results, Tryz.results149, go_sem] <;> rfl) rfl ⟨rfl, ?_⟩
            repeat (first | exact Below.refl _ _ | apply Below.drew | apply z9)
      · cases d
        · simp only [Bool.and_false, Bool.false_or, Bool.false_eq_true, if_false]
          conv => arg 3; simp only [vV]
          go_enter Tryz.func149, Tryz.ntmps149
          go_wp2_with fail
          go_cut [5] (fun s5 wx => s5 = .bool false ∧ wx = ((((((w.alloc (Obj.cells #[.int .i64 x.kind, .int .i64 x.num, .string (BS x.str)] 118)).alloc (Obj.cells #[.int .i64 y.kind, .int .i64 y.num, .string (BS y.str)] 118)).alloc (Obj.cells #[.int .i64 0, .int .i64 0, .string ⟨#[]⟩] 118)).alloc (Obj.cells #[.int .i64 (bV false).kind, .int .i64 (bV false).num, .string (BS (bV false).str)] 118)).alloc (Obj.cells #[.int .i64 (bV false).kind, .int .i64 (bV false).num, .string (BS (bV false).str)] 118))).drew)
          case first => go_region_with (go_at_call 70; refine (qa6 _ _).mono ?_; rintro e w' ⟨rfl, rfl⟩; simp only [vV]); all_goals (go_wp2_with fail; go_meet; exact ⟨rfl, rfl⟩)
          case rest =>
            obtain ⟨rfl, rfl⟩ := hcut
            go_wp2_with fail
            go_cut [15] (fun s15 wx => s15 = .bool false ∧ wx = ((((((((w.alloc (Obj.cells #[.int .i64 x.kind, .int .i64 x.num, .string (BS x.str)] 118)).alloc (Obj.cells #[.int .i64 y.kind, .int .i64 y.num, .string (BS y.str)] 118)).alloc (Obj.cells #[.int .i64 0, .int .i64 0, .string ⟨#[]⟩] 118)).alloc (Obj.cells #[.int .i64 (bV false).kind, .int .i64 (bV false).num, .string (BS (bV false).str)] 118)).alloc (Obj.cells #[.int .i64 (bV false).kind, .int .i64 (bV false).num, .string (BS (bV false).str)] 118)).alloc (Obj.cells #[.int .i64 (bV true).kind, .int .i64 (bV true).num, .string (BS (bV true).str)] 118)).alloc (Obj.cells #[.int .i64 (bV true).kind, .int .i64 (bV true).num, .string (BS (bV true).str)] 118))).drew.drew)
            case first => go_region_with (go_at_call 70; refine (qa6 _ _).mono ?_; rintro e w' ⟨rfl, rfl⟩; simp only [vV]); all_goals (go_wp2_with fail; go_meet; exact ⟨rfl, rfl⟩)
            case rest =>
              obtain ⟨rfl, rfl⟩ := hcut
              go_wp2_with (first | (go_at_call 70; refine (qa6 _ _).mono ?_; rintro e w' ⟨rfl, rfl⟩; simp only [vV]) | (go_at_call 146; refine (qk9 _).mono ?_; rintro e w' ⟨rfl, rfl⟩; simp only [vV]))
              refine bodyPost_ret (by simp [results, Tryz.results149, go_sem] <;> rfl) rfl ⟨rfl, ?_⟩
              repeat (first | exact Below.refl _ _ | apply Below.drew | apply z9)
        · simp only [Bool.and_true, Bool.false_or, Bool.false_eq_true, if_false, if_true]
          conv => arg 3; simp only [vV]
          go_enter Tryz.func149, Tryz.ntmps149
          go_wp2_with fail
          go_cut [5] (fun s5 wx => s5 = .bool false ∧ wx = ((((((w.alloc (Obj.cells #[.int .i64 x.kind, .int .i64 x.num, .string (BS x.str)] 118)).alloc (Obj.cells #[.int .i64 y.kind, .int .i64 y.num, .string (BS y.str)] 118)).alloc (Obj.cells #[.int .i64 0, .int .i64 0, .string ⟨#[]⟩] 118)).alloc (Obj.cells #[.int .i64 (bV false).kind, .int .i64 (bV false).num, .string (BS (bV false).str)] 118)).alloc (Obj.cells #[.int .i64 (bV false).kind, .int .i64 (bV false).num, .string (BS (bV false).str)] 118))).drew)
          case first => go_region_with (go_at_call 70; refine (qa6 _ _).mono ?_; rintro e w' ⟨rfl, rfl⟩; simp only [vV]); all_goals (go_wp2_with fail; go_meet; exact ⟨rfl, rfl⟩)
          case rest =>
            obtain ⟨rfl, rfl⟩ := hcut
            go_wp2_with fail
            go_cut [15] (fun s15 wx => s15 = .bool true ∧ wx = ((((((((w.alloc (Obj.cells #[.int .i64 x.kind, .int .i64 x.num, .string (BS x.str)] 118)).alloc (Obj.cells #[.int .i64 y.kind, .int .i64 y.num, .string (BS y.str)] 118)).alloc (Obj.cells #[.int .i64 0, .int .i64 0, .string ⟨#[]⟩] 118)).alloc (Obj.cells #[.int .i64 (bV false).kind, .int .i64 (bV false).num, .string (BS (bV false).str)] 118)).alloc (Obj.cells #[.int .i64 (bV false).kind, .int .i64 (bV false).num, .string (BS (bV false).str)] 118)).alloc (Obj.cells #[.int .i64 (bV true).kind, .int .i64 (bV true).num, .string (BS (bV true).str)] 118)).alloc (Obj.cells #[.int .i64 (bV true).kind, .int .i64 (bV true).num, .string (BS (bV true).str)] 118))).drew.drew)
            case first => go_region_with (go_at_call 70; refine (qa6 _ _).mono ?_; rintro e w' ⟨rfl, rfl⟩; simp only [vV]); all_goals (go_wp2_with fail; go_meet; exact ⟨rfl, rfl⟩)
            case rest =>
              obtain ⟨rfl, rfl⟩ := hcut
              go_wp2_with (first | (go_at_call 70; refine (qa6 _ _).mono ?_; rintro e w' ⟨rfl, rfl⟩; simp only [vV]) | (go_at_call 146; refine (qk9 _).mono ?_; rintro e w' ⟨rfl, rfl⟩; simp only [vV]))
              refine bodyPost_ret (by simp [results, Tryz.results149, go_sem] <;> rfl) rfl ⟨rfl, ?_⟩
              repeat (first | exact Below.refl _ _ | apply Below.drew | apply z9)
    · simp only [Bool.false_or, if_true]
      conv => arg 3; simp only [vV]
      go_enter Tryz.func149, Tryz.ntmps149
      go_wp2_with fail
      go_cut [5] (fun s5 wx => s5 = .bool true ∧ wx = ((((((w.alloc (Obj.cells #[.int .i64 x.kind, .int .i64 x.num, .string (BS x.str)] 118)).alloc (Obj.cells #[.int .i64 y.kind, .int .i64 y.num, .string (BS y.str)] 118)).alloc (Obj.cells #[.int .i64 0, .int .i64 0, .string ⟨#[]⟩] 118)).alloc (Obj.cells #[.int .i64 (bV false).kind, .int .i64 (bV false).num, .string (BS (bV false).str)] 118)).alloc (Obj.cells #[.int .i64 (bV false).kind, .int .i64 (bV false).num, .string (BS (bV false).str)] 118))).drew)
      case first => go_region_with (go_at_call 70; refine (qa6 _ _).mono ?_; rintro e w' ⟨rfl, rfl⟩; simp only [vV]); all_goals (go_wp2_with fail; go_meet; exact ⟨rfl, rfl⟩)
      case rest =>
        obtain ⟨rfl, rfl⟩ := hcut
        go_wp2_with (first | (go_at_call 70; refine (qa6 _ _).mono ?_; rintro e w' ⟨rfl, rfl⟩; simp only [vV]) | (go_at_call 146; refine (qk9 _).mono ?_; rintro e w' ⟨rfl, rfl⟩; simp only [vV]))
        refine bodyPost_ret (by simp [results, Tryz.results149, go_sem] <;> rfl) rfl ⟨rfl, ?_⟩
        repeat (first | exact Below.refl _ _ | apply Below.drew | apply z9)
  · simp only [Bool.true_or, if_true]
    conv => arg 3; simp only [vV]
    go_enter Tryz.func149, Tryz.ntmps149
    go_wp2_with fail
    go_cut [5] (fun s5 wx => s5 = .bool true ∧ wx = (((((w.alloc (Obj.cells #[.int .i64 x.kind, .int .i64 x.num, .string (BS x.str)] 118)).alloc (Obj.cells #[.int .i64 y.kind, .int .i64 y.num, .string (BS y.str)] 118)).alloc (Obj.cells #[.int .i64 0, .int .i64 0, .string ⟨#[]⟩] 118)).alloc (Obj.cells #[.int .i64 (bV false).kind, .int .i64 (bV false).num, .string (BS (bV false).str)] 118))).drew)
    case first => go_region_with (go_at_call 70; refine (qa6 _ _).mono ?_; rintro e w' ⟨rfl, rfl⟩; simp only [vV]); all_goals (go_wp2_with fail; go_meet; exact ⟨rfl, rfl⟩)
    case rest =>
      obtain ⟨rfl, rfl⟩ := hcut
      go_wp2_with (first | (go_at_call 70; refine (qa6 _ _).mono ?_; rintro e w' ⟨rfl, rfl⟩; simp only [vV]) | (go_at_call 146; refine (qk9 _).mono ?_; rintro e w' ⟨rfl, rfl⟩; simp only [vV]))
      refine bodyPost_ret (by simp [results, Tryz.results149, go_sem] <;> rfl) rfl ⟨rfl, ?_⟩
      repeat (first | exact Below.refl _ _ | apply Below.drew | apply z9)
end
section
def orV (x y : V) : V := if decide (x = bV true) || decide (y = bV true) then bV true else if decide (x = bV false) && decide (y = bV false) then bV false else nV
set_option maxHeartbeats 4000000 in
theorem vOr_any (x y : V) (w : World) :
    Calls Tryz.prog 150 #[vV x, vV y] w fun e w' => e = .returned (vV (orV x y)) ∧ Below w.heap.size w w' := by
  have ex := fun w => vh9 x (bV true) w
  have ey := fun w => vh9 y (bV true) w
  have fx := fun w => vh9 x (bV false) w
  have fy := fun w => vh9 y (bV false) w
  simp only [vV] at ex ey fx fy
  unfold orV
  generalize decide (x = bV true) = a at *
  generalize decide (y = bV true) = b at *
  generalize decide (x = bV false) = c at *
  generalize decide (y = bV false) = d at *
  cases a
  · cases b
    · cases c
      · simp only [Bool.false_and, Bool.false_or, Bool.false_eq_true, if_false]
        conv => arg 3; simp only [vV]
        go_enter Tryz.func150, Tryz.ntmps150
        go_wp2_with fail
        go_cut [5] (fun s5 wx => s5 = .bool false ∧ wx = ((((((w.alloc (Obj.cells #[.int .i64 x.kind, .int .i64 x.num, .string (BS x.str)] 118)).alloc (Obj.cells #[.int .i64 y.kind, .int .i64 y.num, .string (BS y.str)] 118)).alloc (Obj.cells #[.int .i64 0, .int .i64 0, .string ⟨#[]⟩] 118)).alloc (Obj.cells #[.int .i64 (bV true).kind, .int .i64 (bV true).num, .string (BS (bV true).str)] 118)).alloc (Obj.cells #[.int .i64 (bV true).kind, .int .i64 (bV true).num, .string (BS (bV true).str)] 118))).drew)
        case first => go_region_with (go_at_call 70; refine (qa6 _ _).mono ?_; rintro e w' ⟨rfl, rfl⟩; simp only [vV]); all_goals (go_wp2_with fail; go_meet; exact ⟨rfl, rfl⟩)
        case rest =>
          obtain ⟨rfl, rfl⟩ := hcut
          go_wp2_with fail
          go_cut [15] (fun s15 wx => s15 = .bool false ∧ wx = (((((((w.alloc (Obj.cells #[.int .i64 x.kind, .int .i64 x.num, .string (BS x.str)] 118)).alloc (Obj.cells #[.int .i64 y.kind, .int .i64 y.num, .string (BS y.str)] 118)).alloc (Obj.cells #[.int .i64 0, .int .i64 0, .string ⟨#[]⟩] 118)).alloc (Obj.cells #[.int .i64 (bV true).kind, .int .i64 (bV true).num, .string (BS (bV true).str)] 118)).alloc (Obj.cells #[.int .i64 (bV true).kind, .int .i64 (bV true).num, .string (BS (bV true).str)] 118)).alloc (Obj.cells #[.int .i64 (bV false).kind, .int .i64 (bV false).num, .string (BS (bV false).str)] 118))).drew.drew)
          case first => go_region_with (go_at_call 70; refine (qa6 _ _).mono ?_; rintro e w' ⟨rfl, rfl⟩; simp only [vV]); all_goals (go_wp2_with fail; go_meet; exact ⟨rfl, rfl⟩)
          case rest =>
            obtain ⟨rfl, rfl⟩ := hcut
            go_wp2_with (first | (go_at_call 70; refine (qa6 _ _).mono ?_; rintro e w' ⟨rfl, rfl⟩; simp only [vV]) | (go_at_call 146; refine (qk9 _).mono ?_; rintro e w' ⟨rfl, rfl⟩; simp only [vV]))
            refine bodyPost_ret (by simp [results, Tryz.results150, go_sem] <;> rfl) rfl ⟨rfl, ?_⟩
            repeat (first | exact Below.refl _ _ | apply Below.drew | apply z9)
      · cases d
        · simp only [Bool.and_false, Bool.false_or, Bool.false_eq_true, if_false]
          conv => arg 3; simp only [vV]
          go_enter Tryz.func150, Tryz.ntmps150
          go_wp2_with fail
          go_cut [5] (fun s5 wx => s5 = .bool false ∧ wx = ((((((w.alloc (Obj.cells #[.int .i64 x.kind, .int .i64 x.num, .string (BS x.str)] 118)).alloc (Obj.cells #[.int .i64 y.kind, .int .i64 y.num, .string (BS y.str)] 118)).alloc (Obj.cells #[.int .i64 0, .int .i64 0, .string ⟨#[]⟩] 118)).alloc (Obj.cells #[.int .i64 (bV true).kind, .int .i64 (bV true).num, .string (BS (bV true).str)] 118)).alloc (Obj.cells #[.int .i64 (bV true).kind, .int .i64 (bV true).num, .string (BS (bV true).str)] 118))).drew)
          case first => go_region_with (go_at_call 70; refine (qa6 _ _).mono ?_; rintro e w' ⟨rfl, rfl⟩; simp only [vV]); all_goals (go_wp2_with fail; go_meet; exact ⟨rfl, rfl⟩)
          case rest =>
            obtain ⟨rfl, rfl⟩ := hcut
            go_wp2_with fail
            go_cut [15] (fun s15 wx => s15 = .bool false ∧ wx = ((((((((w.alloc (Obj.cells #[.int .i64 x.kind, .int .i64 x.num, .string (BS x.str)] 118)).alloc (Obj.cells #[.int .i64 y.kind, .int .i64 y.num, .string (BS y.str)] 118)).alloc (Obj.cells #[.int .i64 0, .int .i64 0, .string ⟨#[]⟩] 118)).alloc (Obj.cells #[.int .i64 (bV true).kind, .int .i64 (bV true).num, .string (BS (bV true).str)] 118)).alloc (Obj.cells #[.int .i64 (bV true).kind, .int .i64 (bV true).num, .string (BS (bV true).str)] 118)).alloc (Obj.cells #[.int .i64 (bV false).kind, .int .i64 (bV false).num, .string (BS (bV false).str)] 118)).alloc (Obj.cells #[.int .i64 (bV false).kind, .int .i64 (bV false).num, .string (BS (bV false).str)] 118))).drew.drew)
            case first => go_region_with (go_at_call 70; refine (qa6 _ _).mono ?_; rintro e w' ⟨rfl, rfl⟩; simp only [vV]); all_goals (go_wp2_with fail; go_meet; exact ⟨rfl, rfl⟩)
            case rest =>
              obtain ⟨rfl, rfl⟩ := hcut
              go_wp2_with (first | (go_at_call 70; refine (qa6 _ _).mono ?_; rintro e w' ⟨rfl, rfl⟩; simp only [vV]) | (go_at_call 146; refine (qk9 _).mono ?_; rintro e w' ⟨rfl, rfl⟩; simp only [vV]))
              refine bodyPost_ret (by simp [results, Tryz.results150, go_sem] <;> rfl) rfl ⟨rfl, ?_⟩
              repeat (first | exact Below.refl _ _ | apply Below.drew | apply z9)
        · simp only [Bool.and_true, Bool.false_or, Bool.false_eq_true, if_false, if_true]
          conv => arg 3; simp only [vV]
          go_enter Tryz.func150, Tryz.ntmps150
          go_wp2_with fail
          go_cut [5] (fun s5 wx => s5 = .bool false ∧ wx = ((((((w.alloc (Obj.cells #[.int .i64 x.kind, .int .i64 x.num, .string (BS x.str)] 118)).alloc (Obj.cells #[.int .i64 y.kind, .int .i64 y.num, .string (BS y.str)] 118)).alloc (Obj.cells #[.int .i64 0, .int .i64 0, .string ⟨#[]⟩] 118)).alloc (Obj.cells #[.int .i64 (bV true).kind, .int .i64 (bV true).num, .string (BS (bV true).str)] 118)).alloc (Obj.cells #[.int .i64 (bV true).kind, .int .i64 (bV true).num, .string (BS (bV true).str)] 118))).drew)
          case first => go_region_with (go_at_call 70; refine (qa6 _ _).mono ?_; rintro e w' ⟨rfl, rfl⟩; simp only [vV]); all_goals (go_wp2_with fail; go_meet; exact ⟨rfl, rfl⟩)
          case rest =>
            obtain ⟨rfl, rfl⟩ := hcut
            go_wp2_with fail
            go_cut [15] (fun s15 wx => s15 = .bool true ∧ wx = ((((((((w.alloc (Obj.cells #[.int .i64 x.kind, .int .i64 x.num, .string (BS x.str)] 118)).alloc (Obj.cells #[.int .i64 y.kind, .int .i64 y.num, .string (BS y.str)] 118)).alloc (Obj.cells #[.int .i64 0, .int .i64 0, .string ⟨#[]⟩] 118)).alloc (Obj.cells #[.int .i64 (bV true).kind, .int .i64 (bV true).num, .string (BS (bV true).str)] 118)).alloc (Obj.cells #[.int .i64 (bV true).kind, .int .i64 (bV true).num, .string (BS (bV true).str)] 118)).alloc (Obj.cells #[.int .i64 (bV false).kind, .int .i64 (bV false).num, .string (BS (bV false).str)] 118)).alloc (Obj.cells #[.int .i64 (bV false).kind, .int .i64 (bV false).num, .string (BS (bV false).str)] 118))).drew.drew)
            case first => go_region_with (go_at_call 70; refine (qa6 _ _).mono ?_; rintro e w' ⟨rfl, rfl⟩; simp only [vV]); all_goals (go_wp2_with fail; go_meet; exact ⟨rfl, rfl⟩)
            case rest =>
              obtain ⟨rfl, rfl⟩ := hcut
              go_wp2_with (first | (go_at_call 70; refine (qa6 _ _).mono ?_; rintro e w' ⟨rfl, rfl⟩; simp only [vV]) | (go_at_call 146; refine (qk9 _).mono ?_; rintro e w' ⟨rfl, rfl⟩; simp only [vV]))
              refine bodyPost_ret (by simp [results, Tryz.results150, go_sem] <;> rfl) rfl ⟨rfl, ?_⟩
              repeat (first | exact Below.refl _ _ | apply Below.drew | apply z9)
    · simp only [Bool.false_or, if_true]
      conv => arg 3; simp only [vV]
      go_enter Tryz.func150, Tryz.ntmps150
      go_wp2_with fail
      go_cut [5] (fun s5 wx => s5 = .bool true ∧ wx = ((((((w.alloc (Obj.cells #[.int .i64 x.kind, .int .i64 x.num, .string (BS x.str)] 118)).alloc (Obj.cells #[.int .i64 y.kind, .int .i64 y.num, .string (BS y.str)] 118)).alloc (Obj.cells #[.int .i64 0, .int .i64 0, .string ⟨#[]⟩] 118)).alloc (Obj.cells #[.int .i64 (bV true).kind, .int .i64 (bV true).num, .string (BS (bV true).str)] 118)).alloc (Obj.cells #[.int .i64 (bV true).kind, .int .i64 (bV true).num, .string (BS (bV true).str)] 118))).drew)
      case first => go_region_with (go_at_call 70; refine (qa6 _ _).mono ?_; rintro e w' ⟨rfl, rfl⟩; simp only [vV]); all_goals (go_wp2_with fail; go_meet; exact ⟨rfl, rfl⟩)
      case rest =>
        obtain ⟨rfl, rfl⟩ := hcut
        go_wp2_with (first | (go_at_call 70; refine (qa6 _ _).mono ?_; rintro e w' ⟨rfl, rfl⟩; simp only [vV]) | (go_at_call 146; refine (qk9 _).mono ?_; rintro e w' ⟨rfl, rfl⟩; simp only [vV]))
        refine bodyPost_ret (by simp [results, Tryz.results150, go_sem] <;> rfl) rfl ⟨rfl, ?_⟩
        repeat (first | exact Below.refl _ _ | apply Below.drew | apply z9)
  · simp only [Bool.true_or, if_true]
    conv => arg 3; simp only [vV]
    go_enter Tryz.func150, Tryz.ntmps150
    go_wp2_with fail
    go_cut [5] (fun s5 wx => s5 = .bool true ∧ wx = (((((w.alloc (Obj.cells #[.int .i64 x.kind, .int .i64 x.num, .string (BS x.str)] 118)).alloc (Obj.cells #[.int .i64 y.kind, .int .i64 y.num, .string (BS y.str)] 118)).alloc (Obj.cells #[.int .i64 0, .int .i64 0, .string ⟨#[]⟩] 118)).alloc (Obj.cells #[.int .i64 (bV true).kind, .int .i64 (bV true).num, .string (BS (bV true).str)] 118))).drew)
    case first => go_region_with (go_at_call 70; refine (qa6 _ _).mono ?_; rintro e w' ⟨rfl, rfl⟩; simp only [vV]); all_goals (go_wp2_with fail; go_meet; exact ⟨rfl, rfl⟩)
    case rest =>
      obtain ⟨rfl, rfl⟩ := hcut
      go_wp2_with (first | (go_at_call 70; refine (qa6 _ _).mono ?_; rintro e w' ⟨rfl, rfl⟩; simp only [vV]) | (go_at_call 146; refine (qk9 _).mono ?_; rintro e w' ⟨rfl, rfl⟩; simp only [vV]))
      refine bodyPost_ret (by simp [results, Tryz.results150, go_sem] <;> rfl) rfl ⟨rfl, ?_⟩
      repeat (first | exact Below.refl _ _ | apply Below.drew | apply z9)
end
section
structure Pr where
  name : List UInt8
  val : V
def EvAt (w : World) (b off : Nat) (ps : List Pr) : Prop := ∀ (k : Nat) (p : Pr), ps[k]? = some p →
  w.cell? ⟨b, off + k * 4, none⟩ = some (.string (BS p.name)) ∧ w.cell? ⟨b, off + k * 4 + 1, none⟩ = some (.int .i64 p.val.kind) ∧
  w.cell? ⟨b, off + k * 4 + 2, none⟩ = some (.int .i64 p.val.num) ∧ w.cell? ⟨b, off + k * 4 + 3, none⟩ = some (.string (BS p.val.str))
def jg0 (ps : List Pr) (n : List UInt8) : Bool := ps.any fun p => p.name == n
theorem EvAt.below {w w' : World} {b off : Nat} {ps : List Pr} (h : EvAt w b off ps) (hb : Below w.heap.size w w') (hlt : b < w.heap.size) : EvAt w' b off ps := by
  intro k p hk
  obtain ⟨h1, h2, h3, h4⟩ := h k p hk
  exact ⟨(hb.cell hlt).trans h1, (hb.cell hlt).trans h2, (hb.cell hlt).trans h3, (hb.cell hlt).trans h4⟩
theorem any_drop {ps : List Pr} {n : List UInt8} {k : Nat} {p : Pr} (h : ps[k]? = some p) : jg0 (ps.drop k) n = (p.name == n || jg0 (ps.drop (k + 1)) n) := by
  obtain ⟨hk, he⟩ := List.getElem?_eq_some_iff.1 h
  unfold jg0
  rw [List.drop_eq_getElem_cons hk, List.any_cons, he]
set_option maxHeartbeats 400000 in
theorem has_any (b off cap : Nat) (ps : List Pr) (s : ByteArray) (w : World) (hps : ps.length ≤ 8) (hw : EvAt w b off ps) (hlt : b < w.heap.size) :
    Calls Tryz.prog 66 #[.slice (some ⟨b, off, none⟩) ps.length cap, .string s] w fun e w' => e = .returned (.bool (jg0 ps s.data.toList)) ∧ Below w.heap.size w w' := by
  go_enter Tryz.func66, Tryz.ntmps66
  go_wp2_with fail
  go_loopw [6, 9] (fun _ i wr => ∃ k : Nat, k ≤ ps.length ∧ i = .int .i64 k ∧ Hid (jg0 ps s.data.toList = jg0 (ps.drop k) s.data.toList) ∧ Below w.heap.size w wr) (fun _ i _ => ps.length - (intOf i).toNat)
  case atStart => exact ⟨0, Nat.zero_le _, rfl, v6 (by rw [List.drop_zero]), Below.refl _ _⟩
  case round =>
    obtain ⟨k, hk, rfl, hh, hb⟩ := hrel
    by_cases hlt2 : k < ps.length
    · obtain ⟨p, hp⟩ : ∃ p, ps[k]? = some p := ⟨_, List.getElem?_eq_getElem hlt2⟩
      obtain ⟨h1, h2, h3, h4⟩ := (hw.below hb hlt) k p hp
      have hA := any_drop (n := s.data.toList) hp
      have hst : ((BS p.name).toList == s.toList) = (p.name == s.data.toList) := by rw [qm0, Lib.toList_data]
      cases he : (p.name == s.data.toList) with
      | true =>
        rw [he, Bool.true_or] at hA
        rw [he] at hst
        have HT : Hid (jg0 ps s.data.toList = true) := v6 (by rw [q9 hh, hA])
        clear hA hp he hh
        go_wp2_with fail
        go_ret
        exact ⟨qe3 (by rw [q9 HT]), z9 hb _⟩
      | false =>
        rw [he, Bool.false_or] at hA
        rw [he] at hst
        have HT : Hid (jg0 ps s.data.toList = jg0 (ps.drop (k + 1)) s.data.toList) := v6 (by rw [q9 hh, hA])
        clear hA hp he hh
        go_wp2_with fail
        exact ⟨⟨k + 1, by omega, by go_num, HT, z9 hb _⟩, by simp [intOf]; omega⟩
    · have HT : Hid (jg0 ps s.data.toList = false) := v6 (by rw [q9 hh, List.drop_of_length_le (by omega)]; rfl)
      clear hh
      go_wp2_with fail
      go_ret
      exact ⟨qe3 (by rw [q9 HT]), hb⟩
def qy0 (ps : List Pr) (n : List UInt8) : V := match ps.find? fun p => p.name == n with
  | some p => p.val
  | none => nV
theorem find_drop {ps : List Pr} {n : List UInt8} {k : Nat} {p : Pr} (h : ps[k]? = some p) : qy0 (ps.drop k) n = if p.name == n then p.val else qy0 (ps.drop (k + 1)) n := by
  obtain ⟨hk, he⟩ := List.getElem?_eq_some_iff.1 h
  unfold qy0
  rw [List.drop_eq_getElem_cons hk, he, List.find?_cons]
  cases p.name == n <;> rfl
set_option maxHeartbeats 400000 in
theorem find_any (b off cap : Nat) (ps : List Pr) (s : ByteArray) (w : World) (hps : ps.length ≤ 8) (hw : EvAt w b off ps) (hlt : b < w.heap.size) :
    Calls Tryz.prog 102 #[.slice (some ⟨b, off, none⟩) ps.length cap, .string s] w fun e w' => e = .returned (vV (qy0 ps s.data.toList)) ∧ Below w.heap.size w w' := by
  obtain ⟨F, hF⟩ : ∃ f, qy0 ps s.data.toList = f := ⟨_, rfl⟩
  rw [hF]
  have HF := v6 hF
  clear hF
  go_enter Tryz.func102, Tryz.ntmps102
  go_wp2_with fail
  go_loopw [6, 9] (fun _ i wr => ∃ k : Nat, k ≤ ps.length ∧ i = .int .i64 k ∧ Hid (F = qy0 (ps.drop k) s.data.toList) ∧ Below (w.heap.size + 1) (w.alloc (.cells #[.int .i64 0, .int .i64 0, .string ⟨#[]⟩] 118)) wr) (fun _ i _ => ps.length - (intOf i).toNat)
  case atStart => exact ⟨0, Nat.zero_le _, rfl, v6 (by rw [List.drop_zero, q9 HF]), Below.refl _ _⟩
  case round =>
    obtain ⟨k, hk, rfl, hh, hb⟩ := hrel
    have hb' : Below (w.alloc (.cells #[.int .i64 0, .int .i64 0, .string ⟨#[]⟩] 118)).heap.size (w.alloc (.cells #[.int .i64 0, .int .i64 0, .string ⟨#[]⟩] 118)) wr := by simpa using hb
    have hbw := qc1 hb'
    obtain ⟨hc0, hf0⟩ := j5 hb'
    have hz0 : w.heap.size < wr.heap.size := by have := hb'.size; simp at this; omega
    by_cases hlt2 : k < ps.length
    · obtain ⟨p, hp⟩ : ∃ p, ps[k]? = some p := ⟨_, List.getElem?_eq_getElem hlt2⟩
      obtain ⟨h1, h2, h3, h4⟩ := hw k p hp
      have hA := find_drop (n := s.data.toList) hp
      have hst : ((BS p.name).toList == s.toList) = (p.name == s.data.toList) := by rw [qm0, Lib.toList_data]
      cases he : (p.name == s.data.toList) with
      | true =>
        rw [he, if_pos rfl] at hA
        rw [he] at hst
        have HT : Hid (F = p.val) := v6 (by rw [q9 hh, hA])
        clear hA hp he hh
        go_wp2_with fail
        refine bodyPost_ret (by simp [results, Tryz.results102, go_sem, hc0, hz0] <;> rfl) rfl ⟨?_, ?_⟩
        · rw [q9 HT]; rfl
        · exact z9 (((hbw.setCell (by simp) _).setCell (by simp) _).setCell (by simp) _) _
      | false =>
        rw [he, if_neg (by simp)] at hA
        rw [he] at hst
        have HT : Hid (F = qy0 (ps.drop (k + 1)) s.data.toList) := v6 (by rw [q9 hh, hA])
        clear hA hp he hh
        go_wp2_with fail
        exact ⟨⟨k + 1, by omega, by go_num, HT, hb.alloc (by omega) _⟩, by simp [intOf]; omega⟩
    · have HT : Hid (F = nV) := v6 (by rw [q9 hh, List.drop_of_length_le (by omega)]; rfl)
      clear hh
      go_wp2_with fail
      refine bodyPost_ret (by simp [results, Tryz.results102, go_sem, hc0] <;> rfl) rfl ⟨?_, ?_⟩
      · rw [q9 HT]; rfl
      · exact ((hbw.setCell (by simp) _).setCell (by simp) _).setCell (by simp) _
theorem js6 (a : Option Addr) (cap : Nat) (s : ByteArray) (w : World) :
    Calls Tryz.prog 102 #[.slice a 0 cap, .string s] w fun e w' => e = .returned (vV nV) ∧ Below w.heap.size w w' := by
  go_enter Tryz.func102, Tryz.ntmps102
  go_wp2_with fail
  refine wp_loop_rounds 1 ?_
  rw [rounds_succ]
  go_wp2_with fail
  refine bodyPost_ret (by simp [results, Tryz.results102, go_sem] <;> rfl) rfl ⟨rfl, (Below.refl _ _).alloc (Nat.le_refl _) _⟩
def qv0 (n : List UInt8) : Bool := decide (n.length ≤ 16) && nameB n
def vv7 (v : V) : Bool :=
  if v.kind == 0 then v.num == 0 && v.str.isEmpty
  else if v.kind == 1 then (v.num == 0 || v.num == 1) && v.str.isEmpty
  else if v.kind == 2 then v.str.isEmpty
  else if v.kind == 3 then v.num == 0 && decide (v.str.length ≤ 20)
  else false
end
end Go.Proofs.YtfkcaldjphakpabGreatDoor
