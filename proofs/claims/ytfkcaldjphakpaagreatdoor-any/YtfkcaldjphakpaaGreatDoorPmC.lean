/- Programs in memory: the row of terms and the row of roots, as they grow. What is true of bytes that are a program: places lie below, numbers and texts are small. What program.Read keeps in memory while it reads. program.Read of any bytes. -/
import Derived.Test.YtfkcaldjphakpaaGreatDoorPmB
import Derived.Test.YtfkcaldjphakpaaGreatDoorPatA
import Derived.Test.YtfkcaldjphakpaaGreatDoorRdI
import Derived.Deep.AppendLies
import Derived.Deep.RegionWith
namespace Go.Proofs.YtfkcaldjphakpaaGreatDoor
open Go.RowKit

section
/-- The first k terms of a program. -/
def termsK (s : Ps) : Nat → List Tm × Ps
  | 0 => ([], s)
  | k + 1 => ((termsK s k).1 ++ [((termsK s k).2.term k).1], ((termsK s k).2.term k).2)
/-- The first k places of selectors' own terms. -/
def rootsK (m : Int) (s : Ps) : Nat → List Nat × Ps
  | 0 => ([], s)
  | k + 1 => ((rootsK m s k).1 ++ [((rootsK m s k).2.upTo m).1], ((rootsK m s k).2.upTo m).2)

theorem termsK_length (s : Ps) (k : Nat) : (termsK s k).1.length = k := by
  induction k with
  | zero => rfl
  | succ k ih => rw [termsK, List.length_append, ih]; rfl
theorem rootsK_length (m : Int) (s : Ps) (k : Nat) : (rootsK m s k).1.length = k := by
  induction k with
  | zero => rfl
  | succ k ih => rw [rootsK, List.length_append, ih]; rfl

def readH (code : List UInt8) : Nat × Ps := Ps.upTo ⟨code, false⟩ 80
def readI (code : List UInt8) : Nat × Ps := (readH code).2.upTo 8
def readT (code : List UInt8) : List Tm × Ps := termsK (readI code).2 (readH code).1
def readQ (code : List UInt8) : List Nat × Ps := rootsK (((readH code).1 : Int) - 1) (readT code).2 (readI code).1
/-- What a program's bytes are: its terms, its roots, and whether they are a program. -/
def readP (code : List UInt8) : List Tm × List Nat × Bool := ((readT code).1, (readQ code).1, !(readQ code).2.bad && ((readQ code).2.rest.length == 0))

def tmsCells (ts : List Tm) : List Value := ts.flatMap tmCells
def intCells (l : List Nat) : List Value := l.map fun n : Nat => .int .i64 (n : Int)

theorem tmsCells_length (ts : List Tm) : (tmsCells ts).length = ts.length * 6 := by
  induction ts with
  | nil => rfl
  | cons t ts ih => rw [tmsCells, List.flatMap_cons, List.length_append, ← tmsCells, ih, List.length_cons]; show 6 + _ = _; omega

theorem info_term : (Tryz.prog.info? 125).map (fun i => (i.zero, i.size, i.bytes)) = some (some (.agg #[.int .i64 0, .int .i64 0, .int .i64 0, .int .i64 0, .string ⟨#[]⟩, .string ⟨#[]⟩]), 6, 64) := by kernel_rfl
theorem info_intg : (Tryz.prog.info? 3).map (fun i => (i.zero, i.size, i.bytes)) = some (some (.int .i64 0), 1, 8) := by kernel_rfl

/-- A row of terms that the program owns, from block base on. -/
def TsAt (w : World) (base : Nat) (v : Value) (ts : List Tm) : Prop := w.ownsRow base 125 6 v ts.length (tmsCells ts)
def IsAt (w : World) (base : Nat) (v : Value) (l : List Nat) : Prop := w.ownsRow base 3 1 v l.length (intCells l)

theorem TsAt.nil (w : World) (base : Nat) : TsAt w base (.slice none 0 0) [] := ⟨rfl, .inl ⟨rfl, rfl⟩⟩
theorem IsAt.nil (w : World) (base : Nat) : IsAt w base (.slice none 0 0) [] := ⟨rfl, .inl ⟨rfl, rfl⟩⟩

theorem ownsRow_same {base e size n : Nat} {w w' : World} {v : Value} {xs : List Value} (h : w.ownsRow base e size v n xs) (hk : ∀ g, v.ownBlock = some g → w'.heap[g]? = w.heap[g]?) : w'.ownsRow base e size v n xs := by
  refine ⟨h.1, ?_⟩
  rcases h.2 with hn | ⟨g, cap, cur, rfl, hbg, hgg, rest⟩
  · exact .inl hn
  · exact .inr ⟨g, cap, cur, rfl, hbg, (hk g rfl).trans hgg, rest⟩
theorem tmsCells_get {ts : List Tm} {i : Nat} {t : Tm} (h : ts[i]? = some t) {j : Nat} {u : Value} (hj : (tmCells t)[j]? = some u) : (tmsCells ts)[i * 6 + j]? = some u := by
  have hj6 : j < 6 := by have := (List.getElem?_eq_some_iff.1 hj).1; simpa [tmCells] using this
  induction ts generalizing i with
  | nil => simp at h
  | cons t' ts ih =>
    rw [tmsCells, List.flatMap_cons, ← tmsCells]
    cases i with
    | zero =>
      simp at h
      subst h
      rw [List.getElem?_append_left (by show _ < 6; omega), Nat.zero_mul, Nat.zero_add]
      exact hj
    | succ i =>
      rw [List.getElem?_append_right (by show 6 ≤ _; omega), show (i + 1) * 6 + j - (tmCells t').length = i * 6 + j by show _ - 6 = _; omega]
      exact ih (by simpa using h)
end

section
theorem take_bad {s : Ps} {n : Nat} (h : (s.take n).2.bad = false) : s.bad = false ∧ n ≤ s.rest.length := by
  rw [Ps.take] at h
  split at h
  · exact ⟨h, by assumption⟩
  · simp [failS] at h
theorem next_bad {s : Ps} (h : s.next.2.bad = false) : s.bad = false := (take_bad (n := 1) h).1
theorem upTo_bad {s : Ps} {m : Int} (h : (s.upTo m).2.bad = false) : s.bad = false ∧ ((s.upTo m).1 : Int) ≤ m := by
  rw [Ps.upTo] at h ⊢
  split at h
  · simp [failS] at h
  · rename_i hm
    rw [if_neg hm]
    exact ⟨next_bad h, by show (s.next.1.toNat : Int) ≤ m; omega⟩
theorem number_bad {s : Ps} (h : s.number.2.bad = false) : s.bad = false := (take_bad (n := 8) h).1
theorem text_bad {s : Ps} {m : Int} (h : (s.text m).2.bad = false) : s.bad = false ∧ ((s.text m).1.length : Int) ≤ m := by
  have h1 := take_bad (s := (s.upTo m).2) (n := (s.upTo m).1) h
  have h2 := upTo_bad h1.1
  refine ⟨h2.1, ?_⟩
  rw [Ps.text, Ps.take_length]
  exact h2.2

theorem numS_rng (m : Int) (k : Nat) (x : UInt8) : Rng (numS m k x) := by
  have h : ∀ n : Int, Rng (IntKind.i64.wrap n) := fun n => by have := rng_wrap n; rw [IntKind.wrap_i64]; unfold wrap64 at this; exact this
  unfold numS bits
  exact h _
theorem numK_rng (l : List UInt8) (k : Nat) : Rng (numK l k) := by
  cases k with
  | zero => exact ⟨by show (_ : Int) ≤ 0; decide, by show (0 : Int) ≤ _; decide⟩
  | succ k => exact numS_rng _ _ _

/-- A term that may stand at a place. -/
structure FitsT (pl : Nat) (t : Tm) : Prop where
  op : t.op ≤ 23
  num : Rng t.num
  str : t.str.length ≤ 200
  esc : t.esc.length ≤ 1
  sides : 5 ≤ t.op → t.left < pl ∧ t.right < pl

theorem body_fits {s : Ps} {pl op : Nat} (h : (s.body pl op).2.bad = false) : s.bad = false ∧ FitsT pl (s.body pl op).1 := by
  have r0 : Rng 0 := ⟨by decide, by decide⟩
  unfold Ps.body at h ⊢
  by_cases h1 : op = 3 ∨ op = 4
  · rw [if_pos h1] at h ⊢
    dsimp only at h ⊢
    exact ⟨h, by show op ≤ 23; omega, r0, Nat.zero_le _, Nat.zero_le _, fun h5 => by have : 5 ≤ op := h5; omega⟩
  rw [if_neg h1] at h ⊢
  by_cases h2 : op = 1
  · rw [if_pos h2] at h ⊢
    dsimp only at h ⊢
    exact ⟨number_bad h, by show op ≤ 23; omega, numK_rng _ _, Nat.zero_le _, Nat.zero_le _, fun h5 => by have : 5 ≤ op := h5; omega⟩
  rw [if_neg h2] at h ⊢
  by_cases h3 : op = 22
  · rw [if_pos h3] at h ⊢
    dsimp only at h ⊢
    have a := text_bad (s := ((s.upTo ((pl : Int) - 1)).2.text 1).2) (m := 200) h
    have b := text_bad (s := (s.upTo ((pl : Int) - 1)).2) (m := 1) a.1
    have c := upTo_bad (s := s) (m := (pl : Int) - 1) b.1
    refine ⟨c.1, by show op ≤ 23; omega, r0, by have := a.2; dsimp only; omega, by have := b.2; dsimp only; omega, fun _ => ?_⟩
    have := c.2
    exact ⟨by dsimp only; omega, by show 0 < pl; omega⟩
  rw [if_neg h3] at h ⊢
  by_cases h4 : op = 0 ∨ op = 2
  · rw [if_pos h4] at h ⊢
    dsimp only at h ⊢
    have a := text_bad (s := s) (m := 200) h
    exact ⟨a.1, by show op ≤ 23; omega, r0, by have := a.2; dsimp only; omega, Nat.zero_le _, fun h5 => by have : 5 ≤ op := h5; omega⟩
  rw [if_neg h4] at h ⊢
  by_cases h5 : isPair op = true
  · rw [if_pos h5] at h ⊢
    dsimp only at h ⊢
    have a := upTo_bad (s := (s.upTo ((pl : Int) - 1)).2) (m := (pl : Int) - 1) h
    have b := upTo_bad (s := s) (m := (pl : Int) - 1) a.1
    refine ⟨b.1, ?_, r0, Nat.zero_le _, Nat.zero_le _, fun _ => ?_⟩
    · simp [isPair] at h5
      show op ≤ 23
      omega
    · have := a.2
      have := b.2
      exact ⟨by dsimp only; omega, by dsimp only; omega⟩
  rw [if_neg h5] at h ⊢
  by_cases h6 : op = 5 ∨ op = 23
  · rw [if_pos h6] at h ⊢
    dsimp only at h ⊢
    have a := upTo_bad (s := s) (m := (pl : Int) - 1) h
    refine ⟨a.1, by show op ≤ 23; omega, r0, Nat.zero_le _, Nat.zero_le _, fun _ => ?_⟩
    have := a.2
    exact ⟨by dsimp only; omega, by show 0 < pl; omega⟩
  rw [if_neg h6] at h
  simp [failS] at h

theorem term_fits {s : Ps} {pl : Nat} (h : (s.term pl).2.bad = false) : s.bad = false ∧ FitsT pl (s.term pl).1 := by
  have := body_fits h
  exact ⟨next_bad this.1, this.2⟩

theorem termsK_fits {s : Ps} {k : Nat} (h : (termsK s k).2.bad = false) : s.bad = false ∧ ∀ i t, (termsK s k).1[i]? = some t → FitsT i t := by
  induction k with
  | zero => exact ⟨h, fun i t hi => by simp [termsK] at hi⟩
  | succ k ih =>
    have a := term_fits h
    have b := ih a.1
    refine ⟨b.1, fun i t hi => ?_⟩
    rw [termsK] at hi
    have hl := termsK_length s k
    rcases Nat.lt_or_ge i k with hk | hk
    · rw [List.getElem?_append_left (by omega)] at hi
      exact b.2 i t hi
    · have he : i = k := by
        have := (List.getElem?_eq_some_iff.1 hi).1
        rw [List.length_append, List.length_singleton] at this
        omega
      subst he
      rw [List.getElem?_append_right (by omega), hl, Nat.sub_self] at hi
      simp at hi
      subst hi
      exact a.2

theorem rootsK_fits {m : Int} {s : Ps} {k : Nat} (h : (rootsK m s k).2.bad = false) : s.bad = false ∧ ∀ r ∈ (rootsK m s k).1, (r : Int) ≤ m := by
  induction k with
  | zero => exact ⟨h, fun r hr => by simp [rootsK] at hr⟩
  | succ k ih =>
    have a := upTo_bad h
    have b := ih a.1
    refine ⟨b.1, fun r hr => ?_⟩
    rw [rootsK, List.mem_append] at hr
    rcases hr with hr | hr
    · exact b.2 r hr
    · simp at hr
      subst hr
      exact a.2

/-- A program that may be run. -/
structure Prg (ts : List Tm) (rs : List Nat) : Prop where
  terms : ts.length ≤ 80
  roots : rs.length ≤ 8
  fits : ∀ i t, ts[i]? = some t → FitsT i t
  below : ∀ r ∈ rs, r < ts.length

theorem readP_fits {code : List UInt8} (h : (readP code).2.2 = true) : Prg (readP code).1 (readP code).2.1 := by
  have h' : (readQ code).2.bad = false := by
    simp only [readP, Bool.and_eq_true, Bool.not_eq_true'] at h
    exact h.1
  have a := rootsK_fits h'
  have b := termsK_fits a.1
  have c := upTo_bad b.1
  have d := upTo_bad c.1
  have ht : (readP code).1.length = (readH code).1 := termsK_length _ _
  have hr : (readP code).2.1.length = (readI code).1 := rootsK_length _ _ _
  refine ⟨?_, ?_, b.2, fun r hr => ?_⟩
  · have : ((readH code).1 : Int) ≤ 80 := d.2
    omega
  · have : ((readI code).1 : Int) ≤ 8 := c.2
    omega
  · have := a.2 r hr
    omega
end

section
theorem below_kept {rb : Nat} {a w w' : World} (h : Below a.heap.size a w) (hk : Kept rb w w') (hr : a.heap.size ≤ rb) : Below a.heap.size a w' :=
  ⟨hk.os.trans h.os, hk.tape.trans h.tape, hk.output.trans h.output, Nat.le_trans h.size hk.size, fun k hlt => (hk.block k (by have := h.size; omega) (by omega)).trans (h.block k hlt)⟩

/-- The reader, the program that is being read, and its two rows. -/
structure RdL (w wr : World) (rb pb : Nat) (s : Ps) (ts : List Tm) (tv : Value) (rs : List Nat) (rv : Value) : Prop where
  ps : PsAt wr rb s
  c0 : wr.cell? ⟨pb, 0, none⟩ = some tv
  c1 : wr.cell? ⟨pb, 1, none⟩ = some rv
  fz : ∀ j, wr.frozen? ⟨pb, j, none⟩ = false
  lo : rb < pb
  lt : pb < wr.heap.size
  ats : TsAt wr (pb + 1) tv ts
  ars : IsAt wr (pb + 1) rv rs
  ne : ∀ g, tv.ownBlock = some g → rv.ownBlock ≠ some g
  old : w.heap.size ≤ rb
  bel : Below w.heap.size w wr

theorem RdL.kept {w wr w1 : World} {rb pb : Nat} {s s1 : Ps} {ts : List Tm} {tv : Value} {rs : List Nat} {rv : Value} (h : RdL w wr rb pb s ts tv rs rv) (hk : Kept rb wr w1) (hp : PsAt w1 rb s1) : RdL w w1 rb pb s1 ts tv rs rv := by
  have hlo := h.lo
  obtain ⟨hc, hf⟩ := kcell hk
  exact ⟨hp, (hc pb 0 h.lt (by omega)).trans h.c0, (hc pb 1 h.lt (by omega)).trans h.c1, fun j => (hf pb j h.lt (by omega)).trans (h.fz j), hlo, Nat.lt_of_lt_of_le h.lt hk.size,
    ownsRow_keptR h.ats hk (by omega), ownsRow_keptR h.ars hk (by omega), h.ne, h.old, below_kept h.bel hk h.old⟩
theorem RdL.alloc {w wr : World} {rb pb : Nat} {s : Ps} {ts : List Tm} {tv : Value} {rs : List Nat} {rv : Value} (h : RdL w wr rb pb s ts tv rs rv) (o : Obj) : RdL w (wr.alloc o) rb pb s ts tv rs rv :=
  h.kept ((Kept.refl rb wr).alloc o) (h.ps.alloc o)
theorem PsAt.drew {w : World} {rb : Nat} {s : Ps} (h : PsAt w rb s) : PsAt w.drew rb s := h.same h.lt fun _ _ => rfl
theorem Kept.drew' {rb : Nat} {w w1 : World} (h : Kept rb w.drew w1) : Kept rb w w1 := ⟨h.os, h.tape, h.output, h.size, h.block⟩

theorem RdL.addT {w W w2 : World} {rb pb : Nat} {s : Ps} {ts : List Tm} {tv : Value} {rs : List Nat} {rv : Value} (h : RdL w W rb pb s ts tv rs rv) {t : Tm} {g cap H : Nat}
    (hown : w2.ownsRow (pb + 1) 125 6 (.slice (some ⟨g, 0, none⟩) (ts.length + 1) cap) (ts.length + 1) (tmsCells ts ++ tmCells t)) (hgrow : W.grownBy w2 tv.ownBlock) (hat : tv.ownBlock = some g ∨ g = H) (hH : W.heap.size = H) :
    RdL w (w2.setCell ⟨pb, 0, none⟩ (.slice (some ⟨g, 0, none⟩) (ts.length + 1) cap)) rb pb s (ts ++ [t]) (.slice (some ⟨g, 0, none⟩) (ts.length + 1) cap) rs rv := by
  have hlo := h.lo
  have hlt := h.lt
  have hrow : ∀ k, tv.ownBlock = some k → pb + 1 ≤ k := fun k hk => (h.ats.lt k hk).1
  have hz := hgrow.size
  have hb : ∀ k, k ≤ pb → w2.heap[k]? = W.heap[k]? := fun k hk => hgrow.block k (by omega) (fun e => by have := hrow k e.symm; omega)
  have hb' : ∀ k, k < pb → (w2.setCell ⟨pb, 0, none⟩ (.slice (some ⟨g, 0, none⟩) (ts.length + 1) cap)).heap[k]? = W.heap[k]? := fun k hk => (Below.heap_setCell w2 ⟨pb, 0, none⟩ _ k (by show k ≠ pb; omega)).trans (hb k (by omega))
  have c0 : w2.cell? ⟨pb, 0, none⟩ = some tv := (World.cell?_of_block (w := W) (w' := w2) (a := ⟨pb, 0, none⟩) (hb pb (Nat.le_refl _))).trans h.c0
  have c1 : w2.cell? ⟨pb, 1, none⟩ = some rv := (World.cell?_of_block (w := W) (w' := w2) (a := ⟨pb, 1, none⟩) (hb pb (Nat.le_refl _))).trans h.c1
  have fz : ∀ j, w2.frozen? ⟨pb, j, none⟩ = false := fun j => (World.frozen?_of_block (w := W) (w' := w2) (a := ⟨pb, j, none⟩) (hb pb (Nat.le_refl _))).trans (h.fz j)
  refine ⟨h.ps.same (by simp; omega) fun k hk => hb' k (by omega), by simp [go_sem, c0], by simp [go_sem, c1], fun j => by simp [go_sem, fz], hlo, by simp; omega, ?_, ?_, ?_, h.old, ?_⟩
  · show World.ownsRow _ _ _ _ _ _ _
    rw [List.length_append, List.length_singleton, tmsCells, List.flatMap_append, List.flatMap_singleton]
    exact ownsRow_setCell_below hown (by show pb < pb + 1; omega) _
  · refine ownsRow_same h.ars fun g' hg' => ?_
    have hl := h.ars.lt g' hg'
    rw [Below.heap_setCell w2 ⟨pb, 0, none⟩ _ g' (by show g' ≠ pb; omega)]
    exact hgrow.block g' hl.2 (fun e => h.ne g' e.symm hg')
  · intro g0 hg0 hr
    have he : g = g0 := by simpa [Value.ownBlock] using hg0
    subst he
    rcases hat with hat | hat
    · exact h.ne g hat hr
    · have := (h.ars.lt g hr).2
      omega
  · exact ⟨(hgrow.os.trans h.bel.os), (hgrow.tape.trans h.bel.tape), (hgrow.output.trans h.bel.output), by have := h.bel.size; simp; omega, fun k hk => (hb' k (by have := h.old; omega)).trans (h.bel.block k hk)⟩

theorem RdL.addR {w W w2 : World} {rb pb : Nat} {s : Ps} {ts : List Tm} {tv : Value} {rs : List Nat} {rv : Value} (h : RdL w W rb pb s ts tv rs rv) {t : Nat} {g cap H : Nat}
    (hown : w2.ownsRow (pb + 1) 3 1 (.slice (some ⟨g, 0, none⟩) (rs.length + 1) cap) (rs.length + 1) (intCells rs ++ [.int .i64 t])) (hgrow : W.grownBy w2 rv.ownBlock) (hat : rv.ownBlock = some g ∨ g = H) (hH : W.heap.size = H) :
    RdL w (w2.setCell ⟨pb, 1, none⟩ (.slice (some ⟨g, 0, none⟩) (rs.length + 1) cap)) rb pb s ts tv (rs ++ [t]) (.slice (some ⟨g, 0, none⟩) (rs.length + 1) cap) := by
  have hlo := h.lo
  have hlt := h.lt
  have hrow : ∀ k, rv.ownBlock = some k → pb + 1 ≤ k := fun k hk => (h.ars.lt k hk).1
  have hz := hgrow.size
  have hb : ∀ k, k ≤ pb → w2.heap[k]? = W.heap[k]? := fun k hk => hgrow.block k (by omega) (fun e => by have := hrow k e.symm; omega)
  have hb' : ∀ k, k < pb → (w2.setCell ⟨pb, 1, none⟩ (.slice (some ⟨g, 0, none⟩) (rs.length + 1) cap)).heap[k]? = W.heap[k]? := fun k hk => (Below.heap_setCell w2 ⟨pb, 1, none⟩ _ k (by show k ≠ pb; omega)).trans (hb k (by omega))
  have c0 : w2.cell? ⟨pb, 0, none⟩ = some tv := (World.cell?_of_block (w := W) (w' := w2) (a := ⟨pb, 0, none⟩) (hb pb (Nat.le_refl _))).trans h.c0
  have c1 : w2.cell? ⟨pb, 1, none⟩ = some rv := (World.cell?_of_block (w := W) (w' := w2) (a := ⟨pb, 1, none⟩) (hb pb (Nat.le_refl _))).trans h.c1
  have fz : ∀ j, w2.frozen? ⟨pb, j, none⟩ = false := fun j => (World.frozen?_of_block (w := W) (w' := w2) (a := ⟨pb, j, none⟩) (hb pb (Nat.le_refl _))).trans (h.fz j)
  refine ⟨h.ps.same (by simp; omega) fun k hk => hb' k (by omega), by simp [go_sem, c0], by simp [go_sem, c1], fun j => by simp [go_sem, fz], hlo, by simp; omega, ?_, ?_, ?_, h.old, ?_⟩
  · refine ownsRow_same h.ats fun g' hg' => ?_
    have hl := h.ats.lt g' hg'
    rw [Below.heap_setCell w2 ⟨pb, 1, none⟩ _ g' (by show g' ≠ pb; omega)]
    exact hgrow.block g' hl.2 (fun e => h.ne g' hg' e.symm)
  · show World.ownsRow _ _ _ _ _ _ _
    rw [List.length_append, List.length_singleton, intCells, List.map_append]
    exact ownsRow_setCell_below hown (by show pb < pb + 1; omega) _
  · intro g0 hg0 hr
    have he : g = g0 := by simpa [Value.ownBlock] using hr
    subst he
    rcases hat with hat | hat
    · exact h.ne g hg0 hat
    · have := (h.ats.lt g hg0).2
      omega
  · exact ⟨(hgrow.os.trans h.bel.os), (hgrow.tape.trans h.bel.tape), (hgrow.output.trans h.bel.output), by have := h.bel.size; simp; omega, fun k hk => (hb' k (by have := h.old; omega)).trans (h.bel.block k hk)⟩

/-- Behind an append the program's own block is as it was. -/
theorem RdL.far {w W w2 : World} {rb pb : Nat} {s : Ps} {ts : List Tm} {tv : Value} {rs : List Nat} {rv : Value} (h : RdL w W rb pb s ts tv rs rv) {row : Option Nat} (hg : W.grownBy w2 row) (hr : row = tv.ownBlock ∨ row = rv.ownBlock) :
    w2.cell? ⟨pb, 0, none⟩ = some tv ∧ w2.cell? ⟨pb, 1, none⟩ = some rv ∧ (∀ j, w2.frozen? ⟨pb, j, none⟩ = false) ∧ pb < w2.heap.size := by
  have hrow : ∀ k, row = some k → pb + 1 ≤ k := fun k hk => by
    rcases hr with rfl | rfl
    · exact (h.ats.lt k hk).1
    · exact (h.ars.lt k hk).1
  have hb : w2.heap[pb]? = W.heap[pb]? := hg.block pb h.lt (fun e => by have := hrow pb e.symm; omega)
  exact ⟨(World.cell?_of_block (w := W) (w' := w2) (a := ⟨pb, 0, none⟩) hb).trans h.c0, (World.cell?_of_block (w := W) (w' := w2) (a := ⟨pb, 1, none⟩) hb).trans h.c1, fun j => (World.frozen?_of_block (w := W) (w' := w2) (a := ⟨pb, j, none⟩) hb).trans (h.fz j), Nat.lt_of_lt_of_le h.lt hg.size⟩

/-- An append, kept whole for the walk. -/
def appSem (ats : Array TypeId) (ty : TypeId) (args : Array Value) : Sem Value := Builtin.append_ ats ty args
theorem app_fold (ats : Array TypeId) (ty : TypeId) (args : Array Value) : Builtin.append_ ats ty args = appSem ats ty args := rfl

/-- A term is appended. -/
theorem RdL.appT {w W : World} {rb pb : Nat} {s : Ps} {ts : List Tm} {tv : Value} {rs : List Nat} {rv : Value} (h : RdL w W rb pb s ts tv rs rv) (t : Tm) (hn : ts.length ≤ 1000) (ty : TypeId) :
    ∃ g cap w5, (appSem #[114, 114] ty #[tv, .slice (some ⟨W.heap.size, 0, none⟩) 1 1]).run Tryz.prog (W.alloc (.cells #[.int .i64 t.op, .int .i64 t.left, .int .i64 t.right, .int .i64 t.num, .string (BS t.str), .string (BS t.esc)] 125)) = .ok (.slice (some ⟨g, 0, none⟩) (ts.length + 1) cap) w5 ∧
      w5.cell? ⟨pb, 0, none⟩ = some tv ∧ (∀ j, w5.frozen? ⟨pb, j, none⟩ = false) ∧ pb < w5.heap.size ∧
      Hid (RdL w (w5.setCell ⟨pb, 0, none⟩ (.slice (some ⟨g, 0, none⟩) (ts.length + 1) cap)) rb pb s (ts ++ [t]) (.slice (some ⟨g, 0, none⟩) (ts.length + 1) cap) rs rv) := by
  obtain ⟨i0, hi, hz0, hz1, hz2⟩ := info_parts info_term
  have ha := h.alloc (.cells #[.int .i64 t.op, .int .i64 t.left, .int .i64 t.right, .int .i64 t.num, .string (BS t.str), .string (BS t.esc)] 125)
  have hlt := h.lt
  obtain ⟨g, cap, w5, hr, hown, hgrow, hat, _⟩ := run_append_lies (P := Tryz.prog) (W.alloc (.cells #[.int .i64 t.op, .int .i64 t.left, .int .i64 t.right, .int .i64 t.num, .string (BS t.str), .string (BS t.esc)] 125)) 114 ty (pb + 1) 125 i0 _ 6 64 Tryz.underlying114 hi hz0 hz1 hz2 rfl (by omega) tv ts.length (tmsCells ts) ha.ats
    ⟨W.heap.size, 0, none⟩ 1 1 (tmCells t) rfl (World.news_of_block (cs := #[.int .i64 t.op, .int .i64 t.left, .int .i64 t.right, .int .i64 t.num, .string (BS t.str), .string (BS t.esc)]) (t := 125) (fr := (0, 0)) (heap_alloc_new W _)) (by simp [tmCells, Value.oneCell']) (by omega) (by unfold maxLen; omega) (by omega) (by simp; omega) _ rfl
  obtain ⟨c5, _, f5, lt5⟩ := ha.far hgrow (.inl rfl)
  exact ⟨g, cap, w5, hr, c5, f5, lt5, hide (ha.addT hown hgrow hat rfl)⟩

/-- A root is appended. -/
theorem RdL.appR {w W : World} {rb pb : Nat} {s : Ps} {ts : List Tm} {tv : Value} {rs : List Nat} {rv : Value} (h : RdL w W rb pb s ts tv rs rv) (r : Nat) (hn : rs.length ≤ 1000) (ty : TypeId) :
    ∃ g cap w5, (appSem #[52, 52] ty #[rv, .slice (some ⟨W.heap.size, 0, none⟩) 1 1]).run Tryz.prog (W.alloc (.cells #[.int .i64 r] 3)) = .ok (.slice (some ⟨g, 0, none⟩) (rs.length + 1) cap) w5 ∧
      w5.cell? ⟨pb, 1, none⟩ = some rv ∧ (∀ j, w5.frozen? ⟨pb, j, none⟩ = false) ∧ pb < w5.heap.size ∧
      Hid (RdL w (w5.setCell ⟨pb, 1, none⟩ (.slice (some ⟨g, 0, none⟩) (rs.length + 1) cap)) rb pb s ts tv (rs ++ [r]) (.slice (some ⟨g, 0, none⟩) (rs.length + 1) cap)) := by
  obtain ⟨i0, hi, hz0, hz1, hz2⟩ := info_parts info_intg
  have ha := h.alloc (.cells #[.int .i64 r] 3)
  have hlt := h.lt
  obtain ⟨g, cap, w5, hr, hown, hgrow, hat, _⟩ := run_append_lies (P := Tryz.prog) (W.alloc (.cells #[.int .i64 r] 3)) 52 ty (pb + 1) 3 i0 _ 1 8 Tryz.underlying52 hi hz0 hz1 hz2 rfl (by omega) rv rs.length (intCells rs) ha.ars
    ⟨W.heap.size, 0, none⟩ 1 1 [.int .i64 r] rfl (World.news_of_block (cs := #[.int .i64 r]) (t := 3) (fr := (0, 0)) (heap_alloc_new W _)) (by simp [Value.oneCell']) (by omega) (by unfold maxLen; omega) (by omega) (by simp; omega) _ rfl
  obtain ⟨_, c5, f5, lt5⟩ := ha.far hgrow (.inr rfl)
  exact ⟨g, cap, w5, hr, c5, f5, lt5, hide (ha.addR hown hgrow hat rfl)⟩

/-- A program in memory, to be read: its two rows, below block hi. -/
structure ProgAt (w : World) (pb o : Nat) (ts : List Tm) (rs : List Nat) : Prop where
  lt : pb < w.heap.size
  c0 : ∃ tv base, w.cell? ⟨pb, o, none⟩ = some tv ∧ TsAt w base tv ts
  c1 : ∃ rv base, w.cell? ⟨pb, o + 1, none⟩ = some rv ∧ IsAt w base rv rs

theorem ProgAt.below {w w' : World} {pb o : Nat} {ts : List Tm} {rs : List Nat} (h : ProgAt w pb o ts rs) (hb : Below w.heap.size w w') : ProgAt w' pb o ts rs := by
  obtain ⟨hl, ⟨tv, b0, h0, h0'⟩, rv, b1, h1, h1'⟩ := h
  exact ⟨Nat.lt_of_lt_of_le hl hb.size, ⟨tv, b0, (hb.cell hl).trans h0, ownsRow_below h0' hb (Nat.le_refl _)⟩, rv, b1, (hb.cell hl).trans h1, ownsRow_below h1' hb (Nat.le_refl _)⟩

theorem RdL.prog {w wr : World} {rb pb : Nat} {s : Ps} {ts : List Tm} {tv : Value} {rs : List Nat} {rv : Value} (h : RdL w wr rb pb s ts tv rs rv) : ProgAt wr pb 0 ts rs :=
  ⟨h.lt, ⟨tv, _, h.c0, h.ats⟩, rv, _, h.c1, h.ars⟩
end

section
attribute [local go_sem ↓] app_fold

theorem PsAt.new {w : World} {v : Value} {l : List UInt8} (h : BytesAt w w.heap.size v l) (ty : TypeId) : PsAt (w.alloc (.cells #[v, .bool false] ty)) w.heap.size ⟨l, false⟩ := by
  obtain ⟨a, c, rfl, hc, hx⟩ := h
  refine ⟨by simp, ⟨.slice a l.length c, by simp [go_sem], a, c, rfl, hc, fun i x hi => ?_⟩, by simp [go_sem], fun j => by simp [go_sem]⟩
  obtain ⟨b, o, ha, hb, hcell⟩ := hx i x hi
  exact ⟨b, o, ha, hb, ((((Below.refl w.heap.size w).alloc (Nat.le_refl _) _).cell (p := ⟨b, o + i, none⟩) hb)).trans hcell⟩

/-- The program's own block is made. -/
theorem RdL.start {w w2 : World} {rb : Nat} {s : Ps} (hp : PsAt w2 rb s) (hr : w.heap.size ≤ rb) (hb : Below w.heap.size w w2) (ty : TypeId) : RdL w (w2.alloc (.cells #[.slice none 0 0, .slice none 0 0] ty)) rb w2.heap.size s [] (.slice none 0 0) [] (.slice none 0 0) := by
  refine ⟨hp.alloc _, by simp [go_sem], by simp [go_sem], fun j => by simp [go_sem], hp.lt, by simp, TsAt.nil _ _, IsAt.nil _ _, fun g hg => by simp [Value.ownBlock] at hg, hr, hb.alloc hb.size _⟩

/-- How Read ends. -/
def PrdEnds (w : World) (r : List Tm × List Nat × Bool) (e : Ending) (w' : World) : Prop :=
  ∃ pb, e = .returned (.tuple #[.pointer (some ⟨pb, 0, none⟩), .bool r.2.2]) ∧ ProgAt w' pb 0 r.1 r.2.1 ∧ Below w.heap.size w w'

set_option maxHeartbeats 2000000 in
set_option maxRecDepth 100000 in
theorem pread_any (code : List UInt8) (cv : Value) (w : World) (h : BytesAt w w.heap.size cv code) :
    Calls Tryz.prog 42 #[cv] w (PrdEnds w (readP code)) := by
  obtain ⟨i0, hi, hz0, hz1, hz2⟩ := info_parts info_term
  obtain ⟨i1, hj, hy0, hy1, hy2⟩ := info_parts info_intg
  have HP : Hid (∀ ty, PsAt (w.alloc (.cells #[cv, .bool false] ty)) w.heap.size ⟨code, false⟩) := hide fun ty => PsAt.new h ty
  obtain ⟨a, c, rfl, hc, hx⟩ := h
  clear hx hc
  obtain ⟨HH, eH⟩ : ∃ x, Ps.upTo ⟨code, false⟩ 80 = x := ⟨_, rfl⟩
  have T1 := hide (fun w1 h1 => pupTo_any w.heap.size ⟨code, false⟩ 80 w1 h1)
  have hN := Ps.upTo_le ⟨code, false⟩ 80
  rw [eH] at T1 hN
  obtain ⟨N, s1⟩ := HH
  obtain ⟨II, eI⟩ : ∃ x, Ps.upTo s1 8 = x := ⟨_, rfl⟩
  have T2 := hide (fun w1 h1 => pupTo_any w.heap.size s1 8 w1 h1)
  have hM := Ps.upTo_le s1 8
  rw [eI] at T2 hM
  obtain ⟨M, s2⟩ := II
  have ER : Hid (readP code = ((termsK s2 N).1, (rootsK ((N : Int) - 1) (termsK s2 N).2 M).1, !(rootsK ((N : Int) - 1) (termsK s2 N).2 M).2.bad && ((rootsK ((N : Int) - 1) (termsK s2 N).2 M).2.rest.length == 0))) := hide (by
    have e1 : readH code = (N, s1) := eH
    have e2 : readI code = (M, s2) := by rw [readI, e1]; exact eI
    have e3 : readT code = termsK s2 N := by rw [readT, e1, e2]
    have e4 : readQ code = rootsK ((N : Int) - 1) (termsK s2 N).2 M := by rw [readQ, e1, e2, e3]
    rw [readP, e3, e4])
  generalize readP code = RR at ER ⊢
  clear eH eI
  simp only at T1 T2 hN hM
  go_enter Tryz.func42, Tryz.ntmps42
  go_wp2_with (first | (go_at_call 72; refine (unhide T2 _ (unhide hp1)).mono ?_; rintro e w2 ⟨rfl, hp2, hk2⟩; have K2 : Hid (Below w.heap.size w w2) := hide (below_kept (unhide K1) hk2 (Nat.le_refl _)); have R0 : Hid (∀ ty, RdL w (w2.alloc (.cells #[.slice none 0 0, .slice none 0 0] ty)) w.heap.size w2.heap.size s2 [] (.slice none 0 0) [] (.slice none 0 0)) := hide (fun ty => RdL.start hp2 (Nat.le_refl _) (unhide K2) ty); clear hk2 hp2) | (go_at_call 72; refine (unhide T1 _ (unhide HP _)).mono ?_; rintro e w1 ⟨rfl, hp1, hk1⟩; have hp1 := hide hp1; have K1 : Hid (Below w.heap.size w w1) := hide (below_kept ((Below.refl _ _).alloc (Nat.le_refl _) _) hk1 (Nat.le_refl _)); clear hk1))
  go_loopw [16] (fun i wr => ∃ (k : Nat) (tv : Value), k ≤ N ∧ i = .int .i64 k ∧ Hid (RdL w wr w.heap.size w2.heap.size (termsK s2 k).2 (termsK s2 k).1 tv [] (.slice none 0 0))) (fun i _ => N - (intOf i).toNat)
  case atStart => exact ⟨0, _, Nat.zero_le _, rfl, unhide R0 _⟩
  case round =>
    obtain ⟨k, tv, hk, rfl, HL⟩ := hrel
    by_cases hlt : k < N
    · have hS : Hid (termsK s2 (k + 1) = ((termsK s2 k).1 ++ [((termsK s2 k).2.term k).1], ((termsK s2 k).2.term k).2)) := hide rfl
      have hL : (termsK s2 k).1.length = k := termsK_length _ _
      obtain ⟨X, hX⟩ : ∃ x, termsK s2 k = x := ⟨_, rfl⟩
      rw [hX] at HL hS hL
      obtain ⟨ts, s3⟩ := X
      obtain ⟨t, ht⟩ : ∃ t, s3.term k = t := ⟨_, rfl⟩
      simp only at HL hS hL
      rw [ht] at hS
      have TM : Hid (∀ w1, PsAt w1 w.heap.size s3 → Calls Tryz.prog 73 #[.pointer (some ⟨w.heap.size, 0, none⟩), .int .i64 k] w1 (TermEnds w.heap.size w1 t)) := hide (fun w1 h1 => ht ▸ pterm_any _ s3 k w1 h1 (by omega))
      clear ht hX
      obtain ⟨t, s4⟩ := t
      have c0 := (unhide HL).c0
      have fz := (unhide HL).fz
      have lt0 := (unhide HL).lt
      go_wp2_with fail
      go_region_with (go_at_call 73; refine (unhide TM _ (unhide HL).ps.drew).mono ?_; rintro e w4 ⟨rfl, hp4, hk4⟩; have HL4 := hide ((unhide HL).kept hk4.drew' hp4); have c4 := (unhide HL4).c0; have f4 := (unhide HL4).fz; have lt4 := (unhide HL4).lt; clear hk4 hp4; obtain ⟨g, cap, w5, hap, c5, f5, lt5, HL5⟩ := (unhide HL4).appT t (by omega) 114; rw [hL] at hap HL5; simp only [tmV])
      all_goals go_wp2_with fail
      all_goals exact ⟨⟨k + 1, _, by omega, rfl, hide (by rw [unhide hS]; exact unhide HL5)⟩, by simp [intOf]; omega⟩
    · have : k = N := by omega
      subst this
      obtain ⟨X, hX⟩ : ∃ x, termsK s2 k = x := ⟨_, rfl⟩
      rw [hX] at HL ER
      obtain ⟨ts, s3⟩ := X
      simp only at HL ER
      clear hX
      go_wp2_with fail
      go_loopw [32] (fun i wr => ∃ (j : Nat) (rv : Value), j ≤ M ∧ i = .int .i64 j ∧ Hid (RdL w wr w.heap.size w2.heap.size (rootsK ((k : Int) - 1) s3 j).2 ts tv (rootsK ((k : Int) - 1) s3 j).1 rv)) (fun i _ => M - (intOf i).toNat)
      case atStart => exact ⟨0, _, Nat.zero_le _, rfl, HL⟩
      case round =>
        obtain ⟨j, rv, hj', rfl, HR⟩ := hrel
        by_cases hlt2 : j < M
        · have hS : Hid (rootsK ((k : Int) - 1) s3 (j + 1) = ((rootsK ((k : Int) - 1) s3 j).1 ++ [((rootsK ((k : Int) - 1) s3 j).2.upTo ((k : Int) - 1)).1], ((rootsK ((k : Int) - 1) s3 j).2.upTo ((k : Int) - 1)).2)) := hide rfl
          have hL : (rootsK ((k : Int) - 1) s3 j).1.length = j := rootsK_length _ _ _
          obtain ⟨X, hX⟩ : ∃ x, rootsK ((k : Int) - 1) s3 j = x := ⟨_, rfl⟩
          rw [hX] at HR hS hL
          obtain ⟨rs, s4⟩ := X
          simp only at HR hS hL
          obtain ⟨Y, hY⟩ : ∃ x, s4.upTo ((k : Int) - 1) = x := ⟨_, rfl⟩
          have TU := hide (fun w1 h1 => pupTo_any w.heap.size s4 ((k : Int) - 1) w1 h1)
          rw [hY] at hS TU
          obtain ⟨r, s5⟩ := Y
          simp only at hS TU
          clear hX hY
          have hwr : IntKind.i64.wrap ((k : Int) - 1) = (k : Int) - 1 := by rw [IntKind.wrap_i64]; omega
          have c1 := (unhide HR).c1
          have fz := (unhide HR).fz
          have lt0 := (unhide HR).lt
          go_wp2_with fail
          go_region_with (go_at_call 72; refine (unhide TU _ (unhide HR).ps.drew).mono ?_; rintro e w4 ⟨rfl, hp4, hk4⟩; have HR4 := hide ((unhide HR).kept hk4.drew' hp4); have c4 := (unhide HR4).c1; have f4 := (unhide HR4).fz; have lt4 := (unhide HR4).lt; clear hk4 hp4; obtain ⟨g, cap, w5, hap, c5, f5, lt5, HR5⟩ := (unhide HR4).appR r (by omega) 52; rw [hL] at hap HR5)
          all_goals go_wp2_with fail
          all_goals exact ⟨⟨j + 1, _, by omega, rfl, hide (by rw [unhide hS]; exact unhide HR5)⟩, by simp [intOf]; omega⟩
        · have : j = M := by omega
          subst this
          obtain ⟨X, hX⟩ : ∃ x, rootsK ((k : Int) - 1) s3 j = x := ⟨_, rfl⟩
          rw [hX] at HR ER
          obtain ⟨rs, s4⟩ := X
          simp only at HR ER
          clear hX
          obtain ⟨v0, p0, hv0⟩ := (unhide HR).ps.c0
          have p1 := (unhide HR).ps.c1
          obtain ⟨a', c', rfl, hc', _⟩ := hv0
          have HP' := hide (unhide HR).prog
          have HB' := hide (unhide HR).bel
          clear HR HL HP T1 T2 R0 K1 K2
          cases hb : s4.bad with
          | true =>
            rw [hb] at p1 ER
            go_wp2_with fail
            go_region
            all_goals go_wp2_with fail
            all_goals go_ret2
            all_goals exact ⟨_, by rw [unhide ER]; rfl, by rw [unhide ER]; exact (unhide HP').below (Below.refl _ _).drew, (unhide HB').drew⟩
          | false =>
            rw [hb] at p1 ER
            by_cases hz : s4.rest.length = 0
            · rw [hz] at p0 ER
              go_wp2_with fail
              go_region
              all_goals go_wp2_with fail
              all_goals go_ret2
              all_goals exact ⟨_, by rw [unhide ER]; rfl, by rw [unhide ER]; exact (unhide HP').below (Below.refl _ _).drew, (unhide HB').drew⟩
            · have hz' : ((s4.rest.length : Int) == 0) = false := beq_eq_false_iff_ne.2 (by omega)
              have hz'' : (s4.rest.length == 0) = false := beq_eq_false_iff_ne.2 hz
              rw [hz''] at ER
              go_wp2_with fail
              go_region
              all_goals go_wp2_with fail
              all_goals go_ret2
              all_goals exact ⟨_, by rw [unhide ER]; rfl, by rw [unhide ER]; exact (unhide HP').below (Below.refl _ _).drew, (unhide HB').drew⟩
end

end Go.Proofs.YtfkcaldjphakpaaGreatDoor
