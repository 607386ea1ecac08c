/- Terms as the keys of a map: each stands for itself. A maker in memory. NewMaker, Terms; place of nothing. What place does to a maker, step by step. place of a term of a core, whatever its sides. place of every core; Add. -/
import Derived.Test.YtfkcaldjphakpabGreatDoorT22
import Derived.Maps.OwnSet
import Derived.DeepKeys4
import Derived.Test.YtfkcaldjphakpabGreatDoorT27
import Derived.Test.YtfkcaldjphakpabGreatDoorT16
import Derived.Deep.RegionHeld3
import Derived.Deep.QuietTactic
import Derived.BigQuiet
import Derived.Deep.RegionWith
namespace Go.Proofs.YtfkcaldjphakpabGreatDoor
open Go.RowKit
section
open Go.Maps (Keyed)
theorem laidOut : laidOutB Tryz.prog = true := by kernel_rfl
theorem termRow : (142 : TypeId) < Tryz.prog.types.size := of_decide_eq_true (by kernel_rfl)
theorem termKeyAt : Tryz.prog.keyTypeAt 3 142 = true := by kernel_rfl
theorem vm2 : Keyed Tryz.prog 142 := Keyed.of_law (deep_law_laid laidOut (m := 3) (Nat.le_of_ble_eq_true rfl) termRow termKeyAt (by rw [Tryz.underlying142]))
theorem termKey : Tryz.prog.keyType 142 = true := by kernel_rfl
theorem jb1 : Tryz.prog.cellsOf 142 = 6 := by kernel_rfl
theorem cellsOp : Tryz.prog.cellsOf 106 = 1 := by kernel_rfl
theorem jg6 : Tryz.prog.cellsOf 3 = 1 := by kernel_rfl
theorem jr0 : Tryz.prog.cellsOf 2 = 1 := by kernel_rfl
theorem jd1 : Tryz.prog.cellsOf 9 = 1 := by kernel_rfl
structure HoldT (t : Tm) : Prop where
  op : Rng t.op
  left : Rng t.left
  right : Rng t.right
  num : Rng t.num
  str : t.str.length ≤ 1000
  esc : t.esc.length ≤ 1000
def litsT (t : Tm) : List Lit := [.int .i64 t.op, .int .i64 t.left, .int .i64 t.right, .int .i64 t.num, .string t.str, .string t.esc]
def klT (t : Tm) : Lit := .string (keyBytes (litsT t))
theorem wfRng {n : Int} (h : Rng n) : (Lit.int .i64 n).wf = true := WalkArith.wf_i64 h
theorem qt8 {d : Nat} {ty : TypeId} (hu : Tryz.prog.underlying ty = some (.int .i64)) {n : Int} (h : Rng n) : Tryz.prog.keyLits (d + 1) ty [.int .i64 n] = some [.int .i64 n] := by
  unfold Program.keyLits
  rw [hu]
  simp [wfRng h]
theorem vi5 {d : Nat} {ty : TypeId} (hu : Tryz.prog.underlying ty = some .string) {l : List UInt8} (h : l.length ≤ 1000) : Tryz.prog.keyLits (d + 1) ty [.string (BS l)] = some [.string l] := by
  unfold Program.keyLits
  rw [hu]
  have : (BS l).size ≤ maxLen := by rw [qc0]; unfold maxLen; omega
  simp [this, qp9]
theorem qk2 {t : Tm} (h : HoldT t) : keyOf Tryz.prog 142 (tmV t) = some (klT t) := by
  obtain ⟨d, hd⟩ : ∃ d, Tryz.prog.types.size + 1 = d + 1 + 1 := ⟨Tryz.prog.types.size - 1, by have : 0 < Tryz.prog.types.size := Nat.lt_of_le_of_lt (Nat.zero_le _) termRow; omega⟩
  have h0 := qt8 (d := d) Tryz.underlying106 h.op
  have h1 := qt8 (d := d) Tryz.underlying3 h.left
  have h2 := qt8 (d := d) Tryz.underlying3 h.right
  have h3 := qt8 (d := d) Tryz.underlying2 h.num
  have h4 := vi5 (d := d) Tryz.underlying9 h.str
  have h5 := vi5 (d := d) Tryz.underlying9 h.esc
  have hl : Tryz.prog.keyLits (Tryz.prog.types.size + 1) 142 (tmV t).cells.toList = some (litsT t) := by
    rw [hd]
    unfold Program.keyLits
    rw [Tryz.underlying142]
    have hc : (tmV t).cells.toList = [.int .i64 t.op, .int .i64 t.left, .int .i64 t.right, .int .i64 t.num, .string (BS t.str), .string (BS t.esc)] := rfl
    simp [hc, jb1, cellsOp, jg6, jr0, jd1, h0, h1, h2, h3, h4, h5, litsT, List.mapM_cons, List.mapM_nil]
  have hf : (tmV t).formed Tryz.prog 142 = true := by simp [tmV, Value.formed, Tryz.underlying142, jb1]
  unfold keyOf
  rw [Tryz.underlying142]
  simp only [termKey, hf, Bool.and_self, if_true, hl]
  rfl
theorem tmV_inj {t u : Tm} (h : tmV t = tmV u) : t = u := by
  obtain ⟨a, b, c, d, e, f⟩ := t
  obtain ⟨a', b', c', d', e', f'⟩ := u
  simp [tmV] at h
  obtain ⟨h0, h1, h2, h3, h4, h5⟩ := h
  have e4 : e = e' := by have := congrArg (fun x => x.data.toList) h4; simpa [qp9] using this
  have e5 : f = f' := by have := congrArg (fun x => x.data.toList) h5; simpa [qp9] using this
  subst e4 e5
  simp
  omega
theorem klT_ne {t u : Tm} (ht : HoldT t) (hu : HoldT u) (h : t ≠ u) : klT t ≠ klT u := fun e => h (tmV_inj (vm2.inj (qk2 ht) (e ▸ qk2 hu)))
def sameT (t u : Tm) : Bool := t.op == u.op && t.left == u.left && t.right == u.right && t.num == u.num && t.str == u.str && t.esc == u.esc
theorem vb6 (t u : Tm) : sameT t u = true ↔ t = u := by
  obtain ⟨a, b, c, d, e, f⟩ := t
  obtain ⟨a', b', c', d', e', f'⟩ := u
  simp [sameT, and_assoc]
def qh8 (ts : List Tm) (t : Tm) : Option Nat := ts.findIdx? fun u => sameT u t
theorem qv2 {ts : List Tm} {t : Tm} (h : qh8 ts t = none) : qh8 (ts ++ [t]) t = some ts.length := by
  unfold qh8 at h ⊢
  rw [List.findIdx?_append, h]
  simp [(vb6 t t).2 rfl]
theorem qt1 {ts : List Tm} {t u : Tm} (h : t ≠ u) : qh8 (ts ++ [u]) t = qh8 ts t := by
  unfold qh8
  have : sameT u t = false := by
    cases hs : sameT u t with
    | false => rfl
    | true => exact absurd ((vb6 u t).1 hs).symm h
  rw [List.findIdx?_append]
  simp [this]
structure MapIs (D : DataW Unit) (ts : List Tm) : Prop where
  map : Maps.IsMap D
  at' : ∀ t, HoldT t → ∀ i, qh8 ts t = some i → Maps.has D (klT t) = true ∧ D.atKey (klT t) (.lit (.int .i64 0)) = .lit (.int .i64 i)
  no : ∀ t, HoldT t → qh8 ts t = none → Maps.has D (klT t) = false
theorem MapIs.empty : MapIs (.map []) [] := ⟨Maps.isMap_empty, fun t _ i h => by simp [qh8] at h, fun t _ _ => rfl⟩
theorem MapIs.add {D : DataW Unit} {ts : List Tm} {t : Tm} (h : MapIs D ts) (ht : HoldT t) (hn : qh8 ts t = none) : MapIs (D.put (klT t) (.lit (.int .i64 ts.length))) (ts ++ [t]) := by
  have hk : WideAt.IsKeyLit (klT t) := vm2.key (qk2 ht)
  refine ⟨h.map.put _ _, fun u hu i hi => ?_, fun u hu hw => ?_⟩
  · by_cases he : u = t
    · subst he
      rw [qv2 hn] at hi
      simp at hi
      subst hi
      exact ⟨Maps.has_put_same h.map hk _, Maps.atKey_put_same h.map hk _ _⟩
    · rw [qt1 he] at hi
      have := h.at' u hu i hi
      rw [Maps.has_put_other (klT_ne hu ht he), Maps.atKey_put_other (klT_ne hu ht he)]
      exact this
  · by_cases he : u = t
    · subst he
      rw [qv2 hn] at hw
      simp at hw
    · rw [qt1 he] at hw
      rw [Maps.has_put_other (klT_ne hu ht he)]
      exact h.no u hu hw
end
section
def qy3 (p : CP) (l r : Nat) : Tm := ⟨p.op.toNat, l, r, p.num, p.str, p.esc⟩
def vc7 (ts : List Tm) (t : Tm) : List Tm × Nat := match qh8 ts t with
  | some i => (ts, i)
  | none => (ts ++ [t], ts.length)
def j9 : List Tm → Co → List Tm × Nat
  | ts, .leaf p => vc7 ts (qy3 p 0 0)
  | ts, .un p x => vc7 (j9 ts x).1 (qy3 p (j9 ts x).2 0)
  | ts, .bin p x y => vc7 (j9 (j9 ts x).1 y).1 (qy3 p (j9 ts x).2 (j9 (j9 ts x).1 y).2)
def qs1 : Co → Nat
  | .leaf _ => 1
  | .un _ x => qs1 x + 1
  | .bin _ x y => qs1 x + qs1 y + 1
structure GoodP (p : CP) : Prop where
  op : 0 ≤ p.op ∧ p.op ≤ 23
  num : Rng p.num
  str : p.str.length ≤ 1000
  esc : p.esc.length ≤ 1000
def vf3 : Co → Prop
  | .leaf p => GoodP p
  | .un p x => GoodP p ∧ vf3 x
  | .bin p x y => GoodP p ∧ vf3 x ∧ vf3 y
theorem whereT_lt {ts : List Tm} {t : Tm} {i : Nat} (h : qh8 ts t = some i) : i < ts.length := by
  unfold qh8 at h
  obtain ⟨h1, _⟩ := List.findIdx?_eq_some_iff_getElem.1 h
  exact h1
theorem vu7 (ts : List Tm) (t : Tm) : ts.length ≤ (vc7 ts t).1.length ∧ (vc7 ts t).1.length ≤ ts.length + 1 ∧ (vc7 ts t).2 < (vc7 ts t).1.length := by
  unfold vc7
  split
  · rename_i i h
    exact ⟨Nat.le_refl _, Nat.le_succ _, whereT_lt h⟩
  · simp
theorem qp7 (ts : List Tm) (c : Co) : ts.length ≤ (j9 ts c).1.length ∧ (j9 ts c).1.length ≤ ts.length + qs1 c ∧ (j9 ts c).2 < (j9 ts c).1.length := by
  induction c generalizing ts with
  | leaf p => exact vu7 _ _
  | un p x ih =>
    have h1 := ih ts
    have h2 := vu7 (j9 ts x).1 (qy3 p (j9 ts x).2 0)
    simp only [j9, qs1]
    omega
  | bin p x y ihx ihy =>
    have h1 := ihx ts
    have h2 := ihy (j9 ts x).1
    have h3 := vu7 (j9 (j9 ts x).1 y).1 (qy3 p (j9 ts x).2 (j9 (j9 ts x).1 y).2)
    simp only [j9, qs1]
    omega
theorem tmOf_good {p : CP} (h : GoodP p) {l r : Nat} (hl : l ≤ 3000000000) (hr : r ≤ 3000000000) : HoldT (qy3 p l r) := by
  obtain ⟨⟨h1, h2⟩, h3, h4, h5⟩ := h
  exact ⟨⟨by simp only [qy3]; omega, by simp only [qy3]; omega⟩, ⟨by simp only [qy3]; omega, by simp only [qy3]; omega⟩, ⟨by simp only [qy3]; omega, by simp only [qy3]; omega⟩, h3, h4, h5⟩
structure MkAt (W : World) (mb mp : Nat) (ts : List Tm) (rs : List Nat) (tv rv : Value) : Prop where
  c0 : W.cell? ⟨mb, 0, none⟩ = some tv
  c1 : W.cell? ⟨mb, 1, none⟩ = some rv
  c2 : W.cell? ⟨mb, 2, none⟩ = some (.map (some mp))
  fz : ∀ j, W.frozen? ⟨mb, j, none⟩ = false
  lo : mp < mb
  lt : mb < W.heap.size
  ats : TsAt W (mb + 1) tv ts
  ars : IsAt W (mb + 1) rv rs
  ne : ∀ g, tv.ownBlock = some g → rv.ownBlock ≠ some g
  map : ∃ D : DataW Unit, W.ownsMap Tryz.prog 142 (plainElem Tryz.prog 3) mp ts.length D ∧ MapIs D ts
def Own (mb mp : Nat) (tv rv : Value) (k : Nat) : Prop := k = mb ∨ k = mp ∨ tv.ownBlock = some k ∨ rv.ownBlock = some k
structure MkKept (mb mp : Nat) (tv rv tv' rv' : Value) (W W' : World) : Prop where
  os : W'.os = W.os
  tape : W'.tape = W.tape
  output : W'.output = W.output
  size : W.heap.size ≤ W'.heap.size
  block : ∀ k, k < W.heap.size → ¬ Own mb mp tv rv k → W'.heap[k]? = W.heap[k]?
  rows : ∀ k, k < W.heap.size → Own mb mp tv' rv' k → Own mb mp tv rv k
theorem MkKept.refl (mb mp : Nat) (tv rv : Value) (W : World) : MkKept mb mp tv rv tv rv W W := ⟨rfl, rfl, rfl, Nat.le_refl _, fun _ _ _ => rfl, fun _ _ h => h⟩
theorem MkKept.trans {mb mp : Nat} {tv rv tv' rv' tv2 rv2 : Value} {a b c : World} (h : MkKept mb mp tv rv tv' rv' a b) (k : MkKept mb mp tv' rv' tv2 rv2 b c) : MkKept mb mp tv rv tv2 rv2 a c :=
  ⟨k.os.trans h.os, k.tape.trans h.tape, k.output.trans h.output, Nat.le_trans h.size k.size,
    fun i hi hn => (k.block i (Nat.lt_of_lt_of_le hi h.size) (fun ho => hn (h.rows i hi ho))).trans (h.block i hi hn),
    fun i hi ho => h.rows i hi (k.rows i (Nat.lt_of_lt_of_le hi h.size) ho)⟩
theorem MkKept.drew' {mb mp : Nat} {tv rv tv' rv' : Value} {a b : World} (h : MkKept mb mp tv rv tv' rv' a.drew b) : MkKept mb mp tv rv tv' rv' a b := ⟨h.os, h.tape, h.output, h.size, h.block, h.rows⟩
theorem MkKept.of_below {mb mp : Nat} {tv rv : Value} {a b : World} (h : Below a.heap.size a b) : MkKept mb mp tv rv tv rv a b := ⟨h.os, h.tape, h.output, h.size, fun k hk _ => h.block k hk, fun _ _ h => h⟩
def Out (B E mb mp : Nat) (tv rv : Value) : Prop := ∀ k, Own mb mp tv rv k → k < B ∨ E ≤ k
theorem Out.next {B E mb mp : Nat} {tv rv tv' rv' : Value} {W W' : World} (h : Out B E mb mp tv rv) (hk : MkKept mb mp tv rv tv' rv' W W') (hE : E ≤ W.heap.size) : Out B E mb mp tv' rv' := by
  intro k ho
  rcases Nat.lt_or_ge k W.heap.size with hl | hl
  · exact h k (hk.rows k hl ho)
  · exact .inr (by omega)
theorem MkAt.own_lt {W : World} {mb mp : Nat} {ts : List Tm} {rs : List Nat} {tv rv : Value} (h : MkAt W mb mp ts rs tv rv) {k : Nat} (ho : Own mb mp tv rv k) : k < W.heap.size := by
  have := h.lt
  have := h.lo
  rcases ho with rfl | rfl | ho | ho
  · omega
  · omega
  · exact (h.ats.lt k ho).2
  · exact (h.ars.lt k ho).2
theorem MkAt.same {W W' : World} {mb mp : Nat} {ts : List Tm} {rs : List Nat} {tv rv : Value} (h : MkAt W mb mp ts rs tv rv) (hz : W.heap.size ≤ W'.heap.size) (hb : ∀ k, Own mb mp tv rv k → W'.heap[k]? = W.heap[k]?) : MkAt W' mb mp ts rs tv rv := by
  have hm := hb mb (.inl rfl)
  have hc : ∀ j, W'.cell? ⟨mb, j, none⟩ = W.cell? ⟨mb, j, none⟩ := fun j => World.cell?_of_block (w := W) (w' := W') (a := ⟨mb, j, none⟩) hm
  have hf : ∀ j, W'.frozen? ⟨mb, j, none⟩ = W.frozen? ⟨mb, j, none⟩ := fun j => World.frozen?_of_block (w := W) (w' := W') (a := ⟨mb, j, none⟩) hm
  obtain ⟨D, ⟨es, clock, he, rest⟩, hD⟩ := h.map
  exact ⟨(hc 0).trans h.c0, (hc 1).trans h.c1, (hc 2).trans h.c2, fun j => (hf j).trans (h.fz j), h.lo, Nat.lt_of_lt_of_le h.lt hz,
    v9 h.ats fun g hg => hb g (.inr (.inr (.inl hg))), v9 h.ars fun g hg => hb g (.inr (.inr (.inr hg))), h.ne, D, ⟨es, clock, (hb mp (.inr (.inl rfl))).trans he, rest⟩, hD⟩
theorem MkAt.below {W W' : World} {mb mp : Nat} {ts : List Tm} {rs : List Nat} {tv rv : Value} (h : MkAt W mb mp ts rs tv rv) (hb : Below W.heap.size W W') : MkAt W' mb mp ts rs tv rv :=
  h.same hb.size fun k ho => hb.block k (h.own_lt ho)
theorem MkAt.drew {W : World} {mb mp : Nat} {ts : List Tm} {rs : List Nat} {tv rv : Value} (h : MkAt W mb mp ts rs tv rv) : MkAt W.drew mb mp ts rs tv rv := h.below (Below.refl _ _).drew
theorem MkAt.row_other {W W' : World} {mb mp : Nat} {rs : List Nat} {ts : List Tm} {tv rv : Value} (h : MkAt W mb mp ts rs tv rv) (hg : W.grownBy W' (some mp)) :
    W'.cell? ⟨mb, 0, none⟩ = some tv ∧ W'.cell? ⟨mb, 1, none⟩ = some rv ∧ W'.cell? ⟨mb, 2, none⟩ = some (.map (some mp)) ∧ (∀ j, W'.frozen? ⟨mb, j, none⟩ = false) ∧ TsAt W' (mb + 1) tv ts ∧ IsAt W' (mb + 1) rv rs ∧ mb < W'.heap.size := by
  have hlo := h.lo
  have hm : W'.heap[mb]? = W.heap[mb]? := hg.block mb h.lt (by simp; omega)
  have hc : ∀ j, W'.cell? ⟨mb, j, none⟩ = W.cell? ⟨mb, j, none⟩ := fun j => World.cell?_of_block (w := W) (w' := W') (a := ⟨mb, j, none⟩) hm
  have hf : ∀ j, W'.frozen? ⟨mb, j, none⟩ = W.frozen? ⟨mb, j, none⟩ := fun j => World.frozen?_of_block (w := W) (w' := W') (a := ⟨mb, j, none⟩) hm
  refine ⟨(hc 0).trans h.c0, (hc 1).trans h.c1, (hc 2).trans h.c2, fun j => (hf j).trans (h.fz j), v9 h.ats fun g hg' => ?_, v9 h.ars fun g hg' => ?_, Nat.lt_of_lt_of_le h.lt hg.size⟩
  · have := h.ats.lt g hg'
    exact hg.block g this.2 (by simp; omega)
  · have := h.ars.lt g hg'
    exact hg.block g this.2 (by simp; omega)
theorem MkAt.add {W W1 W2 : World} {mb mp : Nat} {ts : List Tm} {rs : List Nat} {tv rv : Value} (h : MkAt W mb mp ts rs tv rv) {t : Tm} (hgt : HoldT t) (hw : qh8 ts t = none) {D : DataW Unit} (hD : MapIs D ts) {o : Obj}
    (hmap : W1.ownsMap Tryz.prog 142 (plainElem Tryz.prog 3) mp (ts.length + 1) (D.put (klT t) (.lit (.int .i64 ts.length)))) (hg1 : W.grownBy W1 (some mp)) {g cap H : Nat}
    (hown : W2.ownsRow (mb + 1) 142 6 (.slice (some ⟨g, 0, none⟩) (ts.length + 1) cap) (ts.length + 1) (qk6 ts ++ qq8 t)) (hg2 : (W1.alloc o).grownBy W2 tv.ownBlock) (hat : tv.ownBlock = some g ∨ g = H) (hH : (W1.alloc o).heap.size = H) :
    MkAt (W2.setCell ⟨mb, 0, none⟩ (.slice (some ⟨g, 0, none⟩) (ts.length + 1) cap)) mb mp (ts ++ [t]) rs (.slice (some ⟨g, 0, none⟩) (ts.length + 1) cap) rv ∧
    MkKept mb mp tv rv (.slice (some ⟨g, 0, none⟩) (ts.length + 1) cap) rv W (W2.setCell ⟨mb, 0, none⟩ (.slice (some ⟨g, 0, none⟩) (ts.length + 1) cap)) := by
  have hlo := h.lo
  have hlt := h.lt
  obtain ⟨c0, c1, c2, fz, ats, ars, lt1⟩ := h.row_other hg1
  have hz1 := hg1.size
  have hz2 := hg2.size
  simp at hz2 hH
  have hrow : ∀ k, tv.ownBlock = some k → mb + 1 ≤ k := fun k hk => (h.ats.lt k hk).1
  have hb : ∀ k, k < W1.heap.size → tv.ownBlock ≠ some k → W2.heap[k]? = W1.heap[k]? := fun k hk hn =>
    (hg2.block k (by simp; omega) (fun e => hn e.symm)).trans (Below.heap_alloc W1 o k hk)
  have hmb : W2.heap[mb]? = W1.heap[mb]? := hb mb lt1 (fun e => by have := hrow mb e; omega)
  have c0' : W2.cell? ⟨mb, 0, none⟩ = some tv := (World.cell?_of_block (w := W1) (w' := W2) (a := ⟨mb, 0, none⟩) hmb).trans c0
  have c1' : W2.cell? ⟨mb, 1, none⟩ = some rv := (World.cell?_of_block (w := W1) (w' := W2) (a := ⟨mb, 1, none⟩) hmb).trans c1
  have c2' : W2.cell? ⟨mb, 2, none⟩ = some (.map (some mp)) := (World.cell?_of_block (w := W1) (w' := W2) (a := ⟨mb, 2, none⟩) hmb).trans c2
  have fz' : ∀ j, W2.frozen? ⟨mb, j, none⟩ = false := fun j => (World.frozen?_of_block (w := W1) (w' := W2) (a := ⟨mb, j, none⟩) hmb).trans (fz j)
  have hset : ∀ k, k ≠ mb → (W2.setCell ⟨mb, 0, none⟩ (.slice (some ⟨g, 0, none⟩) (ts.length + 1) cap)).heap[k]? = W2.heap[k]? := fun k hk => Below.heap_setCell W2 ⟨mb, 0, none⟩ _ k (by show k ≠ mb; exact hk)
  refine ⟨⟨by simp [go_sem, c0'], by simp [go_sem, c1'], by simp [go_sem, c2'], fun j => by simp [go_sem, fz'], hlo, by simp; omega, ?_, ?_, ?_, ?_⟩, ⟨?_, ?_, ?_, by simp; omega, fun k hk hn => ?_, fun k hk ho => ?_⟩⟩
  · show World.ownsRow _ _ _ _ _ _ _
    rw [List.length_append, List.length_singleton, qk6, List.flatMap_append, List.flatMap_singleton]
    exact ownsRow_setCell_below hown (by show mb < mb + 1; omega) _
  · refine v9 ars fun g' hg' => ?_
    have hl := ars.lt g' hg'
    rw [hset g' (by omega)]
    exact hb g' hl.2 (fun e => h.ne g' e hg')
  · intro g0 hg0 hr
    have he : g = g0 := by simpa [Value.ownBlock] using hg0
    subst he
    rcases hat with hat | hat
    · exact h.ne g hat hr
    · have := (ars.lt g hr).2
      omega
  · refine ⟨_, ?_, hD.add hgt hw⟩
    obtain ⟨es, clock, he, rest⟩ := hmap
    rw [List.length_append, List.length_singleton]
    refine ⟨es, clock, ?_, rest⟩
    rw [hset mp (by omega), hb mp (by omega) (fun e => by have := hrow mp e; omega)]
    exact he
  · exact hg2.os.trans hg1.os
  · exact hg2.tape.trans hg1.tape
  · exact hg2.output.trans hg1.output
  · have n1 : k ≠ mb := fun e => hn (.inl e)
    have n2 : k ≠ mp := fun e => hn (.inr (.inl e))
    rw [hset k n1, hb k (by omega) (fun e => hn (.inr (.inr (.inl e))))]
    exact hg1.block k hk (by simpa using n2)
  · rcases ho with ho | ho | ho | ho
    · exact .inl ho
    · exact .inr (.inl ho)
    · have he : g = k := by simpa [Value.ownBlock] using ho
      subst he
      rcases hat with hat | hat
      · exact .inr (.inr (.inl hat))
      · omega
    · exact .inr (.inr (.inr ho))
theorem MkAt.root {W W2 : World} {mb mp : Nat} {ts : List Tm} {rs : List Nat} {tv rv : Value} (h : MkAt W mb mp ts rs tv rv) {r : Nat} {o : Obj} {g cap H : Nat}
    (hown : W2.ownsRow (mb + 1) 3 1 (.slice (some ⟨g, 0, none⟩) (rs.length + 1) cap) (rs.length + 1) (qj5 rs ++ [.int .i64 r])) (hg2 : (W.alloc o).grownBy W2 rv.ownBlock) (hat : rv.ownBlock = some g ∨ g = H) (hH : (W.alloc o).heap.size = H) :
    MkAt (W2.setCell ⟨mb, 1, none⟩ (.slice (some ⟨g, 0, none⟩) (rs.length + 1) cap)) mb mp ts (rs ++ [r]) tv (.slice (some ⟨g, 0, none⟩) (rs.length + 1) cap) ∧
    MkKept mb mp tv rv tv (.slice (some ⟨g, 0, none⟩) (rs.length + 1) cap) W (W2.setCell ⟨mb, 1, none⟩ (.slice (some ⟨g, 0, none⟩) (rs.length + 1) cap)) := by
  have hlo := h.lo
  have hlt := h.lt
  have hz2 := hg2.size
  simp at hz2 hH
  have hrow : ∀ k, rv.ownBlock = some k → mb + 1 ≤ k := fun k hk => (h.ars.lt k hk).1
  have hb : ∀ k, k < W.heap.size → rv.ownBlock ≠ some k → W2.heap[k]? = W.heap[k]? := fun k hk hn =>
    (hg2.block k (by simp; omega) (fun e => hn e.symm)).trans (Below.heap_alloc W o k hk)
  have hmb : W2.heap[mb]? = W.heap[mb]? := hb mb hlt (fun e => by have := hrow mb e; omega)
  have c0' : W2.cell? ⟨mb, 0, none⟩ = some tv := (World.cell?_of_block (w := W) (w' := W2) (a := ⟨mb, 0, none⟩) hmb).trans h.c0
  have c1' : W2.cell? ⟨mb, 1, none⟩ = some rv := (World.cell?_of_block (w := W) (w' := W2) (a := ⟨mb, 1, none⟩) hmb).trans h.c1
  have c2' : W2.cell? ⟨mb, 2, none⟩ = some (.map (some mp)) := (World.cell?_of_block (w := W) (w' := W2) (a := ⟨mb, 2, none⟩) hmb).trans h.c2
  have fz' : ∀ j, W2.frozen? ⟨mb, j, none⟩ = false := fun j => (World.frozen?_of_block (w := W) (w' := W2) (a := ⟨mb, j, none⟩) hmb).trans (h.fz j)
  have hset : ∀ k, k ≠ mb → (W2.setCell ⟨mb, 1, none⟩ (.slice (some ⟨g, 0, none⟩) (rs.length + 1) cap)).heap[k]? = W2.heap[k]? := fun k hk => Below.heap_setCell W2 ⟨mb, 1, none⟩ _ k (by show k ≠ mb; exact hk)
  refine ⟨⟨by simp [go_sem, c0'], by simp [go_sem, c1'], by simp [go_sem, c2'], fun j => by simp [go_sem, fz'], hlo, by simp; omega, ?_, ?_, ?_, ?_⟩, ⟨hg2.os, hg2.tape, hg2.output, by simp; omega, fun k hk hn => ?_, fun k hk ho => ?_⟩⟩
  · refine v9 h.ats fun g' hg' => ?_
    have hl := h.ats.lt g' hg'
    rw [hset g' (by omega)]
    exact hb g' hl.2 (fun e => h.ne g' hg' e)
  · show World.ownsRow _ _ _ _ _ _ _
    rw [List.length_append, List.length_singleton, qj5, List.map_append]
    exact ownsRow_setCell_below hown (by show mb < mb + 1; omega) _
  · intro g0 hg0 hr
    have he : g = g0 := by simpa [Value.ownBlock] using hr
    subst he
    rcases hat with hat | hat
    · exact h.ne g hg0 hat
    · have := (h.ats.lt g hg0).2
      omega
  · obtain ⟨D, ⟨es, clock, he, rest⟩, hD⟩ := h.map
    refine ⟨D, ⟨es, clock, ?_, rest⟩, hD⟩
    rw [hset mp (by omega), hb mp (by omega) (fun e => by have := hrow mp e; omega)]
    exact he
  · have n1 : k ≠ mb := fun e => hn (.inl e)
    rw [hset k n1]
    exact hb k hk (fun e => hn (.inr (.inr (.inr e))))
  · rcases ho with ho | ho | ho | ho
    · exact .inl ho
    · exact .inr (.inl ho)
    · exact .inr (.inr (.inl ho))
    · have he : g = k := by simpa [Value.ownBlock] using ho
      subst he
      rcases hat with hat | hat
      · exact .inr (.inr (.inr hat))
      · omega
end
section
set_option maxHeartbeats 400000 in
theorem ve9 (w : World) : Calls Tryz.prog 37 #[] w fun e w' => e = .returned (.pointer (some ⟨w.heap.size + 1, 0, none⟩)) ∧ MkAt w' (w.heap.size + 1) w.heap.size [] [] (.slice none 0 0) (.slice none 0 0) ∧ Below w.heap.size w w' := by
  have hmm := @run_makeMap Tryz.prog
  go_enter Tryz.func37, Tryz.ntmps37
  go_wp2_with fail
  go_ret
  refine ⟨rfl, ⟨by simp [go_sem], by simp [go_sem], by simp [go_sem], fun j => by simp [go_sem], by omega, by simp, TsAt.nil _ _, IsAt.nil _ _, fun g hg => by simp [Value.ownBlock] at hg, .map [], (World.ownsMap_made w _ _ _).alloc _, MapIs.empty⟩, ((Below.refl _ _).alloc (Nat.le_refl _) _).alloc (by simp) _⟩
set_option maxHeartbeats 400000 in
theorem vm4 (pb o n : Nat) (a : Option Addr) (c : Nat) (w : World) (h : w.cell? ⟨pb, o, none⟩ = some (.slice a n c)) : Calls Tryz.prog 36 #[.pointer (some ⟨pb, o, none⟩)] w fun e w' => e = .returned (.int .i64 n) ∧ w' = w := by
  go_enter Tryz.func36, Tryz.ntmps36
  go_wp2_with fail
  go_ret
  exact ⟨rfl, rfl⟩
set_option maxHeartbeats 400000 in
theorem place_nil (mb : Nat) (w : World) : Calls Tryz.prog 62 #[.pointer (some ⟨mb, 0, none⟩), .pointer none] w fun e w' => e = .returned (.int .i64 0) ∧ w' = w := by
  go_enter Tryz.func62, Tryz.ntmps62
  go_wp2_with fail
  go_ret
  exact ⟨rfl, rfl⟩
def SidAt (B E : Nat) (w : World) (v : Value) : Option Co → Prop
  | none => v = .pointer none
  | some c => CoAt B E w v c
def qd3 (ts : List Tm) : Option Co → List Tm × Nat
  | none => (ts, 0)
  | some c => j9 ts c
def ve0 : Option Co → Nat
  | none => 0
  | some c => qs1 c
theorem vq7 (ts : List Tm) (c : Option Co) : ts.length ≤ (qd3 ts c).1.length ∧ (qd3 ts c).1.length ≤ ts.length + ve0 c ∧ (qd3 ts c).2 ≤ ts.length + ve0 c := by
  cases c with
  | none => exact ⟨Nat.le_refl _, Nat.le_refl _, Nat.zero_le _⟩
  | some c =>
    have := qp7 ts c
    simp only [qd3, ve0]
    omega
theorem SidAt.keep {B E : Nat} {w w' : World} {v : Value} {c : Option Co} (h : SidAt B E w v c) (hk : ∀ k, B ≤ k → k < E → w'.heap[k]? = w.heap[k]?) (hz : w.heap.size ≤ w'.heap.size) : SidAt B E w' v c := by
  cases c with
  | none => exact h
  | some c => exact CoAt.keep (Nat.le_refl _) hk hz h
def PlEnds (mb mp : Nat) (rs : List Nat) (tv rv : Value) (r : List Tm × Nat) (W : World) (e : Ending) (W' : World) : Prop := ∃ tv', e = .returned (.int .i64 (r.2 : Int)) ∧ MkAt W' mb mp r.1 rs tv' rv ∧ MkKept mb mp tv rv tv' rv W W'
def vh0 (c : Option Co) : Prop := ∀ (B E mb mp : Nat) (W : World) (v : Value) (ts : List Tm) (rs : List Nat) (tv rv : Value), MkAt W mb mp ts rs tv rv → SidAt B E W v c → E ≤ W.heap.size → Out B E mb mp tv rv → ts.length + ve0 c ≤ 2500000000 →
  Calls Tryz.prog 62 #[.pointer (some ⟨mb, 0, none⟩), v] W (PlEnds mb mp rs tv rv (qd3 ts c) W)
theorem qz4 : vh0 none := by
  intro B E mb mp W v ts rs tv rv hm hs _ _ _
  obtain rfl : v = .pointer none := hs
  refine (place_nil mb W).mono ?_
  rintro e w' ⟨rfl, rfl⟩
  exact ⟨tv, rfl, hm, MkKept.refl _ _ _ _ _⟩
theorem Out.keep {B E mb mp : Nat} {tv rv tv' rv' : Value} {W W' : World} (h : Out B E mb mp tv rv) (hk : MkKept mb mp tv rv tv' rv' W W') (hE : E ≤ W.heap.size) : ∀ k, B ≤ k → k < E → W'.heap[k]? = W.heap[k]? :=
  fun k h1 h2 => hk.block k (by omega) (fun ho => by have := h k ho; omega)
end
section
theorem zeroInt (w : World) : (zeroValue 3).run Tryz.prog w = .ok (.int .i64 0) w := by kernel_rfl
theorem MkAt.look_some {W : World} {mb mp : Nat} {ts : List Tm} {rs : List Nat} {tv rv : Value} (h : MkAt W mb mp ts rs tv rv) {t : Tm} (ht : HoldT t) {i : Nat} (hi : qh8 ts t = some i) :
    (Instr.lookup 90 (.map (some mp)) (.agg #[.int .i64 t.op, .int .i64 t.left, .int .i64 t.right, .int .i64 t.num, .string (BS t.str), .string (BS t.esc)]) true).run Tryz.prog W = .ok (.tuple #[.int .i64 i, .bool true]) W := by
  obtain ⟨D, hown, hD⟩ := h.map
  obtain ⟨v, ps, hrun, hv⟩ := hown.look_ok vm2 Tryz.underlying90 (zeroInt W) (plainElem_int Tryz.underlying3 (by decide)) (qk2 ht)
  obtain ⟨h1, h2⟩ := hD.at' t ht i hi
  obtain ⟨c, rfl, hc, _⟩ := plainElem_int_inv Tryz.underlying3 hv
  have hc1 := congrArg Prod.fst hc
  rw [h2] at hc1
  simp at hc1
  rw [h1] at hrun
  rw [hc1]
  exact hrun
theorem MkAt.look_none {W : World} {mb mp : Nat} {ts : List Tm} {rs : List Nat} {tv rv : Value} (h : MkAt W mb mp ts rs tv rv) {t : Tm} (ht : HoldT t) (hi : qh8 ts t = none) :
    ∃ c, (Instr.lookup 90 (.map (some mp)) (.agg #[.int .i64 t.op, .int .i64 t.left, .int .i64 t.right, .int .i64 t.num, .string (BS t.str), .string (BS t.esc)]) true).run Tryz.prog W = .ok (.tuple #[.int .i64 c, .bool false]) W := by
  obtain ⟨D, hown, hD⟩ := h.map
  obtain ⟨v, ps, hrun, hv⟩ := hown.look_ok vm2 Tryz.underlying90 (zeroInt W) (plainElem_int Tryz.underlying3 (by decide)) (qk2 ht)
  obtain ⟨c, rfl, _, _⟩ := plainElem_int_inv Tryz.underlying3 hv
  rw [hD.no t ht hi] at hrun
  exact ⟨c, hrun⟩
theorem MkAt.put {W : World} {mb mp tb : Nat} {ts : List Tm} {rs : List Nat} {tv rv : Value} (h : MkAt W mb mp ts rs tv rv) {t : Tm} (ht : HoldT t) (hw : qh8 ts t = none) (hn : ts.length ≤ 2500000000) (htb : TmAt W tb t) (hno : ¬ Own mb mp tv rv tb) :
    ∃ W1, (Instr.mapUpdate 90 (.map (some mp)) (.agg #[.int .i64 t.op, .int .i64 t.left, .int .i64 t.right, .int .i64 t.num, .string (BS t.str), .string (BS t.esc)]) (.int .i64 ts.length)).run Tryz.prog W = .ok () W1 ∧
      W1.cell? ⟨mb, 0, none⟩ = some tv ∧ mb < W1.heap.size ∧ Hid (TmAt W1 tb t) ∧
      ∃ g cap w5, (qm1 #[63, 63] 63 #[tv, .slice (some ⟨W1.heap.size, 0, none⟩) 1 1]).run Tryz.prog (W1.alloc (.cells #[.int .i64 t.op, .int .i64 t.left, .int .i64 t.right, .int .i64 t.num, .string (BS t.str), .string (BS t.esc)] 142)).drew = .ok (.slice (some ⟨g, 0, none⟩) (ts.length + 1) cap) w5 ∧
        w5.cell? ⟨mb, 0, none⟩ = some tv ∧ (∀ j, w5.frozen? ⟨mb, j, none⟩ = false) ∧ mb < w5.heap.size ∧
        Hid (MkAt (w5.setCell ⟨mb, 0, none⟩ (.slice (some ⟨g, 0, none⟩) (ts.length + 1) cap)) mb mp (ts ++ [t]) rs (.slice (some ⟨g, 0, none⟩) (ts.length + 1) cap) rv) ∧
        Hid (MkKept mb mp tv rv (.slice (some ⟨g, 0, none⟩) (ts.length + 1) cap) rv W (w5.setCell ⟨mb, 0, none⟩ (.slice (some ⟨g, 0, none⟩) (ts.length + 1) cap))) := by
  obtain ⟨i0, hi, hz0, hz1, hz2⟩ := info_parts vi1
  obtain ⟨D, hown, hD⟩ := h.map
  have hlo := h.lo
  obtain ⟨W1, hrun, hmap, hg1⟩ := hown.update vm2 Tryz.underlying90 (by unfold maxLen; omega) (qk2 ht) (plainElem_int Tryz.underlying3 (wfRng (n := (ts.length : Int)) ⟨by omega, by omega⟩))
  obtain ⟨c0, c1, c2, fz, ats, ars, lt1⟩ := h.row_other hg1
  have htb1 : TmAt W1 tb t := htb.same (Nat.lt_of_lt_of_le htb.lt hg1.size) (hg1.block tb htb.lt (by simp only [ne_eq, Option.some.injEq]; exact fun e => hno (.inr (.inl e))))
  obtain ⟨g, cap, w5, hr, hown5, hgrow, hat, _⟩ := run_append_lies (P := Tryz.prog) (W1.alloc (.cells #[.int .i64 t.op, .int .i64 t.left, .int .i64 t.right, .int .i64 t.num, .string (BS t.str), .string (BS t.esc)] 142)).drew 63 63 (mb + 1) 142 i0 _ 6 64 Tryz.underlying63 hi hz0 hz1 hz2 rfl (by omega) tv ts.length (qk6 ts) (World.ownsRow.alloc ats _)
    ⟨W1.heap.size, 0, none⟩ 1 1 (qq8 t) rfl (World.news_of_block (cs := #[.int .i64 t.op, .int .i64 t.left, .int .i64 t.right, .int .i64 t.num, .string (BS t.str), .string (BS t.esc)]) (t := 142) (fr := (0, 0)) (heap_alloc_new W1 _)) (by simp [qq8, Value.oneCell']) (by omega) (by unfold maxLen; omega) (by omega) (by simp; omega) _ rfl
  have hgrow' : (W1.alloc (.cells #[.int .i64 t.op, .int .i64 t.left, .int .i64 t.right, .int .i64 t.num, .string (BS t.str), .string (BS t.esc)] 142)).grownBy w5 tv.ownBlock := ⟨hgrow.os, hgrow.tape, hgrow.output, hgrow.size, hgrow.block⟩
  obtain ⟨hm5, hk5⟩ := h.add ht hw hD hmap hg1 hown5 hgrow' hat rfl
  have hmb : w5.heap[mb]? = W1.heap[mb]? := (hgrow'.block mb (by simp; omega) (fun e => by have := (ats.lt mb e.symm).1; omega)).trans (Below.heap_alloc W1 _ mb lt1)
  have hz5 := hgrow'.size
  refine ⟨W1, hrun, c0, lt1, v6 htb1, g, cap, w5, hr, ?_, fun j => ?_, ?_, v6 hm5, v6 hk5⟩
  · exact (World.cell?_of_block (w := W1) (w' := w5) (a := ⟨mb, 0, none⟩) hmb).trans c0
  · exact (World.frozen?_of_block (w := W1) (w' := w5) (a := ⟨mb, j, none⟩) hmb).trans (fz j)
  · simp at hz5
    omega
def CS (b : Nat) (p : CP) (vx vy : Value) (w' : World) : Prop := w'.cell? ⟨b, 0, none⟩ = some (.int .i64 p.op) ∧ w'.cell? ⟨b, 1, none⟩ = some vx ∧ w'.cell? ⟨b, 2, none⟩ = some vy ∧ w'.cell? ⟨b, 3, none⟩ = some (.int .i64 p.num) ∧ w'.cell? ⟨b, 4, none⟩ = some (.string (BS p.str)) ∧ w'.cell? ⟨b, 5, none⟩ = some (.string (BS p.esc))
theorem CS.same {b : Nat} {p : CP} {vx vy : Value} {W W' : World} (h : CS b p vx vy W) (hb : W'.heap[b]? = W.heap[b]?) : CS b p vx vy W' := by
  have hc : ∀ j, W'.cell? ⟨b, j, none⟩ = W.cell? ⟨b, j, none⟩ := fun j => World.cell?_of_block (w := W) (w' := W') (a := ⟨b, j, none⟩) hb
  obtain ⟨h0, h1, h2, h3, h4, h5⟩ := h
  exact ⟨(hc _).trans h0, (hc _).trans h1, (hc _).trans h2, (hc _).trans h3, (hc _).trans h4, (hc _).trans h5⟩
theorem CS.alloc {b : Nat} {p : CP} {vx vy : Value} {W : World} (h : CS b p vx vy W) (hb : b < W.heap.size) (o : Obj) : CS b p vx vy (W.alloc o) := h.same (Below.heap_alloc W o b hb)
theorem CS.set6 {b R : Nat} {p : CP} {vx vy : Value} {W : World} {v0 v1 v2 v3 v4 v5 : Value} (h : CS b p vx vy W) (hb : b ≠ R) : CS b p vx vy ((((((W.setCell ⟨R, 0, none⟩ v0).setCell ⟨R, 1, none⟩ v1).setCell ⟨R, 2, none⟩ v2).setCell ⟨R, 3, none⟩ v3).setCell ⟨R, 4, none⟩ v4).setCell ⟨R, 5, none⟩ v5) :=
  (((((h.same (Below.heap_setCell _ ⟨R, 0, none⟩ v0 b hb)).same (Below.heap_setCell _ ⟨R, 1, none⟩ v1 b hb)).same (Below.heap_setCell _ ⟨R, 2, none⟩ v2 b hb)).same (Below.heap_setCell _ ⟨R, 3, none⟩ v3 b hb)).same (Below.heap_setCell _ ⟨R, 4, none⟩ v4 b hb)).same (Below.heap_setCell _ ⟨R, 5, none⟩ v5 b hb)
theorem CellsC.cs {B E : Nat} {w : World} {b : Nat} {p : CP} {l r : Value} {t : List UInt8} (h : CellsC B E w b p l r t) : CS b p l r w := ⟨h.c0, h.c1, h.c2, h.c3, h.c4, h.c5⟩
structure PlMid (W : World) (mb mp : Nat) (rs : List Nat) (tv rv : Value) (ts2 : List Tm) (tv2 : Value) (tb : Nat) (t : Tm) (wx : World) : Prop where
  mka : MkAt wx mb mp ts2 rs tv2 rv
  kept : MkKept mb mp tv rv tv2 rv W wx
  tm : TmAt wx tb t
  no : ¬ Own mb mp tv2 rv tb
theorem MkKept.later {mb mp : Nat} {tv rv tv' rv' : Value} {W W' : World} (h : MkKept mb mp tv rv tv' rv' W W') {a : Addr} (ha : W.heap.size ≤ a.block) (u : Value) : MkKept mb mp tv rv tv' rv' W (W'.setCell a u) :=
  ⟨h.os, h.tape, h.output, by have := h.size; simpa using this, fun k hk hn => (Below.heap_setCell W' a u k (by omega)).trans (h.block k hk hn), h.rows⟩
theorem MkAt.later {W : World} {mb mp : Nat} {ts : List Tm} {rs : List Nat} {tv rv : Value} (h : MkAt W mb mp ts rs tv rv) {a : Addr} (ha : ¬ Own mb mp tv rv a.block) (u : Value) : MkAt (W.setCell a u) mb mp ts rs tv rv :=
  h.same (by simp) fun k ho => Below.heap_setCell W a u k (fun e => ha (e ▸ ho))
theorem PlMid.set {W w2 : World} {mb mp : Nat} {rs : List Nat} {tv rv : Value} {ts2 : List Tm} {tv2 : Value} {tb : Nat} {t0 t : Tm} (hm : MkAt w2 mb mp ts2 rs tv2 rv) (hk : MkKept mb mp tv rv tv2 rv W w2) (hz : TmAt w2 tb t0) (hno : ¬ Own mb mp tv2 rv tb) (hge : W.heap.size ≤ tb)
    {v0 v1 v2 v3 v4 v5 : Value} (h0 : v0 = .int .i64 t.op) (h1 : v1 = .int .i64 t.left) (h2 : v2 = .int .i64 t.right) (h3 : v3 = .int .i64 t.num) (h4 : v4 = .string (BS t.str)) (h5 : v5 = .string (BS t.esc)) :
    PlMid W mb mp rs tv rv ts2 tv2 tb t ((((((w2.setCell ⟨tb, 0, none⟩ v0).setCell ⟨tb, 1, none⟩ v1).setCell ⟨tb, 2, none⟩ v2).setCell ⟨tb, 3, none⟩ v3).setCell ⟨tb, 4, none⟩ v4).setCell ⟨tb, 5, none⟩ v5) :=
  ⟨(((((hm.later hno _).later hno _).later hno _).later hno _).later hno _).later hno _, (((((hk.later hge _).later hge _).later hge _).later hge _).later hge _).later hge _, hz.full t h0 h1 h2 h3 h4 h5, hno⟩
theorem PlMid.alloc {W w2 : World} {mb mp : Nat} {rs : List Nat} {tv rv : Value} {ts2 : List Tm} {tv2 : Value} {t : Tm} (hm : MkAt w2 mb mp ts2 rs tv2 rv) (hk : MkKept mb mp tv rv tv2 rv W w2)
    {v0 v1 v2 v3 v4 v5 : Value} (h0 : v0 = .int .i64 t.op) (h1 : v1 = .int .i64 t.left) (h2 : v2 = .int .i64 t.right) (h3 : v3 = .int .i64 t.num) (h4 : v4 = .string (BS t.str)) (h5 : v5 = .string (BS t.esc)) (ty : TypeId) :
    PlMid W mb mp rs tv rv ts2 tv2 w2.heap.size t (w2.alloc (.cells #[v0, v1, v2, v3, v4, v5] ty)) := by
  subst h0 h1 h2 h3 h4 h5
  refine ⟨hm.below ((Below.refl _ _).alloc (Nat.le_refl _) _), hk.trans (MkKept.of_below ((Below.refl _ _).alloc (Nat.le_refl _) _)), ?_, fun ho => by have := hm.own_lt ho; omega⟩
  refine ⟨by simp, ?_, ?_, ?_, ?_, ?_, ?_, fun j => ?_⟩ <;> simp [go_sem]
end
section
attribute [local go_sem ↓] qc8
def NewOk (mb mp : Nat) (tv' rv : Value) (lo : Nat) (U w' : World) : Prop := U.heap.size ≤ w'.heap.size ∧ ∀ k, lo ≤ k → k < U.heap.size → ¬ Own mb mp tv' rv k ∧ w'.heap[k]? = U.heap[k]?
theorem NewOk.tm {mb mp : Nat} {tv' rv : Value} {lo : Nat} {U w' : World} (h : NewOk mb mp tv' rv lo U w') {t : Tm} (ht : TmAt U lo t) : TmAt w' lo t ∧ ¬ Own mb mp tv' rv lo :=
  ⟨ht.same (Nat.lt_of_lt_of_le ht.lt h.1) (h.2 lo (Nat.le_refl _) ht.lt).2, (h.2 lo (Nat.le_refl _) ht.lt).1⟩
theorem NewOk.cell {mb mp : Nat} {tv' rv : Value} {lo : Nat} {U w' : World} (h : NewOk mb mp tv' rv lo U w') (j : Nat) (hl : lo < U.heap.size) : w'.cell? ⟨lo, j, none⟩ = U.cell? ⟨lo, j, none⟩ := World.cell?_of_block (w := U) (w' := w') (a := ⟨lo, j, none⟩) (h.2 lo (Nat.le_refl _) hl).2
theorem NewOk.frozen {mb mp : Nat} {tv' rv : Value} {lo : Nat} {U w' : World} (h : NewOk mb mp tv' rv lo U w') (j : Nat) (hl : lo < U.heap.size) : w'.frozen? ⟨lo, j, none⟩ = U.frozen? ⟨lo, j, none⟩ := World.frozen?_of_block (w := U) (w' := w') (a := ⟨lo, j, none⟩) (h.2 lo (Nat.le_refl _) hl).2
theorem NewOk.next {mb mp : Nat} {tv1 tv2 rv : Value} {lo : Nat} {U w1 w2 : World} (h : NewOk mb mp tv1 rv lo U w1) (hk : MkKept mb mp tv1 rv tv2 rv w1 w2) : NewOk mb mp tv2 rv lo U w2 := by
  have := h.1
  refine ⟨Nat.le_trans h.1 hk.size, fun k h1 h2 => ?_⟩
  obtain ⟨h3, h4⟩ := h.2 k h1 h2
  exact ⟨fun ho => h3 (hk.rows k (by omega) ho), (hk.block k (by omega) h3).trans h4⟩
theorem vq9 {c : Option Co} (hc : vh0 c) {B E mb mp : Nat} {W U : World} {v : Value} {ts : List Tm} {rs : List Nat} {tv rv : Value} (hm : MkAt W mb mp ts rs tv rv) (hs : SidAt B E W v c) (hE : E ≤ W.heap.size) (ho : Out B E mb mp tv rv) (hn : ts.length + ve0 c ≤ 2500000000) (hU : Below W.heap.size W U) :
    Calls Tryz.prog 62 #[.pointer (some ⟨mb, 0, none⟩), v] U fun e w' => ∃ tv', e = .returned (.int .i64 ((qd3 ts c).2 : Int)) ∧ MkAt w' mb mp (qd3 ts c).1 rs tv' rv ∧ MkKept mb mp tv rv tv' rv W w' ∧ NewOk mb mp tv' rv W.heap.size U w' := by
  have hz := hU.size
  refine (hc B E mb mp U v ts rs tv rv (hm.below hU) (hs.keep (fun k _ h2 => hU.block k (by omega)) hz) (by omega) ho hn).mono ?_
  rintro e w' ⟨tv', rfl, hm', hk'⟩
  refine ⟨tv', rfl, hm', (MkKept.of_below hU).trans hk', hk'.size, fun k h1 h2 => ?_⟩
  have hno : ¬ Own mb mp tv rv k := fun h => by have := hm.own_lt h; omega
  exact ⟨fun h => hno (hk'.rows k h2 h), hk'.block k h2 hno⟩
theorem TsAt.form {w : World} {base : Nat} {v : Value} {ts : List Tm} (h : TsAt w base v ts) : ∃ a c, v = .slice a ts.length c := by
  rcases h.2 with ⟨rfl, hn⟩ | ⟨g, cap, cur, rfl, _⟩
  · exact ⟨none, 0, by rw [hn]⟩
  · exact ⟨_, _, rfl⟩
theorem TmAt.drew {w : World} {b : Nat} {t : Tm} (h : TmAt w b t) : TmAt w.drew b t := h.same h.lt rfl
set_option maxHeartbeats 4000000 in
theorem vd6 (p : CP) (x y : Option Co) (hx : vh0 x) (hy : vh0 y) (hp : GoodP p) (B E mb mp b : Nat) (W : World) (vx vy : Value) (tx : List UInt8) (ts : List Tm) (rs : List Nat) (tv rv : Value) (hm : MkAt W mb mp ts rs tv rv)
    (hc : CellsC B E W b p vx vy tx) (sx : SidAt B E W vx x) (sy : SidAt B E W vy y) (hE : E ≤ W.heap.size) (ho : Out B E mb mp tv rv) (hn : ts.length + ve0 x + ve0 y + 1 ≤ 2500000000)
    (Q : Ending → World → Prop) (hQ : ∀ e w', PlEnds mb mp rs tv rv (vc7 (qd3 (qd3 ts x).1 y).1 (qy3 p (qd3 ts x).2 (qd3 (qd3 ts x).1 y).2)) W e w' → Q e w') :
    Calls Tryz.prog 62 #[.pointer (some ⟨mb, 0, none⟩), .pointer (some ⟨b, 0, none⟩)] W Q := by
  have HQ := v6 hQ
  clear hQ
  have l1 := vq7 ts x
  have l2 := vq7 (qd3 ts x).1 y
  have PX : Hid (∀ U, Below W.heap.size W U → Calls Tryz.prog 62 #[.pointer (some ⟨mb, 0, none⟩), vx] U fun e w' => ∃ tv', e = .returned (.int .i64 ((qd3 ts x).2 : Int)) ∧ MkAt w' mb mp (qd3 ts x).1 rs tv' rv ∧ MkKept mb mp tv rv tv' rv W w' ∧ NewOk mb mp tv' rv W.heap.size U w') := v6 fun U hU => vq9 hx hm sx hE ho (by omega) hU
  have PY : Hid (∀ w1 tv1, MkAt w1 mb mp (qd3 ts x).1 rs tv1 rv → MkKept mb mp tv rv tv1 rv W w1 → ∀ U, Below w1.heap.size w1 U → Calls Tryz.prog 62 #[.pointer (some ⟨mb, 0, none⟩), vy] U fun e w' => ∃ tv', e = .returned (.int .i64 ((qd3 (qd3 ts x).1 y).2 : Int)) ∧ MkAt w' mb mp (qd3 (qd3 ts x).1 y).1 rs tv' rv ∧ MkKept mb mp tv1 rv tv' rv w1 w' ∧ NewOk mb mp tv' rv w1.heap.size U w') :=
    v6 fun w1 tv1 h1 h2 U hU => vq9 hy h1 (sy.keep (ho.keep h2 hE) h2.size) (Nat.le_trans hE h2.size) (ho.next h2 hE) (by omega) hU
  have cs0 : CS b p vx vy W.drew := hc.cs
  have csA : CS b p vx vy (W.alloc (.cells #[.int .i64 0, .int .i64 0, .int .i64 0, .int .i64 0, .string ⟨#[]⟩, .string ⟨#[]⟩] 142)).drew := CS.alloc hc.cs hc.within _
  have B0 : Below W.heap.size W W.drew := (Below.refl _ _).drew
  have BA : Below W.heap.size W (W.alloc (.cells #[.int .i64 0, .int .i64 0, .int .i64 0, .int .i64 0, .string ⟨#[]⟩, .string ⟨#[]⟩] 142)).drew := ((Below.refl _ _).alloc (Nat.le_refl _) _).drew
  unfold CS at cs0 csA
  have CK : Hid (∀ w1 tv1, MkKept mb mp tv rv tv1 rv W w1 → CS b p vx vy w1) := v6 fun w1 tv1 hk => hc.cs.same (hk.block b hc.within (fun h => by have := ho b h; have := hc.lo; have := hc.hi; omega))
  have hbw := hc.within
  have hop := hp.op
  have HGT : Hid (HoldT (qy3 p (qd3 ts x).2 (qd3 (qd3 ts x).1 y).2)) := v6 (tmOf_good hp (by omega) (by omega))
  have h2len : (qd3 (qd3 ts x).1 y).1.length ≤ 2500000000 := by omega
  have HM := v6 hm
  obtain ⟨T, hT⟩ : ∃ T, qy3 p (qd3 ts x).2 (qd3 (qd3 ts x).1 y).2 = T := ⟨_, rfl⟩
  have e0 : Value.int .i64 p.op = .int .i64 (T.op : Int) := by rw [← hT]; show _ = Value.int .i64 ((p.op.toNat : Nat) : Int); rw [Int.toNat_of_nonneg hop.1]
  have e1 : Value.int .i64 ((qd3 ts x).2 : Int) = .int .i64 (T.left : Int) := by rw [← hT]; rfl
  have e2 : Value.int .i64 ((qd3 (qd3 ts x).1 y).2 : Int) = .int .i64 (T.right : Int) := by rw [← hT]; rfl
  have e3 : Value.int .i64 p.num = .int .i64 T.num := by rw [← hT]; rfl
  have e4 : Value.string (BS p.str) = .string (BS T.str) := by rw [← hT]; rfl
  have e5 : Value.string (BS p.esc) = .string (BS T.esc) := by rw [← hT]; rfl
  have E0 := v6 e0
  have E1 := v6 e1
  have E2 := v6 e2
  have E3 := v6 e3
  have E4 := v6 e4
  have E5 := v6 e5
  rw [hT] at HGT HQ
  clear hT e0 e1 e2 e3 e4 e5 hx hy hp hm hc sx sy l1 l2 ho
  generalize qd3 (qd3 ts x).1 y = r2 at *
  generalize qd3 ts x = r1 at *
  obtain ⟨ts2, i2⟩ := r2
  obtain ⟨ts1, i1⟩ := r1
  simp only at PX PY E1 E2 h2len HQ
  go_enter Tryz.func62, Tryz.ntmps62
  go_wp2_with fail
  go_cut [5] (fun s5 wx => ∃ (tb : Nat) (tv2 : Value), s5 = .pointer (some ⟨tb, 0, none⟩) ∧ Hid (PlMid W mb mp rs tv rv ts2 tv2 tb T wx))
  case first =>
    go_region_held3 (fun w' => w'.cell? ⟨b, 0, none⟩ = some (.int .i64 p.op) ∧ w'.cell? ⟨b, 1, none⟩ = some vx ∧ w'.cell? ⟨b, 2, none⟩ = some vy ∧ w'.cell? ⟨b, 3, none⟩ = some (.int .i64 p.num) ∧ w'.cell? ⟨b, 4, none⟩ = some (.string (BS p.str)) ∧ w'.cell? ⟨b, 5, none⟩ = some (.string (BS p.esc)))
      (with_reducible assumption)
      (first | (go_at_call 62; refine (q9 PY w1 tv1 (q9 M1) (q9 K1) _ (by with_reducible assumption)).mono ?_; rintro e w2 ⟨tv2, rfl, hm2, hk2, hn2⟩; have M2 := v6 hm2; have K2 := v6 ((q9 K1).trans hk2); have CS2 := q9 CK w2 tv2 (q9 K2); have z2 := hk2.size; have cs2 := CS2; have cs2a := CS.alloc CS2 (by omega) (.cells #[.int .i64 0, .int .i64 0, .int .i64 0, .int .i64 0, .string ⟨#[]⟩, .string ⟨#[]⟩] 142); have cs2b := CS.alloc CS2 (by omega) (.cells #[.int .i64 p.op, .int .i64 i1, .int .i64 i2, .int .i64 p.num, .string (BS p.str), .string (BS p.esc)] 142); have cs2s : CS b p vx vy ((((((w2.setCell ⟨W.heap.size, 0, none⟩ (.int .i64 p.op)).setCell ⟨W.heap.size, 1, none⟩ (.int .i64 i1)).setCell ⟨W.heap.size, 2, none⟩ (.int .i64 i2)).setCell ⟨W.heap.size, 3, none⟩ (.int .i64 p.num)).setCell ⟨W.heap.size, 4, none⟩ (.string (BS p.str))).setCell ⟨W.heap.size, 5, none⟩ (.string (BS p.esc))) := CS.set6 CS2 (by omega); have cs2t : CS b p vx vy ((((((w2.setCell ⟨w1.heap.size, 0, none⟩ (.int .i64 p.op)).setCell ⟨w1.heap.size, 1, none⟩ (.int .i64 i1)).setCell ⟨w1.heap.size, 2, none⟩ (.int .i64 i2)).setCell ⟨w1.heap.size, 3, none⟩ (.int .i64 p.num)).setCell ⟨w1.heap.size, 4, none⟩ (.string (BS p.str))).setCell ⟨w1.heap.size, 5, none⟩ (.string (BS p.esc))) := CS.set6 CS2 (by omega); unfold CS at cs2 cs2a cs2b cs2s cs2t; have HN2 := v6 hn2; have HN1' := v6 ((q9 HN1).next hk2); have b2 := hn2.cell; have f2 := hn2.frozen; have a2 := (q9 HN1').cell; have g2 := (q9 HN1').frozen; clear hm2 hk2 hn2) | (go_at_call 62; refine (q9 PX _ (by with_reducible assumption)).mono ?_; rintro e w1 ⟨tv1, rfl, hm1, hk1, hn1⟩; have M1 := v6 hm1; have K1 := v6 hk1; have z1 := hk1.size; have cs1 := q9 CK w1 tv1 hk1; have cs1a := CS.alloc cs1 (by omega) (.cells #[.int .i64 0, .int .i64 0, .int .i64 0, .int .i64 0, .string ⟨#[]⟩, .string ⟨#[]⟩] 142); unfold CS at cs1 cs1a; have B1 := Below.refl w1.heap.size w1; have B1A := (Below.refl w1.heap.size w1).alloc (Nat.le_refl _) (.cells #[.int .i64 0, .int .i64 0, .int .i64 0, .int .i64 0, .string ⟨#[]⟩, .string ⟨#[]⟩] 142); have HN1 := v6 hn1; clear hm1 hk1 hn1))
    · go_wp2_with fail
      go_meet
      exact ⟨w2.heap.size, tv2, rfl, v6 (PlMid.alloc (q9 M2) (q9 K2) (q9 E0) (q9 E1) (q9 E2) (q9 E3) (q9 E4) (q9 E5) _)⟩
    · go_wp2_with fail
      go_meet
      exact ⟨w1.heap.size, tv2, rfl, v6 (PlMid.set (q9 M2) (q9 K2) ((q9 HN2).tm (TmAt.new w1 0 _)).1 ((q9 HN2).tm (TmAt.new w1 0 _)).2 z1 (q9 E0) (q9 E1) (q9 E2) (q9 E3) (q9 E4) (q9 E5))⟩
    · go_wp2_with fail
      go_meet
      exact ⟨W.heap.size, tv2, rfl, v6 (PlMid.set (q9 M2) (q9 K2) ((q9 HN1').tm (TmAt.new W 0 _).drew).1 ((q9 HN1').tm (TmAt.new W 0 _).drew).2 (Nat.le_refl _) (q9 E0) (q9 E1) (q9 E2) (q9 E3) (q9 E4) (q9 E5))⟩
  case rest =>
    obtain ⟨tb, tv2, rfl, HMID⟩ := hcut
    clear PX PY CK cs0 csA B0 BA E0 E1 E2 E3 E4 E5 HM
    obtain ⟨ta, tc, rfl⟩ := (q9 HMID).mka.ats.form
    obtain ⟨tl, t0, t1, t2, t3, t4, t5, tf⟩ := (q9 HMID).tm
    have c0 := (q9 HMID).mka.c0
    have c2 := (q9 HMID).mka.c2
    have lt0 := (q9 HMID).mka.lt
    cases hw : qh8 ts2 T with
    | some i =>
      have hlk := (q9 HMID).mka.drew.look_some (q9 HGT) hw
      have hput : vc7 ts2 T = (ts2, i) := by rw [vc7, hw]
      rw [hput] at HQ
      clear hput hw
      go_wp2_with fail
      go_region
      all_goals go_wp2_with fail
      all_goals exact q9 HQ _ _ ⟨_, rfl, (q9 HMID).mka.drew, (q9 HMID).kept.trans (MkKept.of_below (Below.refl _ _).drew)⟩
    | none =>
      obtain ⟨c, hlk⟩ := (q9 HMID).mka.drew.look_none (q9 HGT) hw
      have hput : vc7 ts2 T = (ts2 ++ [T], ts2.length) := by rw [vc7, hw]
      rw [hput] at HQ
      obtain ⟨W1, hupd, d0, lt1, HT1, g, cap, w5, hap, c5, f5, lt5, HM5, HK5⟩ := (q9 HMID).mka.drew.drew.put (q9 HGT) hw h2len (q9 HMID).tm.drew.drew (q9 HMID).no
      obtain ⟨ul, u0, u1, u2, u3, u4, u5, uf⟩ := q9 HT1
      clear hput hw
      go_wp2_with fail
      go_region
      all_goals go_wp2_with fail
      all_goals go_region
      all_goals go_wp2_with fail
      all_goals go_region
      all_goals go_wp2_with fail
      all_goals exact q9 HQ _ _ ⟨_, rfl, q9 HM5, ((q9 HMID).kept.trans (MkKept.of_below (Below.refl _ _).drew.drew)).trans (q9 HK5)⟩
end
section
attribute [local go_sem ↓] qc8
theorem vu4 : ∀ c, vf3 c → vh0 (some c) := by
  intro c
  induction c with
  | leaf p =>
    intro hg B E mb mp W v ts rs tv rv hm hs hE ho hn
    obtain ⟨b, rfl, hc⟩ : ∃ b, v = at0 b ∧ CellsC B E W b p nilP nilP (z8 (.leaf p)) := hs
    exact vd6 p none none qz4 qz4 hg B E mb mp b W nilP nilP _ ts rs tv rv hm hc rfl rfl hE ho (by have : ve0 (some (Co.leaf p)) = 1 := rfl; simp only [ve0] at *; omega) _ fun e w' h => h
  | un p x ih =>
    intro hg B E mb mp W v ts rs tv rv hm hs hE ho hn
    obtain ⟨b, vx, rfl, hc, hx⟩ : ∃ b vx, v = at0 b ∧ CellsC B E W b p vx nilP (z8 (.un p x)) ∧ CoAt B E W vx x := hs
    exact vd6 p (some x) none (ih hg.2) qz4 hg.1 B E mb mp b W vx nilP _ ts rs tv rv hm hc hx rfl hE ho (by have : ve0 (some (Co.un p x)) = qs1 x + 1 := rfl; simp only [ve0] at *; omega) _ fun e w' h => h
  | bin p x y ihx ihy =>
    intro hg B E mb mp W v ts rs tv rv hm hs hE ho hn
    obtain ⟨b, vx, vy, rfl, hc, hx, hy⟩ : ∃ b vx vy, v = at0 b ∧ CellsC B E W b p vx vy (z8 (.bin p x y)) ∧ CoAt B E W vx x ∧ CoAt B E W vy y := hs
    exact vd6 p (some x) (some y) (ihx hg.2.1) (ihy hg.2.2) hg.1 B E mb mp b W vx vy _ ts rs tv rv hm hc hx hy hE ho (by have : ve0 (some (Co.bin p x y)) = qs1 x + qs1 y + 1 := rfl; simp only [ve0] at *; omega) _ fun e w' h => h
theorem MkAt.appRoot {W : World} {mb mp : Nat} {ts : List Tm} {rs : List Nat} {tv rv : Value} (h : MkAt W mb mp ts rs tv rv) (r : Nat) (hn : rs.length ≤ 1000) (ty : TypeId) :
    ∃ g cap w5, (qm1 #[29, 29] ty #[rv, .slice (some ⟨W.heap.size, 0, none⟩) 1 1]).run Tryz.prog (W.alloc (.cells #[.int .i64 r] 3)) = .ok (.slice (some ⟨g, 0, none⟩) (rs.length + 1) cap) w5 ∧
      w5.cell? ⟨mb, 1, none⟩ = some rv ∧ (∀ j, w5.frozen? ⟨mb, j, none⟩ = false) ∧ mb < w5.heap.size ∧
      Hid (MkAt (w5.setCell ⟨mb, 1, none⟩ (.slice (some ⟨g, 0, none⟩) (rs.length + 1) cap)) mb mp ts (rs ++ [r]) tv (.slice (some ⟨g, 0, none⟩) (rs.length + 1) cap)) ∧
      Hid (MkKept mb mp tv rv tv (.slice (some ⟨g, 0, none⟩) (rs.length + 1) cap) W (w5.setCell ⟨mb, 1, none⟩ (.slice (some ⟨g, 0, none⟩) (rs.length + 1) cap))) := by
  obtain ⟨i0, hi, hz0, hz1, hz2⟩ := info_parts qs5
  have hlt := h.lt
  obtain ⟨g, cap, w5, hr, hown, hgrow, hat, _⟩ := run_append_lies (P := Tryz.prog) (W.alloc (.cells #[.int .i64 r] 3)) 29 ty (mb + 1) 3 i0 _ 1 8 Tryz.underlying29 hi hz0 hz1 hz2 rfl (by omega) rv rs.length (qj5 rs) (World.ownsRow.alloc h.ars _)
    ⟨W.heap.size, 0, none⟩ 1 1 [.int .i64 r] rfl (World.news_of_block (cs := #[.int .i64 r]) (t := 3) (fr := (0, 0)) (heap_alloc_new W _)) (by simp [Value.oneCell']) (by omega) (by unfold maxLen; omega) (by omega) (by simp; omega) _ rfl
  obtain ⟨hm5, hk5⟩ := h.root hown hgrow hat rfl
  have hmb : w5.heap[mb]? = W.heap[mb]? := (hgrow.block mb (by simp; omega) (fun e => by have := (h.ars.lt mb e.symm).1; omega)).trans (Below.heap_alloc W _ mb hlt)
  have hz5 := hgrow.size
  refine ⟨g, cap, w5, hr, ?_, fun j => ?_, ?_, v6 hm5, v6 hk5⟩
  · exact (World.cell?_of_block (w := W) (w' := w5) (a := ⟨mb, 1, none⟩) hmb).trans h.c1
  · exact (World.frozen?_of_block (w := W) (w' := w5) (a := ⟨mb, j, none⟩) hmb).trans (h.fz j)
  · simp at hz5
    omega
set_option maxHeartbeats 1000000 in
theorem jm8 (c : Co) (hg : vf3 c) (B E mb mp : Nat) (W : World) (v : Value) (ts : List Tm) (rs : List Nat) (tv rv : Value) (hm : MkAt W mb mp ts rs tv rv) (hs : CoAt B E W v c) (hE : E ≤ W.heap.size) (ho : Out B E mb mp tv rv) (hn : ts.length + qs1 c ≤ 2500000000) (hr : rs.length ≤ 1000)
    (Q : Ending → World → Prop) (hQ : ∀ w' tv' rv', MkAt w' mb mp (j9 ts c).1 (rs ++ [(j9 ts c).2]) tv' rv' → MkKept mb mp tv rv tv' rv' W w' → Q (.returned (.tuple #[])) w') :
    Calls Tryz.prog 38 #[.pointer (some ⟨mb, 0, none⟩), v] W Q := by
  have HQ := v6 hQ
  have PL : Hid _ := v6 (vu4 c hg B E mb mp W.drew v ts rs tv rv hm.drew (CoAt.keep (w := W) (w' := W.drew) (Nat.le_refl _) (fun _ _ _ => rfl) (Nat.le_refl _) hs) hE ho hn)
  have c1 := hm.c1
  have lt0 := hm.lt
  obtain ⟨b, p, l, r, rfl, _⟩ := hs.head
  unfold PlEnds at PL
  change Hid (Calls _ _ #[_, .pointer (some ⟨b, 0, none⟩)] _ fun e W' => ∃ tv', e = .returned (.int .i64 ((j9 ts c).2 : Int)) ∧ MkAt W' mb mp (j9 ts c).1 rs tv' rv ∧ MkKept mb mp tv rv tv' rv W.drew W') at PL
  change Calls _ _ #[_, .pointer (some ⟨b, 0, none⟩)] _ _
  generalize j9 ts c = R at *
  obtain ⟨ts', i⟩ := R
  simp only at PL HQ
  clear hQ hm hs ho
  go_enter Tryz.func38, Tryz.ntmps38
  go_region_with (go_at_call 62; refine (q9 PL).mono ?_; rintro e w4 ⟨tv4, rfl, hm4, hk4⟩; have c4 := hm4.c1; have f4 := hm4.fz; have lt4 := hm4.lt; obtain ⟨g, cap, w5, hap, c5, f5, lt5, HM5, HK5⟩ := hm4.appRoot i hr 29; have HK4 := v6 hk4.drew'; clear hm4 hk4)
  all_goals go_wp2_with fail
  all_goals exact bodyPost_end (results_none rfl _ _ _) rfl (q9 HQ _ _ _ (q9 HM5) ((q9 HK4).trans (q9 HK5)))
end
end Go.Proofs.YtfkcaldjphakpabGreatDoor
