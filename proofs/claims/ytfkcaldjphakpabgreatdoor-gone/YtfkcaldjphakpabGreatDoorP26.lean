/- How long the texts of a selector's cores are at most. Every core of a selector is short enough. Rows of elements of several cells: copy, clear, append onto a row's own part. slices.Insert and slices.Clone of subscriptions. slices.Insert of subscriptions, in the middle. slices.Insert of subscriptions where there is room; slices.Clone. slices.Delete of one subscription. -/
import Derived.Test.YtfkcaldjphakpabGreatDoorP18
import Derived.Test.YtfkcaldjphakpabGreatDoorP34
import Derived.Test.YtfkcaldjphakpabGreatDoorP25
import Derived.Lib.Overlaps
import Derived.Lib.AppendZerosOnto
import Derived.Lib.SliceRun
namespace Go.Proofs.YtfkcaldjphakpabGreatDoor
open Go.RowKit
section
theorem dem_true {want pl : Int} : ∀ {rs : List CRes} {fit : Bool}, dem want pl rs fit = none → fit = true := by
  intro rs
  induction rs with
  | nil => intro fit h; cases fit; cases h; rfl
  | cons r t ih =>
    intro fit h
    cases r with
    | err q => cases h
    | ok c =>
      have := ih (fit := fit && (c == want || c == 0)) h
      rw [Bool.and_eq_true] at this
      exact this.1
theorem dem_none {want pl : Int} : ∀ {rs : List CRes} {fit : Bool}, dem want pl rs fit = none → ∀ r ∈ rs, ∃ c, r = .ok c ∧ (c = want ∨ c = 0) := by
  intro rs
  induction rs with
  | nil => intro fit _ r hr; cases hr
  | cons r t ih =>
    intro fit h
    cases r with
    | err q => cases h
    | ok c =>
      have h' : dem want pl t (fit && (c == want || c == 0)) = none := h
      have hf := dem_true h'
      rw [Bool.and_eq_true, Bool.or_eq_true, beq_iff_eq, beq_iff_eq] at hf
      intro r hr
      rcases List.mem_cons.1 hr with rfl | hr
      · exact ⟨c, rfl, hf.2⟩
      · exact ih h' r hr
theorem qn9 {want pl c d : Int} {rs : List CRes} (h : vg2 want pl c rs = .ok d) : ∀ r ∈ rs, ∃ c, r = .ok c ∧ (c = want ∨ c = 0) := by
  unfold vg2 at h
  split at h
  · rename_i hd; exact dem_none hd
  · cases h
theorem vu9 {pl c : Int} {a b : CRes} (h : qk0 pl a b = .ok c) : (∃ c, a = .ok c) ∧ ∃ c, b = .ok c := by
  cases a with
  | err q => cases h
  | ok x =>
    cases b with
    | err q => cases h
    | ok y => exact ⟨⟨x, rfl⟩, ⟨y, rfl⟩⟩
def ArA : Ast → Prop
  | .leaf p => p.op = 0 ∨ p.op = 1
  | .un p x => (p.op = 14 ∨ p.op = 15) ∧ ArA x
  | .bin p x y => 16 ≤ p.op ∧ p.op ≤ 19 ∧ ArA x ∧ ArA y
  | .tri _ _ _ _ => False
theorem vm9 : ∀ t c, ShA t → qa1 t = .ok c → (c = 1 ∨ c = 0) → ArA t := by
  intro t
  induction t with
  | leaf p =>
    intro c hs hc h
    have hc : qs2 p.op p.place [] = .ok c := hc
    have hs : 0 ≤ p.op ∧ p.op ≤ 4 := hs
    rcases (show p.op = 0 ∨ p.op = 1 ∨ p.op = 2 ∨ p.op = 3 ∨ p.op = 4 by omega) with e | e | e | e | e
    · exact .inl e
    · exact .inr e
    all_goals (rw [e] at hc; injection hc with hc; omega)
  | un p x ih =>
    intro c hs hc h
    have hc : qs2 p.op p.place [qa1 x] = .ok c := hc
    rcases hs.1 with e | e | e | e | e | e
    · rw [e] at hc
      have hc : vg2 3 p.place 3 [qa1 x] = .ok c := hc
      exfalso
      unfold vg2 at hc
      split at hc
      · injection hc with hc; omega
      · cases hc
    · rw [e] at hc
      obtain ⟨d, h1, h2⟩ := qn9 (show vg2 1 p.place 1 [qa1 x] = .ok c from hc) (qa1 x) (by simp)
      exact ⟨.inl e, ih d hs.2.2.2 h1 h2⟩
    · rw [e] at hc
      obtain ⟨d, h1, h2⟩ := qn9 (show vg2 1 p.place 1 [qa1 x] = .ok c from hc) (qa1 x) (by simp)
      exact ⟨.inr e, ih d hs.2.2.2 h1 h2⟩
    all_goals (rw [e] at hc; injection hc with hc; omega)
  | bin p x y ihx ihy =>
    intro c hs hc h
    have hc : qs2 p.op p.place [qa1 x, qa1 y] = .ok c := hc
    have d3 : ∀ w, vg2 w p.place 3 [qa1 x, qa1 y] = .ok c → False := fun w hc => by
      unfold vg2 at hc
      split at hc
      · injection hc with hc; omega
      · cases hc
    have a3 : qk0 p.place (qa1 x) (qa1 y) = .ok c → False := fun hc => by
      obtain ⟨⟨a, ea⟩, b, eb⟩ := vu9 hc
      rw [ea, eb] at hc
      have hc : (if (a != b && a != 0 && b != 0) = true then CRes.err p.place else CRes.ok 3) = .ok c := hc
      split at hc
      · cases hc
      · injection hc with hc; omega
    have d1 : vg2 1 p.place 1 [qa1 x, qa1 y] = .ok c → ArA x ∧ ArA y := fun hc => by
      obtain ⟨d, h1, h2⟩ := qn9 hc (qa1 x) (by simp)
      obtain ⟨e, h3, h4⟩ := qn9 hc (qa1 y) (by simp)
      exact ⟨ihx d hs.2.1 h1 h2, ihy e hs.2.2 h3 h4⟩
    rcases (show p.op = 6 ∨ p.op = 7 ∨ p.op = 8 ∨ p.op = 9 ∨ p.op = 10 ∨ p.op = 11 ∨ p.op = 12 ∨ p.op = 13 ∨ p.op = 16 ∨ p.op = 17 ∨ p.op = 18 ∨ p.op = 19 by have := hs.1; omega) with e | e | e | e | e | e | e | e | e | e | e | e
    · rw [e] at hc; exact absurd hc (d3 3)
    · rw [e] at hc; exact absurd hc (d3 3)
    · rw [e] at hc; exact absurd hc a3
    · rw [e] at hc; exact absurd hc a3
    · rw [e] at hc; exact absurd hc (d3 1)
    · rw [e] at hc; exact absurd hc (d3 1)
    · rw [e] at hc; exact absurd hc (d3 1)
    · rw [e] at hc; exact absurd hc (d3 1)
    all_goals (rw [e] at hc; exact ⟨by omega, by omega, (d1 hc).1, (d1 hc).2⟩)
  | tri p x y z ihx ihy ihz =>
    intro c hs hc h
    have hc : qs2 p.op p.place [qa1 x, qa1 y, qa1 z] = .ok c := hc
    rw [hs.1] at hc
    have hc : vg2 1 p.place 3 [qa1 x, qa1 y, qa1 z] = .ok c := hc
    exfalso
    unfold vg2 at hc
    split at hc
    · injection hc with hc; omega
    · cases hc
theorem vh3 (p : CP) (hs : p.str.length ≤ 200) (hn : Rng p.num) (ho : qi9 p.op = true) : (z9 (.leaf p)).length ≤ 402 := by
  show (y8 p [] []).length ≤ 402
  have hq := vk1 p.str
  have hi := Lib.itoa_length_le p.num hn.1 hn.2
  unfold qi9 at ho
  simp only [Bool.or_eq_true, beq_iff_eq] at ho
  unfold y8
  rcases ho with (((e | e) | e) | e) | e
  · rw [e]; show p.str.length ≤ 402; omega
  · rw [e]; show (Lib.itoa p.num).length ≤ 402; omega
  · rw [e]; show (qL p.str).length ≤ 402; omega
  · rw [e]; show 4 ≤ 402; omega
  · rw [e]; show 5 ≤ 402; omega
theorem vh4 : (z9 (vp6 0)).length ≤ 21 := Lib.itoa_length_le 0 (by decide) (by decide)
theorem ar_len : ∀ t, ArA t → vd8 t → ve4 t → (z9 (j4 t)).length ≤ 500 * ndA t := by
  intro t
  induction t with
  | leaf p =>
    intro ha hb hn
    have := vh3 (va7 p) hb.1 hn (by unfold qi9; rcases ha with e | e <;> simp [va7, e])
    show (z9 (.leaf (va7 p))).length ≤ 500 * 1
    omega
  | un p x ih =>
    intro ha hb hn
    have h := ih ha.2 hb.2 hn.2
    have hz : (z9 (vp6 0)).length ≤ 21 := vh4
    have hnd : ndA (.un p x) = 1 + p.texts.length + ndA x := rfl
    rcases ha.1 with e | e
    · have : j4 (.un p x) = z8 16 (vp6 0) (j4 x) := by rw [j4, e]; rfl
      rw [this, qa0 16 rfl rfl, hnd]
      have : (qk8 16).length = 1 := rfl
      omega
    · have : j4 (.un p x) = z8 17 (vp6 0) (j4 x) := by rw [j4, e]; rfl
      rw [this, qa0 17 rfl rfl, hnd]
      have : (qk8 17).length = 1 := rfl
      omega
  | bin p x y ihx ihy =>
    intro ha hb hn
    obtain ⟨h1, h2, ax, ay⟩ := ha
    have hx := ihx ax hb.2.1 hn.2.1
    have hy := ihy ay hb.2.2 hn.2.2
    have hnd : ndA (.bin p x y) = 1 + ndA x + ndA y := rfl
    have hsg := vd0 p.op
    have : j4 (.bin p x y) = z8 p.op (j4 x) (j4 y) := by
      rw [j4, if_neg (by simp; omega), if_neg (by simp; omega), if_neg (by simp; omega)]
    rw [this, qa0 p.op (by unfold qi9; simp; omega) (by unfold unB; simp; omega), hnd]
    omega
  | tri p x y z ihx ihy ihz => intro ha; exact absurd ha id
end
section
theorem jj3 {zs : List (List UInt8)} {x : List UInt8} (h : x ∈ Lib.compact zs) : x ∈ zs := by
  unfold Lib.compact Lib.compactUpTo at h
  obtain ⟨i, hi, rfl⟩ := List.mem_map.1 h
  have hi := List.mem_range.1 (List.mem_filter.1 hi).1
  have : zs.toArray[i]! = zs[i] := by simp [hi]
  rw [this]
  exact List.getElem_mem _
theorem vh8 (zs : List (List UInt8)) : (Lib.compact zs).length ≤ zs.length := by
  unfold Lib.compact Lib.compactUpTo
  rw [List.length_map]
  exact Nat.le_trans (List.length_filter_le _ _) (by rw [List.length_range]; exact Nat.le_refl _)
theorem za0 {zs : List (List UInt8)} (h : zs ≠ []) : Lib.compact zs ≠ [] := by
  cases zs with
  | nil => exact absurd rfl h
  | cons a r =>
    intro e
    unfold Lib.compact Lib.compactUpTo at e
    rw [List.map_eq_nil_iff] at e
    have : 0 ∈ (List.range (a :: r).length).filter (Lib.keeps (a :: r).toArray) := List.mem_filter.2 ⟨List.mem_range.2 (by simp), Lib.keeps_lt_one _ 0 (by decide)⟩
    rw [e] at this
    cases this
theorem vj2 {ts : List (List UInt8)} {x : List UInt8} (h : x ∈ qr4 ts) : x ∈ ts := by
  unfold qr4 at h
  exact (List.mem_mergeSort).1 (jj3 h)
theorem jb8 (ts : List (List UInt8)) : (qr4 ts).length ≤ ts.length := by
  unfold qr4
  exact Nat.le_trans (vh8 _) (by rw [List.length_mergeSort]; exact Nat.le_refl _)
theorem jp2 {ts : List (List UInt8)} (h : ts ≠ []) : qr4 ts ≠ [] := by
  unfold qr4
  refine za0 (fun e => h ?_)
  have := congrArg List.length e
  rw [List.length_mergeSort] at this
  exact List.eq_nil_of_length_eq_zero this
theorem qx0 (t : List UInt8) (h : t.length ≤ 200) : (z9 (qp5 t)).length ≤ 402 := by
  show (qL t).length ≤ 402
  have := vk1 t
  omega
theorem vy8 (x : Co) : ∀ (r : List (List UInt8)) (f : Co), (∀ t ∈ r, t.length ≤ 200) → (z9 (qx6 x f r)).length ≤ (z9 f).length + r.length * ((z9 x).length + 420) := by
  intro r
  induction r with
  | nil => intro f _; show (z9 f).length ≤ _; omega
  | cons t r ih =>
    intro f h
    have h1 := ih (z8 7 f (z8 8 x (qp5 t))) (fun u hu => h u (List.mem_cons_of_mem _ hu))
    rw [qa0 7 rfl rfl, qa0 8 rfl rfl] at h1
    have h2 := qx0 t (h t List.mem_cons_self)
    have e7 : (qk8 7).length = 2 := rfl
    have e8 : (qk8 8).length = 1 := rfl
    show (z9 (qx6 x (z8 7 f (z8 8 x (qp5 t))) r)).length ≤ _
    rw [List.length_cons, Nat.succ_mul]
    omega
theorem orAll_u (x : Co) : ∀ (r : List (List UInt8)) (f : Co), uC (qx6 x f r) = uC f + r.length := by
  intro r
  induction r with
  | nil => intro f; rfl
  | cons t r ih =>
    intro f
    show uC (qx6 x (z8 7 f (z8 8 x (qp5 t))) r) = _
    rw [ih, qj5, qj5]
    show uC f + 1 + r.length = _
    rw [List.length_cons]; omega
theorem orAll_wf {x : Co} (hx : WfC x) : ∀ (r : List (List UInt8)) (f : Co), WfC f → WfC (qx6 x f r) := by
  intro r
  induction r with
  | nil => intro f h; exact h
  | cons t r ih => intro f h; exact ih _ (qg7 rfl h (qg7 rfl hx rfl))
theorem qw9 {x : Ast} (hs : ShA x) (h : opA x = 0) : ∃ q, x = .leaf q ∧ q.op = 0 := by
  cases x with
  | leaf q => exact ⟨q, rfl, h⟩
  | un p y => have := hs.1; have h : p.op = 0 := h; omega
  | bin p y z => have := hs.1; have h : p.op = 0 := h; omega
  | tri p y z u => have := hs.1; have h : p.op = 0 := h; omega
theorem sq_add (a b : Nat) (k : Nat) (hk : k ≤ 3000) : 3000 * (a * a) + 3000 * (b * b) + k ≤ 3000 * ((1 + a + b) * (1 + a + b)) := by
  have : (1 + a + b) * (1 + a + b) = a * a + b * b + 2 * (a * b) + 2 * a + 2 * b + 1 := by
    simp only [Nat.add_mul, Nat.mul_add, Nat.one_mul, Nat.mul_one]
    have := Nat.mul_comm b a
    omega
  rw [this]
  omega
theorem vy6 (a m : Nat) (k : Nat) (hk : k ≤ 3000 + 6000 * a) : 3000 * (a * a) + k ≤ 3000 * ((1 + m + a) * (1 + m + a)) := by
  have h1 : (1 + a) * (1 + a) ≤ (1 + m + a) * (1 + m + a) := Nat.mul_le_mul (by omega) (by omega)
  have h2 : (1 + a) * (1 + a) = a * a + 2 * a + 1 := by
    simp only [Nat.add_mul, Nat.mul_add, Nat.one_mul, Nat.mul_one]
    omega
  omega
structure Gd (t : Ast) : Prop where
  len : (z9 (j4 t)).length ≤ 3000 * (ndA t * ndA t)
  un : uC (j4 t) ≤ ndA t
  wf : WfC (j4 t)
theorem nd_pos : ∀ t, 1 ≤ ndA t := by
  intro t
  cases t <;> (unfold ndA; omega)
def GdA : Ast → Prop
  | .leaf p => Gd (.leaf p)
  | .un p x => Gd (.un p x) ∧ GdA x
  | .bin p x y => Gd (.bin p x y) ∧ GdA x ∧ GdA y
  | .tri p x y z => Gd (.tri p x y z) ∧ GdA x ∧ GdA y ∧ GdA z
theorem GdA.gd {t : Ast} (h : GdA t) : Gd t := by
  cases t with
  | leaf p => exact h
  | un p x => exact h.1
  | bin p x y => exact h.1
  | tri p x y z => exact h.1
theorem gd_leaf (p : Pay) (hs : ShA (.leaf p)) (hb : vd8 (.leaf p)) (hn : ve4 (.leaf p)) : Gd (.leaf p) := by
  have hl : qi9 (va7 p).op = true := by
    have hs : 0 ≤ p.op ∧ p.op ≤ 4 := hs
    unfold qi9 va7
    simp only [Bool.or_eq_true, beq_iff_eq]
    omega
  refine ⟨?_, Nat.le_refl _, hl⟩
  have := vh3 (va7 p) hb.1 hn hl
  show (z9 (.leaf (va7 p))).length ≤ 3000 * (1 * 1)
  omega
theorem jf7 {op : Int} (hop : binB op = true) {p : Pay} {x y : Ast} (hx : Gd x) (hy : Gd y) (u v : Co) (hu : (u = j4 x ∧ v = j4 y) ∨ (u = j4 y ∧ v = j4 x)) (he : j4 (.bin p x y) = z8 op u v) : Gd (.bin p x y) := by
  have h12 : qi9 op = false ∧ unB op = false := by
    unfold binB at hop
    simpa using hop
  have hl : (z9 u).length + (z9 v).length = (z9 (j4 x)).length + (z9 (j4 y)).length := by rcases hu with ⟨rfl, rfl⟩ | ⟨rfl, rfl⟩ <;> omega
  have hc : uC u + uC v = uC (j4 x) + uC (j4 y) := by rcases hu with ⟨rfl, rfl⟩ | ⟨rfl, rfl⟩ <;> omega
  have hw : WfC u ∧ WfC v := by
    rcases hu with ⟨rfl, rfl⟩ | ⟨rfl, rfl⟩
    · exact ⟨hx.wf, hy.wf⟩
    · exact ⟨hy.wf, hx.wf⟩
  have hsg := vd0 op
  have h1 := hx.len
  have h2 := hy.len
  have h3 := hx.un
  have h4 := hy.un
  have hnd : ndA (.bin p x y) = 1 + ndA x + ndA y := rfl
  refine ⟨?_, ?_, ?_⟩
  · rw [he, qa0 op h12.1 h12.2, hnd]
    have := sq_add (ndA x) (ndA y) 7 (by decide)
    omega
  · rw [he, qj5, hnd]
    split <;> omega
  · rw [he]; exact qg7 hop hw.1 hw.2
theorem gd_every : ∀ t, ShA t → vd8 t → ve4 t → BqA t → (∃ c, qa1 t = .ok c) → GdA t := by
  intro t
  induction t with
  | leaf p => intro hs hb hn _ _; exact gd_leaf p hs hb hn
  | un p x ih =>
    intro hs hb hn hq hc
    obtain ⟨c, hc⟩ := hc
    have hc : qs2 p.op p.place [qa1 x] = .ok c := hc
    have hcx : ∃ d, qa1 x = .ok d := by
      rcases hs.1 with e | e | e | e | e | e
      · rw [e] at hc
        obtain ⟨d, h1, _⟩ := qn9 (show vg2 3 p.place 3 [qa1 x] = .ok c from hc) (qa1 x) (by simp)
        exact ⟨d, h1⟩
      · rw [e] at hc
        obtain ⟨d, h1, _⟩ := qn9 (show vg2 1 p.place 1 [qa1 x] = .ok c from hc) (qa1 x) (by simp)
        exact ⟨d, h1⟩
      · rw [e] at hc
        obtain ⟨d, h1, _⟩ := qn9 (show vg2 1 p.place 1 [qa1 x] = .ok c from hc) (qa1 x) (by simp)
        exact ⟨d, h1⟩
      all_goals
        obtain ⟨q, rfl, hq0⟩ := qw9 hs.2.2.2 (hs.2.2.1 (by omega))
        exact ⟨0, by show qs2 q.op q.place [] = .ok 0; rw [hq0]; rfl⟩
    have hx := ih hs.2.2.2 hb.2 hn.2 hq.2 hcx
    refine ⟨?_, hx⟩
    have gx := hx.gd
    have h1 := gx.len
    have h2 := gx.un
    have h3 := nd_pos x
    have hnd : ndA (.un p x) = 1 + p.texts.length + ndA x := rfl
    have hz := vh4
    rcases hs.1 with e | e | e | e | e | e
    · have he : j4 (.un p x) = qh8 (j4 x) := by rw [j4, e]; rfl
      have hl := qp9 (j4 x) gx.wf
      refine ⟨?_, by rw [he, uC_not, hnd]; omega, by rw [he]; exact wfC_not _ gx.wf⟩
      rw [he, hnd]
      have := vy6 (ndA x) p.texts.length (7 * ndA x) (by omega)
      omega
    · have he : j4 (.un p x) = z8 16 (vp6 0) (j4 x) := by rw [j4, e]; rfl
      have e16 : (qk8 16).length = 1 := rfl
      refine ⟨?_, by rw [he, qj5, hnd]; show 1 ≤ _; omega, by rw [he]; exact qg7 rfl rfl gx.wf⟩
      rw [he, qa0 16 rfl rfl, hnd]
      have := vy6 (ndA x) p.texts.length 30 (by omega)
      omega
    · have he : j4 (.un p x) = z8 17 (vp6 0) (j4 x) := by rw [j4, e]; rfl
      have e17 : (qk8 17).length = 1 := rfl
      refine ⟨?_, by rw [he, qj5, hnd]; show 1 ≤ _; omega, by rw [he]; exact qg7 rfl rfl gx.wf⟩
      rw [he, qa0 17 rfl rfl, hnd]
      have := vy6 (ndA x) p.texts.length 30 (by omega)
      omega
    · have he : j4 (.un p x) = qv8 (j4 x) p.texts := by rw [j4, e]; rfl
      have hne := jp2 (hs.2.1 e)
      have hsl := jb8 p.texts
      have hm : ∀ u ∈ qr4 p.texts, u.length ≤ 200 := fun u hu => hq.1.2 u (vj2 hu)
      obtain ⟨q, rfl, hq0⟩ := qw9 hs.2.2.2 (hs.2.2.1 (by omega))
      have hlx : (z9 (j4 (.leaf q))).length ≤ 402 := vh3 (va7 q) hb.2.1 hn.2 (by unfold qi9; simp [va7, hq0])
      cases hsort : qr4 p.texts with
      | nil => exact absurd hsort hne
      | cons u r =>
        rw [hsort] at hm hsl
        have he2 : j4 (.un p (.leaf q)) = qx6 (j4 (.leaf q)) (z8 8 (j4 (.leaf q)) (qp5 u)) r := by rw [he, qv8, hsort]
        have hol := vy8 (j4 (.leaf q)) r (z8 8 (j4 (.leaf q)) (qp5 u)) (fun y hy => hm y (List.mem_cons_of_mem _ hy))
        rw [qa0 8 rfl rfl] at hol
        have htl := qx0 u (hm u List.mem_cons_self)
        have e8 : (qk8 8).length = 1 := rfl
        rw [List.length_cons] at hsl
        refine ⟨?_, ?_, ?_⟩
        · rw [he2, hnd]
          have hmul : r.length * ((z9 (j4 (.leaf q))).length + 420) ≤ r.length * 822 := Nat.mul_le_mul_left _ (by omega)
          have hsq : (1 + p.texts.length + ndA (.leaf q)) * 1 ≤ (1 + p.texts.length + ndA (.leaf q)) * (1 + p.texts.length + ndA (.leaf q)) := Nat.mul_le_mul_left _ (by omega)
          omega
        · rw [he2, orAll_u, qj5, hnd]
          show 1 + _ ≤ _
          omega
        · rw [he2]
          exact orAll_wf gx.wf _ _ (qg7 rfl gx.wf rfl)
    · have he : j4 (.un p x) = .un (va7 p) (j4 x) := by rw [j4, e]; rfl
      have hl : (z9 (.un (va7 p) (j4 x))).length ≤ (z9 (j4 x)).length + 830 := by
        show (y8 (va7 p) (z9 (j4 x)) []).length ≤ _
        have a := vk1 p.str
        have b := vk1 p.esc
        have c1 := hb.1.1
        have c2 := hq.1.1
        have d : (escT p.esc).length ≤ 8 + (qL p.esc).length := by unfold escT; split <;> simp <;> omega
        rw [y8]
        simp only [va7, e]
        simp
        omega
      refine ⟨?_, by rw [he, hnd]; show uC (j4 x) ≤ _; omega, by rw [he]; exact ⟨by unfold unB; simp [va7, e], gx.wf⟩⟩
      rw [he, hnd]
      have := vy6 (ndA x) p.texts.length 830 (by omega)
      omega
    · have he : j4 (.un p x) = .un (va7 p) (j4 x) := by rw [j4, e]; rfl
      have hl : (z9 (.un (va7 p) (j4 x))).length = (z9 (j4 x)).length + 10 := by
        show (y8 (va7 p) (z9 (j4 x)) []).length = _
        rw [y8]
        simp only [va7, e]
        simp
      refine ⟨?_, by rw [he, hnd]; show uC (j4 x) ≤ _; omega, by rw [he]; exact ⟨by unfold unB; simp [va7, e], gx.wf⟩⟩
      rw [he, hnd]
      have := vy6 (ndA x) p.texts.length 10 (by omega)
      omega
  | bin p x y ihx ihy =>
    intro hs hb hn hq hc
    obtain ⟨c, hc⟩ := hc
    have hc : qs2 p.op p.place [qa1 x, qa1 y] = .ok c := hc
    have hcs : (∃ d, qa1 x = .ok d) ∧ ∃ d, qa1 y = .ok d := by
      have dm : ∀ w k, vg2 w p.place k [qa1 x, qa1 y] = .ok c → (∃ d, qa1 x = .ok d) ∧ ∃ d, qa1 y = .ok d := fun w k h => by
        obtain ⟨d, h1, _⟩ := qn9 h (qa1 x) (by simp)
        obtain ⟨e, h3, _⟩ := qn9 h (qa1 y) (by simp)
        exact ⟨⟨d, h1⟩, ⟨e, h3⟩⟩
      rcases (show p.op = 6 ∨ p.op = 7 ∨ p.op = 8 ∨ p.op = 9 ∨ p.op = 10 ∨ p.op = 11 ∨ p.op = 12 ∨ p.op = 13 ∨ p.op = 16 ∨ p.op = 17 ∨ p.op = 18 ∨ p.op = 19 by have := hs.1; omega) with e | e | e | e | e | e | e | e | e | e | e | e <;> rw [e] at hc
      · exact dm 3 3 hc
      · exact dm 3 3 hc
      · exact vu9 (show qk0 p.place (qa1 x) (qa1 y) = .ok c from hc)
      · exact vu9 (show qk0 p.place (qa1 x) (qa1 y) = .ok c from hc)
      · exact dm 1 3 hc
      · exact dm 1 3 hc
      · exact dm 1 3 hc
      · exact dm 1 3 hc
      · exact dm 1 1 hc
      · exact dm 1 1 hc
      · exact dm 1 1 hc
      · exact dm 1 1 hc
    have hx := ihx hs.2.1 hb.2.1 hn.2.1 hq.2.1 hcs.1
    have hy := ihy hs.2.2 hb.2.2 hn.2.2 hq.2.2 hcs.2
    refine ⟨?_, hx, hy⟩
    have gx := hx.gd
    have gy := hy.gd
    by_cases h12 : p.op = 12
    · exact jf7 (op := 10) rfl gx gy (j4 y) (j4 x) (.inr ⟨rfl, rfl⟩) (by rw [j4, h12]; rfl)
    by_cases h13 : p.op = 13
    · exact jf7 (op := 11) rfl gx gy (j4 y) (j4 x) (.inr ⟨rfl, rfl⟩) (by rw [j4, h13]; rfl)
    by_cases h9 : p.op = 9
    · have he : j4 (.bin p x y) = qh8 (z8 8 (j4 x) (j4 y)) := by rw [j4, h9]; rfl
      have hw : WfC (z8 8 (j4 x) (j4 y)) := qg7 rfl gx.wf gy.wf
      have hl := qp9 _ hw
      have hu : uC (z8 8 (j4 x) (j4 y)) = 1 := by rw [qj5]; rfl
      rw [hu, qa0 8 rfl rfl] at hl
      have e8 : (qk8 8).length = 1 := rfl
      have h1 := gx.len
      have h2 := gy.len
      have hnd : ndA (.bin p x y) = 1 + ndA x + ndA y := rfl
      refine ⟨?_, by rw [he, uC_not, hu, hnd]; omega, by rw [he]; exact wfC_not _ hw⟩
      rw [he, hnd]
      have := sq_add (ndA x) (ndA y) 20 (by decide)
      omega
    · refine jf7 (op := p.op) ?_ gx gy (j4 x) (j4 y) (.inl ⟨rfl, rfl⟩) (by rw [j4, if_neg (by simpa using h12), if_neg (by simpa using h13), if_neg (by simpa using h9)])
      have := hs.1
      unfold binB qi9 unB
      simp only [Bool.and_eq_true, Bool.not_eq_true', Bool.or_eq_false_iff, beq_eq_false_iff_ne]
      omega
  | tri p x y z ihx ihy ihz =>
    intro hs hb hn hq hc
    obtain ⟨c, hc⟩ := hc
    have hc : qs2 p.op p.place [qa1 x, qa1 y, qa1 z] = .ok c := hc
    rw [hs.1] at hc
    have hc : vg2 1 p.place 3 [qa1 x, qa1 y, qa1 z] = .ok c := hc
    obtain ⟨d1, x1, x2⟩ := qn9 hc (qa1 x) (by simp)
    obtain ⟨d2, y1, y2⟩ := qn9 hc (qa1 y) (by simp)
    obtain ⟨d3, z1, z2⟩ := qn9 hc (qa1 z) (by simp)
    have hx := ihx hs.2.1 hb.2.1 hn.2.1 hq.2.1 ⟨_, x1⟩
    have hy := ihy hs.2.2.1 hb.2.2.1 hn.2.2.1 hq.2.2.1 ⟨_, y1⟩
    have hz := ihz hs.2.2.2 hb.2.2.2 hn.2.2.2 hq.2.2.2 ⟨_, z1⟩
    refine ⟨?_, hx, hy, hz⟩
    have ax := ar_len x (vm9 x d1 hs.2.1 x1 x2) hb.2.1 hn.2.1
    have ay := ar_len y (vm9 y d2 hs.2.2.1 y1 y2) hb.2.2.1 hn.2.2.1
    have az := ar_len z (vm9 z d3 hs.2.2.2 z1 z2) hb.2.2.2 hn.2.2.2
    have gx := hx.gd.wf
    have gy := hy.gd.wf
    have gz := hz.gd.wf
    have he : j4 (.tri p x y z) = z8 6 (z8 11 (j4 y) (j4 x)) (z8 11 (j4 x) (j4 z)) := rfl
    have hnd : ndA (.tri p x y z) = 1 + ndA x + ndA y + ndA z := rfl
    have px := nd_pos x
    refine ⟨?_, by rw [he, qj5, qj5, qj5, hnd]; show 1 + 1 ≤ _; omega, by rw [he]; exact qg7 rfl (qg7 rfl gy gx) (qg7 rfl gx gz)⟩
    rw [he, qa0 6 rfl rfl, qa0 11 rfl rfl, qa0 11 rfl rfl, hnd]
    have e6 : (qk8 6).length = 3 := rfl
    have e11 : (qk8 11).length = 2 := rfl
    have hsq : (1 + ndA x + ndA y + ndA z) * 1 ≤ (1 + ndA x + ndA y + ndA z) * (1 + ndA x + ndA y + ndA z) := Nat.mul_le_mul_left _ (by omega)
    omega
theorem vs6 {s : ByteArray} {t : Ast} (h : qh5 s = .ok t) : GdA t ∧ ndA t ≤ 200 ∧ ShA t ∧ ve4 t ∧ vd8 t ∧ BqA t := by
  have hsh := vv7 h
  have hcls : ∃ c, qa1 t = .ok c ∧ ve4 t ∧ vd8 t ∧ BqA t := by
    unfold qh5 at h
    by_cases hs : s.size ≤ 200
    · rw [if_pos hs] at h
      cases he : (lvl s 12).E (v8 s st0) with
      | err en pl => rw [he] at h; cases h
      | ok t1 st =>
        rw [he] at h
        change jy3 t1 st = _ at h
        unfold jy3 at h
        split at h
        · split at h
          · rename_i hk
            injection h with h
            subst h
            cases hc : qa1 t1 with
            | err q => rw [hc] at hk; cases hk
            | ok c => exact ⟨c, rfl, ((jh7 s 12).E _ _ _ (qc0 s st0) he).1, ((jm2 s hs 12).E _ _ _ (j7 hs st0) he).1, ((lvl_bq s hs 12).E _ _ _ (j7 hs st0) he).1⟩
          · cases h
        · cases h
    · rw [if_neg hs] at h; cases h
  obtain ⟨c, hc, hn, hb, hq⟩ := hcls
  exact ⟨gd_every t hsh.1 hb hn hq ⟨c, hc⟩, hsh.2, hsh.1, hn, hb, hq⟩
end
section
variable {P : Program}
def qi4 (cur : Array Value) (o : Nat) (cs : List Value) : Array Value := (cur.toList.take o ++ cs ++ cur.toList.drop (o + cs.length)).toArray
theorem qq2 {cur : Array Value} {o : Nat} {cs : List Value} (h : o + cs.length ≤ cur.size) : (qi4 cur o cs).size = cur.size := by
  simp [qi4]
  omega
theorem qj7 (cur : Array Value) (o : Nat) (cs : List Value) : (qi4 cur o cs).toList = cur.toList.take o ++ cs ++ cur.toList.drop (o + cs.length) := by
  simp [qi4]
theorem qp4 (w : World) (dT sT ty elem : TypeId) (K g o dLen dCap n : Nat) (a : Addr) (sLen sCap : Nat) (cur : Array Value) (t : TypeId) (cs : List Value)
    (hu : P.underlying dT = some (.slice elem)) (hs : (P.info? elem).map (·.size) = some K)
    (hg : w.heap[g]? = some (.cells cur t (0, 0))) (hn : n = Nat.min sLen dLen) (hl : cs.length = n * K)
    (hsrc : ∀ j v, cs[j]? = some v → w.cell? (a.add j) = some v) (hfit : o + cs.length ≤ cur.size) (h1 : ∀ v ∈ cs, v.oneCell' = true) :
    (Builtin.copy_ #[dT, sT] ty #[.slice (some ⟨g, o, none⟩) dLen dCap, .slice (some a) sLen sCap]).run P w = .ok (goInt n) (w.setRow g (qi4 cur o cs)) := by
  have hld := run_loadCells_list (P := P) w a cs hsrc
  have hst := run_storeCells_at P g o t cs 0 cur w hg (by simpa using hfit) h1
  simp only [Nat.add_zero] at hst
  cases hq : P.info? elem with
  | none => simp [hq] at hs
  | some i =>
    have hi : i.size = K := by simpa [hq] using hs
    simp [Builtin.copy_, run_underlying hu, Builtin.lenOf, Builtin.firstCells, sizeOf, typeInfo, hq, hi, ← hn, ← hl, hld, hst, qi4]
theorem vg6 (w : World) (t ty elem : TypeId) (i0 : TypeInfo) (K g n cap m c : Nat) (a : Addr) (cur : Array Value) (tt : TypeId) (cs : List Value)
    (hu : P.underlying t = some (.slice elem)) (hi : P.info? elem = some i0) (hk : i0.size = K)
    (hg : w.heap[g]? = some (.cells cur tt (0, 0))) (hl : cs.length = m * K) (hroom : n + m ≤ cap)
    (hsrc : ∀ j v, cs[j]? = some v → w.cell? (a.add j) = some v) (hfit : n * K + cs.length ≤ cur.size) (h1 : ∀ v ∈ cs, v.oneCell' = true) :
    (Builtin.append_ #[t, t] ty #[.slice (some ⟨g, 0, none⟩) n cap, .slice (some a) m c]).run P w = .ok (.slice (some ⟨g, 0, none⟩) (n + m) cap) (w.setRow g (qi4 cur (n * K) cs)) := by
  have hld := run_loadCells_list (P := P) w a cs hsrc
  have hst := run_storeCells_at P g (n * K) tt cs 0 cur w hg (by simpa using hfit) h1
  simp only [Nat.add_zero] at hst
  have hadd : (⟨g, 0, none⟩ : Addr).add (n * K) = ⟨g, n * K, none⟩ := by unfold Addr.add; split <;> simp_all
  simp [Builtin.append_, run_underlying hu, Builtin.lenOf, Builtin.firstCells, sizeOf, typeInfo, hi, hk, hroom, ← hl, hld, hadd, hst, qi4]
theorem qw0 (z : Array Value) (n : Nat) : (Builtin.zeroCells z n).toList.length = n * z.size := by simp [Builtin.zeroCells]
theorem vu4 {z : Array Value} (n : Nat) (h : ∀ v ∈ z, v.oneCell' = true) : ∀ v ∈ (Builtin.zeroCells z n).toList, v.oneCell' = true := by
  intro v hv
  simp [Builtin.zeroCells] at hv
  obtain ⟨i, hi, rfl⟩ := hv
  have hz : 0 < z.size := by
    rcases Nat.eq_zero_or_pos z.size with e | e
    · rw [e] at hi; omega
    · exact e
  have := Nat.mod_lt i hz
  rw [getElem!_pos z (i % z.size) this]
  exact h _ (Array.getElem_mem _)
theorem jz0 (w : World) (t elem ty : TypeId) (z : Value) (K g o n c : Nat) (cur : Array Value) (tt : TypeId)
    (hu : P.underlying t = some (.slice elem)) (hv : ∀ w, (zeroValue elem).run P w = .ok z w) (hzs : z.cells.size = K) (h1 : ∀ v ∈ z.cells, v.oneCell' = true)
    (hg : w.heap[g]? = some (.cells cur tt (0, 0))) (hfit : o + (n + 1) * K ≤ cur.size) :
    (Builtin.clear_ #[t] ty #[.slice (some ⟨g, o, none⟩) (n + 1) c]).run P w = .ok (.tuple #[]) (w.setRow g (qi4 cur o (Builtin.zeroCells z.cells (n + 1)).toList)) := by
  have hst := run_storeCells_at P g o tt (Builtin.zeroCells z.cells (n + 1)).toList 0 cur w hg (by rw [qw0, hzs]; simpa using hfit) (vu4 _ h1)
  simp only [Nat.add_zero] at hst
  simp [Builtin.clear_, run_underlying hu, hv, hst, qi4]
theorem qe9 {w : World} {base : Nat} {e : TypeId} {size g n cap : Nat} {xs : List Value} (h : w.ownsRow base e size (.slice (some ⟨g, 0, none⟩) n cap) n xs) : base ≤ g ∧ n ≤ cap ∧ cap ≤ maxLen ∧ ∃ cur, w.heap[g]? = some (.cells cur e (0, 0)) ∧ cur.size = cap * size ∧ cur.toList.take (n * size) = xs := by
  rcases h.2 with ⟨hv, _⟩ | ⟨g', cap', cur0, hv, hb, hh, hnc, hcm, hcs, hx⟩
  · simp at hv
  · simp at hv
    obtain ⟨rfl, rfl⟩ := hv
    exact ⟨hb, hnc, hcm, cur0, hh, hcs, hx⟩
theorem qh2 (w : World) (g : Nat) (cur : Array Value) : w.grownBy (w.setRow g cur) (some g) := ⟨rfl, rfl, rfl, by simp, fun k _ hk => setRow_other w g k cur (fun e => hk (by rw [e]))⟩
theorem qu9 {a b c : World} {r : Option Nat} (h : a.grownBy b r) (k : b.grownBy c r) : a.grownBy c r := ⟨k.os.trans h.os, k.tape.trans h.tape, k.output.trans h.output, Nat.le_trans h.size k.size, fun i h1 h2 => (k.block i (Nat.lt_of_lt_of_le h1 h.size) h2).trans (h.block i h1 h2)⟩
theorem ji4 {a b c : World} {r : Option Nat} {g : Nat} (h : a.grownBy b r) (k : b.grownBy c (some g)) (hg : a.heap.size ≤ g) : a.grownBy c r := ⟨k.os.trans h.os, k.tape.trans h.tape, k.output.trans h.output, Nat.le_trans h.size k.size, fun i h1 h2 => (k.block i (Nat.lt_of_lt_of_le h1 h.size) (fun e => by simp at e; omega)).trans (h.block i h1 h2)⟩
end
section
attribute [local go_sem ↓] qd6
def j5 (l : List Sb) : List Value := l.flatMap qa2
theorem qd1 (l : List Sb) : (j5 l).length = l.length * 3 := by
  induction l with
  | nil => rfl
  | cons a r ih => rw [j5, List.flatMap_cons, List.length_append, ← j5, ih]; simp [qa2]; omega
theorem qe8 (a b : List Sb) : j5 (a ++ b) = j5 a ++ j5 b := List.flatMap_append
theorem vb9 (l : List Sb) (k : Nat) (hk : k ≤ l.length) : j5 (l.take k) = (j5 l).take (k * 3) := by
  have h := qe8 (l.take k) (l.drop k)
  rw [List.take_append_drop] at h
  rw [h]
  exact (List.take_left' (by rw [qd1, List.length_take]; omega)).symm
theorem vb7 (l : List Sb) (k : Nat) (hk : k ≤ l.length) : j5 (l.drop k) = (j5 l).drop (k * 3) := by
  have h := qe8 (l.take k) (l.drop k)
  rw [List.take_append_drop] at h
  rw [h]
  exact (List.drop_left' (by rw [qd1, List.length_take]; omega)).symm
theorem qh9 (l : List Sb) : ∀ v ∈ j5 l, v.oneCell' = true := by
  intro v hv
  obtain ⟨s, _, hs⟩ := List.mem_flatMap.1 hv
  simp [qa2] at hs
  rcases hs with rfl | rfl | rfl <;> rfl
theorem ve8 : (Tryz.prog.info? 83).map (fun i => (i.zero, i.size, i.bytes)) = some (some (.agg #[.int .i64 0, .pointer none, .slice none 0 0]), 3, 40) := by kernel_rfl
abbrev SbRow (w : World) (base : Nat) (v : Value) (l : List Sb) : Prop := w.ownsRow base 83 3 v l.length (j5 l)
def qw4 (l : List Sb) (k : Nat) (s : Sb) : List Sb := l.take k ++ s :: l.drop k
theorem qi1 (l : List Sb) (k : Nat) (s : Sb) : (qw4 l k s).length = l.length + 1 := by simp [qw4]; omega
theorem qe7 {w : World} {base size n : Nat} {e : TypeId} {v : Value} {xs : List Value} (h : w.ownsRow base e size v n xs) : (v = .slice none 0 0 ∧ n = 0) ∨ ∃ g cap, v = .slice (some ⟨g, 0, none⟩) n cap := by
  rcases h.2 with ⟨h1, h2⟩ | ⟨g, cap, cur, rfl, _⟩
  · exact .inl ⟨h1, h2⟩
  · exact .inr ⟨g, cap, rfl⟩
def qs1 (w : World) (base : Nat) (v : Value) (l : List Sb) (e : Ending) (w' : World) : Prop := ∃ g cap, e = .returned (.slice (some ⟨g, 0, none⟩) l.length cap) ∧ SbRow w' base (.slice (some ⟨g, 0, none⟩) l.length cap) l ∧ w.grownBy w' v.ownBlock ∧ (v.ownBlock = some g ∨ w.heap.size ≤ g)
theorem app_sb {w : World} {base vb : Nat} {v : Value} {l : List Sb} {s : Sb} (hn : l.length ≤ 1000) (h : SbRow w base v l) (hv : w.heap[vb]? = some (.cells (qa2 s).toArray 83 (0, 0))) (hbase : base ≤ w.heap.size) (ty : TypeId) :
    ∃ g cap w', (qn1 #[62, 62] ty #[v, .slice (some ⟨vb, 0, none⟩) 1 1]).run Tryz.prog w = .ok (.slice (some ⟨g, 0, none⟩) (l.length + 1) cap) w' ∧ Hid (SbRow w' base (.slice (some ⟨g, 0, none⟩) (l.length + 1) cap) (l ++ [s])) ∧ Hid (w.grownBy w' v.ownBlock) ∧ Hid (v.ownBlock = some g ∨ w.heap.size ≤ g) := by
  obtain ⟨i0, hi, hz0, hz1, hz2⟩ := info_parts ve8
  obtain ⟨g, cap, w5, hr, hown, hgrow, hat, hlt5⟩ := run_append_lies (P := Tryz.prog) w 62 ty base 83 i0 _ 3 40 Tryz.underlying62 hi hz0 hz1 hz2 rfl (by omega) v l.length (j5 l) h
    ⟨vb, 0, none⟩ 1 1 (qa2 s) rfl (World.news_of_block (cs := (qa2 s).toArray) (t := 83) (fr := (0, 0)) hv) (fun u hu => qh9 [s] u (by simpa [j5] using hu)) (by omega) (by unfold maxLen; omega) (by omega) hbase _ rfl
  refine ⟨g, cap, w5, hr, v6 ?_, v6 hgrow, v6 ?_⟩
  · show w5.ownsRow base _ 3 _ (l ++ [s]).length (j5 (l ++ [s]))
    rw [List.length_append, List.length_singleton, qe8]
    have e : j5 [s] = qa2 s := by simp [j5]
    rw [e]
    exact hown
  · rcases hat with hat | hat
    · exact .inl hat
    · exact .inr (by omega)
set_option maxHeartbeats 2000000 in
theorem jz5 (l : List Sb) (s : Sb) (hn : l.length ≤ 1000) (v : Value) (base vb : Nat) (w : World) (h : SbRow w base v l) (hv : w.heap[vb]? = some (.cells (qa2 s).toArray 83 (0, 0))) (hbase : base ≤ w.heap.size) :
    Calls Tryz.prog 32 #[v, .int .i64 l.length, .slice (some ⟨vb, 0, none⟩) 1 1] w (qs1 w base v (qw4 l l.length s)) := by
  obtain ⟨g, cap, w5, hap, HO, HG, HA⟩ := app_sb hn h hv hbase 62
  have HE : Hid (qs1 w base v (qw4 l l.length s) (.returned (.slice (some ⟨g, 0, none⟩) (l.length + 1) cap)) w5) := v6 (by
    have e : qw4 l l.length s = l ++ [s] := by simp [qw4]
    rw [e]
    refine ⟨g, cap, by simp, ?_, q9 HG, q9 HA⟩
    have := q9 HO
    rwa [List.length_append, List.length_singleton])
  have hf := qe7 h
  generalize qs1 w base v (qw4 l l.length s) = Q at *
  obtain ⟨n, hnl⟩ : ∃ n, l.length = n := ⟨_, rfl⟩
  rw [hnl] at hap HE hf hn ⊢
  clear h HO HG HA hv hnl
  rcases hf with ⟨rfl, rfl⟩ | ⟨g0, c0, rfl⟩
  · go_enter Tryz.func32, Tryz.ntmps32
    go_wp2_with fail
    exact q9 HE
  · by_cases hc : c0 = n
    · subst hc
      go_enter Tryz.func32, Tryz.ntmps32
      go_wp2_with fail
      exact q9 HE
    · go_enter Tryz.func32, Tryz.ntmps32
      go_wp2_with fail
      exact q9 HE
end
section
attribute [local go_sem ↓] qd6
def vh9 (ats : Array TypeId) (ty : TypeId) (args : Array Value) : Sem Value := Builtin.copy_ ats ty args
theorem jb4 (ats : Array TypeId) (ty : TypeId) (args : Array Value) : Builtin.copy_ ats ty args = vh9 ats ty args := rfl
attribute [local go_sem ↓] jb4
theorem qk4 (g o j : Nat) : (⟨g, o, none⟩ : Addr).add j = ⟨g, o + j, none⟩ := by unfold Addr.add; split <;> simp_all
theorem vy1 {l : List Sb} {k : Nat} (hk : k ≤ l.length) (s : Sb) : j5 (qw4 l k s) = (j5 l).take (k * 3) ++ qa2 s ++ (j5 l).drop (k * 3) := by
  unfold qw4
  rw [qe8, vb9 l k hk, ← List.singleton_append, qe8, vb7 l k hk, List.append_assoc]
  congr 2
theorem put_put {cur : Array Value} {o : Nat} {a b : List Value} (h : o + a.length + b.length ≤ cur.size) : (qi4 (qi4 cur o a) (o + a.length) b).toList.take (o + a.length + b.length) = cur.toList.take o ++ a ++ b := by
  rw [qj7, qj7]
  have h1 : (cur.toList.take o ++ a ++ cur.toList.drop (o + a.length)).take (o + a.length) = cur.toList.take o ++ a := List.take_left' (by simp; omega)
  rw [h1]
  exact List.take_left' (by simp; omega)
theorem put_put' {cur : Array Value} {o : Nat} {a b : List Value} (h : o + a.length + b.length ≤ cur.size) : (qi4 (qi4 cur (o + a.length) b) o a).toList.take (o + a.length + b.length) = cur.toList.take o ++ a ++ b := by
  rw [qj7, qj7]
  have h1 : (cur.toList.take (o + a.length) ++ b ++ cur.toList.drop (o + a.length + b.length)).take o = cur.toList.take o := by
    rw [List.append_assoc, List.take_append_of_le_length (by simp; omega), List.take_take]
    congr 1
    omega
  have h2 : (cur.toList.take (o + a.length) ++ b ++ cur.toList.drop (o + a.length + b.length)).drop (o + a.length) = b ++ cur.toList.drop (o + a.length + b.length) := by
    rw [List.append_assoc]
    exact List.drop_left' (by simp; omega)
  rw [h1, h2, ← List.append_assoc]
  exact List.take_left' (by simp; omega)
theorem sb_src {w : World} {base g n cap : Nat} {xs : List Value} {e : TypeId} (h : w.ownsRow base e 3 (.slice (some ⟨g, 0, none⟩) n cap) n xs) (k : Nat) : ∀ j v, (xs.drop k)[j]? = some v → w.cell? ((⟨g, k, none⟩ : Addr).add j) = some v := by
  intro j v hj
  rw [List.getElem?_drop] at hj
  have := World.ownsRow.cells h (g := g) rfl (k + j) v hj
  rw [qk4] at this ⊢
  rw [Nat.zero_add] at this
  exact this
theorem ins_grow {w : World} {base g n c k vb : Nat} {l : List Sb} {s : Sb} (hn : l.length = n) (h : SbRow w base (.slice (some ⟨g, 0, none⟩) n c) l) (hk : k < n) (hc : c = n) (hn8 : n ≤ 1000) (hv : w.heap[vb]? = some (.cells (qa2 s).toArray 83 (0, 0))) (hbase : base ≤ w.heap.size) :
    ∃ H G w5 w6 w7, (qn1 #[62, 3] 62 #[.slice (some ⟨g, 0, none⟩) k c, .int .i64 ((n : Int) + 1 - (k : Int))]).run Tryz.prog w = .ok (.slice (some ⟨H, 0, none⟩) (n + 1) G) w5 ∧
      (∀ ty dc, (vh9 #[62, 62] ty #[.slice (some ⟨H, k * 3, none⟩) (n + 1 - k) dc, .slice (some ⟨vb, 0, none⟩) 1 1]).run Tryz.prog w5 = .ok (goInt 1) w6) ∧
      (∀ ty dc sc, (vh9 #[62, 62] ty #[.slice (some ⟨H, (k + 1) * 3, none⟩) (n - k) dc, .slice (some ⟨g, k * 3, none⟩) (n - k) sc]).run Tryz.prog w6.drew = .ok (goInt ((n - k : Nat) : Int)) w7) ∧
      n + 1 ≤ G ∧ G ≤ maxLen ∧ Hid (SbRow w7 base (.slice (some ⟨H, 0, none⟩) (n + 1) G) (qw4 l k s)) ∧ Hid (w.grownBy w7 (some g)) ∧ Hid (w.heap.size ≤ H) := by
  subst hc
  obtain ⟨i0, hi, hz0, hz1, hz2⟩ := info_parts ve8
  have h' : w.ownsRow base 83 3 (.slice (some ⟨g, 0, none⟩) c c) c (j5 l) := by have := h; unfold SbRow at this; rwa [hn] at this
  obtain ⟨hbg, _, hcm, cur, hcur, hcs, hct⟩ := qe9 h'
  have hsz : (Tryz.prog.info? 83).map (·.size) = some 3 := by rw [hi]; simp [hz1]
  have hgl : g < w.heap.size := (Array.getElem?_eq_some_iff.1 hcur).1
  have hvl : vb < w.heap.size := (Array.getElem?_eq_some_iff.1 hv).1
  have hll := qd1 l
  rw [hn] at hll
  have hkl : ((j5 l).take (k * 3)).length = k * 3 := by rw [List.length_take]; omega
  have hdl : ((j5 l).drop (k * 3)).length = (c - k) * 3 := by rw [List.length_drop, hll]; omega
  have hold : (Builtin.firstCells i0.size k (.slice (some ⟨g, 0, none⟩) k c)).run Tryz.prog w.drew = .ok ((j5 l).take (k * 3)).toArray w.drew := by
    rw [hz1]
    exact run_firstCells_some w.drew 3 k ⟨g, 0, none⟩ k c ((j5 l).take (k * 3)) hkl (fun j v hj => by
      rw [List.getElem?_take] at hj
      split at hj
      · exact World.ownsRow.cells h' (g := g) rfl j v hj
      · cases hj)
  have hz := Lib.run_append_grow_zeros w 62 3 62 83 i0 _ .i64 .i64 Tryz.underlying62 Tryz.underlying3 hi hz0 (some ⟨g, 0, none⟩) k c ((j5 l).take (k * 3)) hold (c + 1 - k) (by omega) (by omega) (by omega) (by omega) (by rw [hz2]; omega) (by rw [hz2, show k + (c + 1 - k) = c + 1 by omega]; exact growslice_fits (by omega) (by omega))
  rw [show k + (c + 1 - k) = c + 1 by omega, show ((c + 1 - k : Nat) : Int) = (c : Int) + 1 - (k : Int) by omega] at hz
  have hG1 : c + 1 ≤ grownCap w (c + 1) c 83 := grownCap_ge w _ _ _
  have hG2 : grownCap w (c + 1) c 83 ≤ maxLen := grownCap_le_maxLen w (c + 1) c 83 (by unfold maxLen; omega)
  generalize grownCap w (c + 1) c 83 = G at *
  obtain ⟨ROW, hROW⟩ : ∃ ROW : Array Value, ROW = ((j5 l).take (k * 3)).toArray ++ Builtin.zeroCells (Value.cells (.agg #[.int .i64 0, .pointer none, .slice none 0 0])) (c + 1 - k) ++ Builtin.zeroCells (Value.cells (.agg #[.int .i64 0, .pointer none, .slice none 0 0])) (G - (c + 1)) := ⟨_, rfl⟩
  rw [← hROW] at hz
  have hcz : (Value.cells (.agg #[.int .i64 0, .pointer none, .slice none 0 0])).size = 3 := by decide +kernel
  have hRs : ROW.size = G * 3 := by
    rw [hROW]
    simp only [Array.size_append, List.size_toArray, hkl, Builtin.zeroCells, Array.size_map, Array.size_range, hcz]
    omega
  have hRt : ROW.toList.take (k * 3) = (j5 l).take (k * 3) := by
    rw [hROW]
    simp only [Array.toList_append, List.append_assoc]
    exact List.take_left' hkl
  have hnew : (w.drew.alloc (.cells ROW 83)).heap[w.heap.size]? = some (.cells ROW 83 (0, 0)) := heap_alloc_new w.drew _
  have hsl : (qa2 s).length = 3 := rfl
  have B0 : Below w.heap.size w (w.drew.alloc (.cells ROW 83)) := (Below.refl _ _).drew.alloc (Nat.le_refl _) _
  obtain ⟨bc, _⟩ := j6 B0
  have hA := fun ty dc => qp4 (P := Tryz.prog) (w.drew.alloc (.cells ROW 83)) 62 62 ty 83 3 w.heap.size (k * 3) (c + 1 - k) dc 1 ⟨vb, 0, none⟩ 1 1 ROW _ (qa2 s) Tryz.underlying62 hsz hnew (by simp only [Nat.min_def]; split <;> omega) hsl
    (fun j v hj => by
      rw [qk4, bc vb _ hvl]
      have := World.news_of_block (w := w) (cs := (qa2 s).toArray) (t := 83) (fr := (0, 0)) hv j v (by simpa using hj)
      rw [qk4] at this
      exact this) (by rw [hsl, hRs]; omega) (fun u hu => qh9 [s] u (by simpa [j5] using hu))
  have h6 : ((w.drew.alloc (.cells ROW 83)).setRow w.heap.size (qi4 ROW (k * 3) (qa2 s))).heap[w.heap.size]? = some (.cells (qi4 ROW (k * 3) (qa2 s)) 83 (0, 0)) := setRow_heap _ _ _ _ _ _ hnew
  have hps : (qi4 ROW (k * 3) (qa2 s)).size = G * 3 := by rw [qq2 (by rw [hsl, hRs]; omega), hRs]
  have hB := fun ty dc sc => qp4 (P := Tryz.prog) ((w.drew.alloc (.cells ROW 83)).setRow w.heap.size (qi4 ROW (k * 3) (qa2 s))).drew 62 62 ty 83 3 w.heap.size ((k + 1) * 3) (c - k) dc (c - k) ⟨g, k * 3, none⟩ (c - k) sc (qi4 ROW (k * 3) (qa2 s)) _ ((j5 l).drop (k * 3)) Tryz.underlying62 hsz h6 (by simp only [Nat.min_def]; split <;> omega) hdl
    (fun j v hj => by
      have := sb_src h' (k * 3) j v hj
      rw [qk4] at this ⊢
      show ((w.drew.alloc (.cells ROW 83)).setRow w.heap.size (qi4 ROW (k * 3) (qa2 s))).cell? _ = _
      rw [cell_setRow_other _ _ _ _ (by show g ≠ _; omega), bc g _ hgl]
      exact this) (by rw [hdl, hps]; omega) (fun u hu => qh9 l u (List.mem_of_mem_drop hu))
  refine ⟨w.heap.size, G, _, _, _, hz, hA, hB, hG1, hG2, v6 ?_, v6 ?_, v6 (Nat.le_refl _)⟩
  · show World.ownsRow _ base _ 3 _ (qw4 l k s).length (j5 (qw4 l k s))
    rw [qi1, hn, vy1 (by omega)]
    refine ⟨by simp only [List.length_append, hkl, hdl, hsl]; omega, .inr ⟨w.heap.size, G, _, rfl, hbase, setRow_heap _ _ _ _ _ _ h6, hG1, hG2, ?_, ?_⟩⟩
    · rw [qq2 (by rw [hdl, hps]; omega), hps]
    · have := put_put (cur := ROW) (o := k * 3) (a := qa2 s) (b := (j5 l).drop (k * 3)) (by rw [hsl, hdl, hRs]; omega)
      rw [hsl, hdl, hRt] at this
      rw [show (c + 1) * 3 = k * 3 + 3 + (c - k) * 3 by omega, show (k + 1) * 3 = k * 3 + 3 by omega]
      exact this
  · refine ji4 (g := w.heap.size) (b := w.drew.alloc (.cells ROW 83)) ⟨B0.os, B0.tape, B0.output, B0.size, fun i h1 _ => B0.block i h1⟩ ?_ (Nat.le_refl _)
    have g1 := qh2 (w.drew.alloc (.cells ROW 83)) w.heap.size (qi4 ROW (k * 3) (qa2 s))
    exact qu9 (b := ((w.drew.alloc (.cells ROW 83)).setRow w.heap.size (qi4 ROW (k * 3) (qa2 s))).drew) ⟨g1.os, g1.tape, g1.output, g1.size, g1.block⟩ (qh2 _ _ _)
set_option maxHeartbeats 2000000 in
set_option maxRecDepth 100000 in
theorem ji5 (l : List Sb) (s : Sb) (n k c g : Nat) (hn : l.length = n) (base vb : Nat) (w : World) (h : SbRow w base (.slice (some ⟨g, 0, none⟩) n c) l) (hk : k < n) (hc : c = n) (hn8 : n ≤ 1000) (hv : w.heap[vb]? = some (.cells (qa2 s).toArray 83 (0, 0))) (hbase : base ≤ w.heap.size) :
    Calls Tryz.prog 32 #[.slice (some ⟨g, 0, none⟩) n c, .int .i64 k, .slice (some ⟨vb, 0, none⟩) 1 1] w (qs1 w base (.slice (some ⟨g, 0, none⟩) n c) (qw4 l k s)) := by
  obtain ⟨H, G, w5, w6, w7, hap, hcA, hcB, hG1, hG2, HO, HG, HA⟩ := ins_grow hn h hk hc hn8 hv hbase
  have HE : Hid (qs1 w base (.slice (some ⟨g, 0, none⟩) n c) (qw4 l k s) (.returned (.slice (some ⟨H, 0, none⟩) (n + 1) G)) w7) := v6 (by
    have e : (qw4 l k s).length = n + 1 := by rw [qi1, hn]
    refine ⟨H, G, by rw [e], ?_, q9 HG, .inr (q9 HA)⟩
    have := q9 HO
    rwa [e])
  generalize qs1 w base (.slice (some ⟨g, 0, none⟩) n c) (qw4 l k s) = Q at *
  subst hc
  unfold maxLen at hG2
  have hz2 : ¬ ((k : Int) = (c : Int)) := by omega
  have hz3 : (c : Int) < (c : Int) + 1 := by omega
  have hw1 : IntKind.i64.wrap ((k : Int) + 1) = (k : Int) + 1 := by rw [IntKind.wrap_i64]; omega
  have hw2 : IntKind.i64.wrap ((c : Int) + 1) = (c : Int) + 1 := by rw [IntKind.wrap_i64]; omega
  have hw3 : IntKind.i64.wrap ((c : Int) + 1 - (k : Int)) = (c : Int) + 1 - (k : Int) := by rw [IntKind.wrap_i64]; omega
  have hb0 : (0 : Int) ≤ (k : Int) := by omega
  have hb1 : (0 : Int) ≤ (k : Int) + 1 := by omega
  have hin : k ≤ c := by omega
  have hin2 : (k : Int) ≤ (c : Int) := by omega
  have htn : ((k : Int) + 1).toNat = k + 1 := by omega
  have hGi : ¬ (G = k) := by omega
  have hGim : ¬ (G = k + 1) := by omega
  have hci : ¬ (c = k) := by omega
  clear h HO HG HA hv hn
  go_enter Tryz.func32, Tryz.ntmps32
  go_wp2_with fail
  go_region
  all_goals go_wp2_with fail
  all_goals exact q9 HE
end
section
attribute [local go_sem ↓] qd6
attribute [local go_sem ↓] jb4
theorem jg2 {w : World} {g vb o lb cb cap : Nat} {cur : Array Value} {s : Sb} (hne : vb ≠ g) (hv : w.heap[vb]? = some (.cells (qa2 s).toArray 83 (0, 0))) (hg : w.heap[g]? = some (.cells cur 83 (0, 0))) (hc : cur.size = cap) (hc0 : cap ≠ 0) :
    (callFunc 59 #[.slice (some ⟨vb, 0, none⟩) 1 1, .slice (some ⟨g, o, none⟩) lb cb]).run Tryz.prog w = .ok (.value (.bool false)) w := by
  obtain ⟨i0, hi, hz0, hz1, hz2⟩ := info_parts ve8
  have hz : ∀ w, (Go.sizeOf 83).run Tryz.prog w = .ok 3 w := fun w => by simp [sizeOf, typeInfo, hi, hz1]
  rw [run_callFunc_extern Tryz.func59 (by kernel_rfl) (by kernel_rfl) (by kernel_rfl) (e := Extern.SlicesOverlaps.overlaps #[62, 62] #[4]) (by kernel_rfl),
    Lib.run_overlaps_apart w 62 4 83 Tryz.underlying62 3 hz ⟨vb, 0, none⟩ ⟨g, o, none⟩ 1 1 lb cb hne 83 83 3 cap (by simp [World.shape?, hv, qa2]) (by simp [World.shape?, hg, hc]) hc0 (by simp [World.frozen?, hv]) (by simp [World.frozen?, hv])]
  rfl
theorem ins_room {w : World} {base g n c k vb : Nat} {l : List Sb} {s : Sb} (hn : l.length = n) (h : SbRow w base (.slice (some ⟨g, 0, none⟩) n c) l) (hk : k < n) (hc : n < c) (hne : vb ≠ g) (hv : w.heap[vb]? = some (.cells (qa2 s).toArray 83 (0, 0))) :
    ∃ w6 w7, (∀ o lb cb, (callFunc 59 #[.slice (some ⟨vb, 0, none⟩) 1 1, .slice (some ⟨g, o, none⟩) lb cb]).run Tryz.prog w = .ok (.value (.bool false)) w) ∧
      (∀ ty dc sc, (vh9 #[62, 62] ty #[.slice (some ⟨g, (k + 1) * 3, none⟩) (n - k) dc, .slice (some ⟨g, k * 3, none⟩) (n + 1 - k) sc]).run Tryz.prog w.drew = .ok (goInt ((n - k : Nat) : Int)) w6) ∧
      (∀ ty dc, (vh9 #[62, 62] ty #[.slice (some ⟨g, k * 3, none⟩) (n + 1 - k) dc, .slice (some ⟨vb, 0, none⟩) 1 1]).run Tryz.prog w6 = .ok (goInt 1) w7) ∧
      c ≤ maxLen ∧ Hid (SbRow w7 base (.slice (some ⟨g, 0, none⟩) (n + 1) c) (qw4 l k s)) ∧ Hid (w.grownBy w7 (some g)) := by
  obtain ⟨i0, hi, hz0, hz1, hz2⟩ := info_parts ve8
  have h' : w.ownsRow base 83 3 (.slice (some ⟨g, 0, none⟩) n c) n (j5 l) := by have := h; unfold SbRow at this; rwa [hn] at this
  obtain ⟨hbg, _, hcm, cur, hcur, hcs, hct⟩ := qe9 h'
  have hsz : (Tryz.prog.info? 83).map (·.size) = some 3 := by rw [hi]; simp [hz1]
  have hll := qd1 l
  rw [hn] at hll
  have hkl : ((j5 l).take (k * 3)).length = k * 3 := by rw [List.length_take]; omega
  have hdl : ((j5 l).drop (k * 3)).length = (n - k) * 3 := by rw [List.length_drop, hll]; omega
  have hsl : (qa2 s).length = 3 := rfl
  have hA := fun ty dc sc => qp4 (P := Tryz.prog) w.drew 62 62 ty 83 3 g ((k + 1) * 3) (n - k) dc (n - k) ⟨g, k * 3, none⟩ (n + 1 - k) sc cur _ ((j5 l).drop (k * 3)) Tryz.underlying62 hsz hcur (by simp only [Nat.min_def]; split <;> omega) hdl
    (fun j v hj => sb_src h' (k * 3) j v hj) (by rw [hdl, hcs]; omega) (fun u hu => qh9 l u (List.mem_of_mem_drop hu))
  have h6 : (w.drew.setRow g (qi4 cur ((k + 1) * 3) ((j5 l).drop (k * 3)))).heap[g]? = some (.cells (qi4 cur ((k + 1) * 3) ((j5 l).drop (k * 3))) 83 (0, 0)) := setRow_heap _ _ _ _ _ _ hcur
  have hps : (qi4 cur ((k + 1) * 3) ((j5 l).drop (k * 3))).size = c * 3 := by rw [qq2 (by rw [hdl, hcs]; omega), hcs]
  have hB := fun ty dc => qp4 (P := Tryz.prog) (w.drew.setRow g (qi4 cur ((k + 1) * 3) ((j5 l).drop (k * 3)))) 62 62 ty 83 3 g (k * 3) (n + 1 - k) dc 1 ⟨vb, 0, none⟩ 1 1 (qi4 cur ((k + 1) * 3) ((j5 l).drop (k * 3))) _ (qa2 s) Tryz.underlying62 hsz h6 (by simp only [Nat.min_def]; split <;> omega) hsl
    (fun j v hj => by
      rw [qk4, cell_setRow_other _ _ _ _ (by show vb ≠ g; exact hne)]
      have := World.news_of_block (w := w) (cs := (qa2 s).toArray) (t := 83) (fr := (0, 0)) hv j v (by simpa using hj)
      rw [qk4] at this
      exact this) (by rw [hsl, hps]; omega) (fun u hu => qh9 [s] u (by simpa [j5] using hu))
  refine ⟨_, _, fun o lb cb => jg2 hne hv hcur hcs (by omega), hA, hB, hcm, v6 ?_, v6 ?_⟩
  · show World.ownsRow _ base _ 3 _ (qw4 l k s).length (j5 (qw4 l k s))
    rw [qi1, hn, vy1 (by omega)]
    refine ⟨by simp only [List.length_append, hkl, hdl, hsl]; omega, .inr ⟨g, c, _, rfl, hbg, setRow_heap _ _ _ _ _ _ h6, by omega, hcm, ?_, ?_⟩⟩
    · rw [qq2 (by rw [hsl, hps]; omega), hps]
    · have := put_put' (cur := cur) (o := k * 3) (a := qa2 s) (b := (j5 l).drop (k * 3)) (by rw [hsl, hdl, hcs]; omega)
      have ht : cur.toList.take (k * 3) = (j5 l).take (k * 3) := by
        have := congrArg (List.take (k * 3)) hct
        rw [List.take_take, Nat.min_eq_left (by omega)] at this
        exact this
      rw [hsl, hdl, ht] at this
      rw [show (n + 1) * 3 = k * 3 + 3 + (n - k) * 3 by omega, show (k + 1) * 3 = k * 3 + 3 by omega]
      exact this
  · have g1 := qh2 w g (qi4 cur ((k + 1) * 3) ((j5 l).drop (k * 3)))
    exact qu9 (b := w.drew.setRow g (qi4 cur ((k + 1) * 3) ((j5 l).drop (k * 3)))) ⟨g1.os, g1.tape, g1.output, g1.size, g1.block⟩ (qh2 _ _ _)
set_option maxHeartbeats 2000000 in
set_option maxRecDepth 100000 in
theorem jf6 (l : List Sb) (s : Sb) (n k c g : Nat) (hn : l.length = n) (base vb : Nat) (w : World) (h : SbRow w base (.slice (some ⟨g, 0, none⟩) n c) l) (hk : k < n) (hc : n < c) (hn8 : n ≤ 1000) (hne : vb ≠ g) (hv : w.heap[vb]? = some (.cells (qa2 s).toArray 83 (0, 0))) :
    Calls Tryz.prog 32 #[.slice (some ⟨g, 0, none⟩) n c, .int .i64 k, .slice (some ⟨vb, 0, none⟩) 1 1] w (qs1 w base (.slice (some ⟨g, 0, none⟩) n c) (qw4 l k s)) := by
  obtain ⟨w6, w7, hov, hcA, hcB, hcm, HO, HG⟩ := ins_room hn h hk hc hne hv
  have HE : Hid (qs1 w base (.slice (some ⟨g, 0, none⟩) n c) (qw4 l k s) (.returned (.slice (some ⟨g, 0, none⟩) (n + 1) c)) w7) := v6 (by
    have e : (qw4 l k s).length = n + 1 := by rw [qi1, hn]
    refine ⟨g, c, by rw [e], ?_, q9 HG, .inl rfl⟩
    have := q9 HO
    rwa [e])
  generalize qs1 w base (.slice (some ⟨g, 0, none⟩) n c) (qw4 l k s) = Q at *
  unfold maxLen at hcm
  have hz2 : ¬ ((k : Int) = (n : Int)) := by omega
  have hz3 : ¬ ((c : Int) < (n : Int) + 1) := by omega
  have hz4 : (n : Int) + 1 ≤ (c : Int) := by omega
  have hw1 : IntKind.i64.wrap ((k : Int) + 1) = (k : Int) + 1 := by rw [IntKind.wrap_i64]; omega
  have hw2 : IntKind.i64.wrap ((n : Int) + 1) = (n : Int) + 1 := by rw [IntKind.wrap_i64]; omega
  have hb0 : (0 : Int) ≤ (k : Int) := by omega
  have hb1 : (0 : Int) ≤ (k : Int) + 1 := by omega
  have hb2 : (0 : Int) ≤ (n : Int) + 1 := by omega
  have hin : k ≤ n := by omega
  have hin2 : (k : Int) ≤ (n : Int) := by omega
  have hin3 : (k : Int) ≤ (n : Int) + 1 := by omega
  have htn : ((k : Int) + 1).toNat = k + 1 := by omega
  have htn2 : ((n : Int) + 1).toNat = n + 1 := by omega
  have hci : ¬ (c = k) := by omega
  have hci1 : ¬ (c = k + 1) := by omega
  clear h HO HG hv hn
  go_enter Tryz.func32, Tryz.ntmps32
  go_wp2_with (simp only [hov])
  go_region
  all_goals go_wp2_with fail
  all_goals exact q9 HE
theorem vs9 (l : List Sb) (s : Sb) (k : Nat) (hk : k ≤ l.length) (hn8 : l.length ≤ 1000) (v : Value) (base vb : Nat) (w : World) (h : SbRow w base v l) (hne : v.ownBlock ≠ some vb) (hv : w.heap[vb]? = some (.cells (qa2 s).toArray 83 (0, 0))) (hbase : base ≤ w.heap.size) :
    Calls Tryz.prog 32 #[v, .int .i64 k, .slice (some ⟨vb, 0, none⟩) 1 1] w (qs1 w base v (qw4 l k s)) := by
  by_cases he : k = l.length
  · subst he
    exact jz5 l s hn8 v base vb w h hv hbase
  · rcases qe7 h with ⟨_, h0⟩ | ⟨g, c, rfl⟩
    · omega
    · have hnc := (qe9 h).2.1
      by_cases hc : c = l.length
      · exact ji5 l s l.length k c g rfl base vb w h (by omega) hc hn8 hv hbase
      · exact jf6 l s l.length k c g rfl base vb w h (by omega) (by omega) hn8 (fun e => hne (by rw [e]; rfl)) hv
def jc0 (w : World) (l : List Sb) (e : Ending) (w' : World) : Prop := ∃ v', e = .returned v' ∧ SbRow w' w.heap.size v' l ∧ Below w.heap.size w w'
theorem clone_run {w : World} {base g c : Nat} {l : List Sb} (hn : l.length ≤ 1000) (h : SbRow w base (.slice (some ⟨g, 0, none⟩) l.length c) l) :
    ∃ v' w', (qn1 #[62, 62] 62 #[.slice (some ⟨w.heap.size, 0, none⟩) 0 0, .slice (some ⟨g, 0, none⟩) l.length c]).run Tryz.prog (w.alloc (.cells #[] 83)) = .ok v' w' ∧ Hid (jc0 w l (.returned v') w') := by
  obtain ⟨i0, hi, hz0, hz1, hz2⟩ := info_parts ve8
  have hg : g < w.heap.size := by
    obtain ⟨_, _, _, cur, hcur, _⟩ := qe9 h
    exact (Array.getElem?_eq_some_iff.1 hcur).1
  have hmade := World.ownsRow_made (base := w.heap.size) (e := 83) (size := 3) w #[] 0 (Nat.le_refl _) (Nat.zero_le _) rfl
  have h2 := h.alloc (.cells #[] 83)
  obtain ⟨v', w', hr, ho, hgr, _, _⟩ := run_append_own_at (P := Tryz.prog) (w.alloc (.cells #[] 83)) w.heap.size 62 62 83 i0 _ 3 40 Tryz.underlying62 hi hz0 hz1 hz2 rfl (by omega) _ 0 [] hmade ⟨g, 0, none⟩ l.length c (j5 l) (qd1 l) (fun j u hj => World.ownsRow.cells h2 (g := g) rfl j u hj) (qh9 l) (by unfold maxLen; omega) (by omega) (by simp)
  refine ⟨v', w', hr, v6 ⟨v', rfl, ?_, ?_⟩⟩
  · show World.ownsRow _ _ _ _ _ _ _
    simpa using ho
  · refine ⟨hgr.os, hgr.tape, hgr.output, by have := hgr.size; simp at this; omega, fun k hk => (hgr.block k (by simp; omega) (fun e => ?_)).trans (Below.heap_alloc w _ k hk)⟩
    simp [Value.ownBlock] at e
    omega
set_option maxHeartbeats 2000000 in
set_option maxRecDepth 100000 in
theorem vm5 (l : List Sb) (hn : l.length ≤ 1000) (v : Value) (base : Nat) (w : World) (h : SbRow w base v l) :
    Calls Tryz.prog 33 #[v] w (jc0 w l) := by
  rcases qe7 h with ⟨rfl, h0⟩ | ⟨g, c, rfl⟩
  · have HE : Hid (jc0 w l (.returned (.slice none 0 0)) w) := v6 ⟨_, rfl, by
      have e : l = [] := List.length_eq_zero_iff.1 h0
      subst e
      exact World.ownsRow_nil _ _ _ _, Below.refl _ _⟩
    generalize jc0 w l = Q at *
    have hq := fun w => Lib.run_eql_slice_nil (P := Tryz.prog) w 62 _ none 0 0 0 0 Tryz.underlying62
    simp only [Option.isNone_none] at hq
    clear h
    go_enter Tryz.func33, Tryz.ntmps33
    go_wp2_with fail
    exact q9 HE
  · obtain ⟨v', w', hap, HE⟩ := clone_run hn h
    generalize jc0 w l = Q at *
    generalize l.length = n at *
    have hq := fun w => Lib.run_eql_slice_nil (P := Tryz.prog) w 62 _ (some ⟨g, 0, none⟩) n c 0 0 Tryz.underlying62
    simp only [Option.isNone_some] at hq
    clear h
    go_enter Tryz.func33, Tryz.ntmps33
    go_wp2_with fail
    exact q9 HE
end
section
attribute [local go_sem ↓] qd6
def jn5 (ats : Array TypeId) (ty : TypeId) (args : Array Value) : Sem Value := Builtin.clear_ ats ty args
theorem jw6 (ats : Array TypeId) (ty : TypeId) (args : Array Value) : Builtin.clear_ ats ty args = jn5 ats ty args := rfl
attribute [local go_sem ↓] jw6
def vw2 (l : List Sb) (k : Nat) : List Sb := l.take k ++ l.drop (k + 1)
theorem qu4 {l : List Sb} {k : Nat} (hk : k < l.length) : (vw2 l k).length = l.length - 1 := by simp [vw2]; omega
theorem del_cells {l : List Sb} {k : Nat} (hk : k < l.length) : j5 (vw2 l k) = (j5 l).take (k * 3) ++ (j5 l).drop ((k + 1) * 3) := by
  unfold vw2
  rw [qe8, vb9 l k (by omega), vb7 l (k + 1) (by omega)]
def vu5 (w : World) (base g c : Nat) (l : List Sb) (e : Ending) (w' : World) : Prop := e = .returned (.slice (some ⟨g, 0, none⟩) l.length c) ∧ SbRow w' base (.slice (some ⟨g, 0, none⟩) l.length c) l ∧ w.grownBy w' (some g)
theorem del_run {w : World} {base g c k n : Nat} {l : List Sb} (hn : l.length = n + 1) (h : SbRow w base (.slice (some ⟨g, 0, none⟩) (n + 1) c) l) (hk : k ≤ n) (a : Addr) (ha : k < n → a = ⟨g, (k + 1) * 3, none⟩) (sc : Nat) :
    ∃ w6 w7, (∀ ty, (qn1 #[62, 62] ty #[.slice (some ⟨g, 0, none⟩) k c, .slice (some a) (n - k) sc]).run Tryz.prog w.drew = .ok (.slice (some ⟨g, 0, none⟩) n c) w6) ∧
      (∀ ty dc, (jn5 #[62] ty #[.slice (some ⟨g, n * 3, none⟩) 1 dc]).run Tryz.prog w6 = .ok (.tuple #[]) w7) ∧
      n + 1 ≤ c ∧ c ≤ maxLen ∧ Hid (vu5 w base g c (vw2 l k) (.returned (.slice (some ⟨g, 0, none⟩) n c)) w7) := by
  obtain ⟨i0, hi, hz0, hz1, hz2⟩ := info_parts ve8
  have h' : w.ownsRow base 83 3 (.slice (some ⟨g, 0, none⟩) (n + 1) c) (n + 1) (j5 l) := by have := h; unfold SbRow at this; rwa [hn] at this
  obtain ⟨hbg, hnc, hcm, cur, hcur, hcs, hct⟩ := qe9 h'
  have hll := qd1 l
  rw [hn] at hll
  have hkl : ((j5 l).take (k * 3)).length = k * 3 := by rw [List.length_take]; omega
  have hdl : ((j5 l).drop ((k + 1) * 3)).length = (n - k) * 3 := by rw [List.length_drop, hll]; omega
  have hA := fun ty => vg6 (P := Tryz.prog) w.drew 62 ty 83 i0 3 g k c (n - k) sc a cur _ ((j5 l).drop ((k + 1) * 3)) Tryz.underlying62 hi hz1 hcur hdl (by omega)
    (fun j v hj => by
      by_cases hkn : k < n
      · rw [ha hkn]
        exact sb_src h' ((k + 1) * 3) j v hj
      · rw [List.getElem?_eq_none (by rw [hdl]; omega)] at hj
        cases hj) (by rw [hdl, hcs]; omega) (fun u hu => qh9 l u (List.mem_of_mem_drop hu))
  rw [show k + (n - k) = n by omega] at hA
  have h6 : (w.drew.setRow g (qi4 cur (k * 3) ((j5 l).drop ((k + 1) * 3)))).heap[g]? = some (.cells (qi4 cur (k * 3) ((j5 l).drop ((k + 1) * 3))) 83 (0, 0)) := setRow_heap _ _ _ _ _ _ hcur
  have hps : (qi4 cur (k * 3) ((j5 l).drop ((k + 1) * 3))).size = c * 3 := by rw [qq2 (by rw [hdl, hcs]; omega), hcs]
  have hzv : ∀ w, (zeroValue 83).run Tryz.prog w = .ok (.agg #[.int .i64 0, .pointer none, .slice none 0 0]) w := fun w => by simp [zeroValue, typeInfo, hi, hz0]
  have hz3 : (Value.cells (.agg #[.int .i64 0, .pointer none, .slice none 0 0])).size = 3 := by decide +kernel
  have hB := fun ty dc => jz0 (P := Tryz.prog) (w.drew.setRow g (qi4 cur (k * 3) ((j5 l).drop ((k + 1) * 3)))) 62 83 ty _ 3 g (n * 3) 0 dc _ _ Tryz.underlying62 hzv hz3 (by decide +kernel) h6 (by rw [hps]; omega)
  refine ⟨_, _, hA, hB, hnc, hcm, v6 ⟨by rw [qu4 (by omega), hn]; rfl, ?_, ?_⟩⟩
  · show World.ownsRow _ base _ 3 _ (vw2 l k).length (j5 (vw2 l k))
    rw [qu4 (by omega), hn, del_cells (by omega), show n + 1 - 1 = n by omega]
    have hzl := qw0 (Value.cells (.agg #[.int .i64 0, .pointer none, .slice none 0 0])) (0 + 1)
    rw [hz3] at hzl
    refine ⟨by simp only [List.length_append, hkl, hdl]; omega, .inr ⟨g, c, _, rfl, hbg, setRow_heap _ _ _ _ _ _ h6, by omega, hcm, ?_, ?_⟩⟩
    · rw [qq2 (by rw [hps, hzl]; omega), hps]
    · rw [qj7, List.append_assoc, List.take_append_of_le_length (by rw [List.length_take, Array.length_toList, hps]; omega), List.take_take, Nat.min_self, qj7]
      have ht : cur.toList.take (k * 3) = (j5 l).take (k * 3) := by
        have := congrArg (List.take (k * 3)) hct
        rw [List.take_take, Nat.min_eq_left (by omega)] at this
        exact this
      rw [ht]
      exact List.take_left' (by rw [List.length_append, hkl, hdl]; omega)
  · have g1 := qh2 w g (qi4 cur (k * 3) ((j5 l).drop ((k + 1) * 3)))
    exact qu9 (b := w.drew.setRow g (qi4 cur (k * 3) ((j5 l).drop ((k + 1) * 3)))) ⟨g1.os, g1.tape, g1.output, g1.size, g1.block⟩ (qh2 _ _ _)
set_option maxHeartbeats 2000000 in
set_option maxRecDepth 100000 in
theorem ju2 (l : List Sb) (n k c g : Nat) (hn : l.length = n + 1) (base : Nat) (w : World) (h : SbRow w base (.slice (some ⟨g, 0, none⟩) (n + 1) c) l) (hk : k ≤ n) (hn8 : n ≤ 1000) :
    Calls Tryz.prog 45 #[.slice (some ⟨g, 0, none⟩) (n + 1 : Nat) c, .int .i64 k, .int .i64 ((k : Int) + 1)] w (vu5 w base g c (vw2 l k)) := by
  have hnc := (qe9 (by have := h; unfold SbRow at this; rwa [hn] at this : w.ownsRow base 83 3 (.slice (some ⟨g, 0, none⟩) (n + 1) c) (n + 1) (j5 l))).2.1
  have hb0 : (0 : Int) ≤ (k : Int) := by omega
  have hb1 : (0 : Int) ≤ (k : Int) + 1 := by omega
  have hb2 : (k : Int) ≤ (k : Int) + 1 := by omega
  have hb3 : (k : Int) + 1 ≤ ((n + 1 : Nat) : Int) := by omega
  have hb4 : (k : Int) ≤ (c : Int) := by omega
  have hb5 : ((n + 1 : Nat) : Int) ≤ (c : Int) := by omega
  have hb6 : (n : Int) ≤ ((n + 1 : Nat) : Int) := by omega
  have hb7 : (k : Int) ≤ ((n + 1 : Nat) : Int) := by omega
  have hb8 : (n : Int) ≤ (c : Int) := by omega
  have hz2 : ¬ ((k : Int) = (k : Int) + 1) := by omega
  have htn : ((k : Int) + 1).toNat = k + 1 := by omega
  have hci : ¬ (c = k) := by omega
  have hcn : ¬ (c = n) := by omega
  have hnk : ¬ (n + 1 = k) := by omega
  have hs1 : n + 1 - n = 1 := by omega
  have hs2 : n + 1 - (k + 1) = n - k := by omega
  by_cases hck : c = k + 1
  · obtain rfl : n = k := by omega
    subst hck
    obtain ⟨w6, w7, hap, hcl, _, hcm, HE⟩ := del_run hn h hk ⟨g, 0, none⟩ (fun h => by omega) 0
    rw [Nat.sub_self] at hap
    generalize vu5 w base g (n + 1) (vw2 l n) = Q at *
    unfold maxLen at hcm
    clear h hn
    go_enter Tryz.func45, Tryz.ntmps45
    go_wp2_with fail
    go_region
    all_goals go_wp2_with fail
    all_goals exact q9 HE
  · obtain ⟨w6, w7, hap, hcl, _, hcm, HE⟩ := del_run hn h hk ⟨g, (k + 1) * 3, none⟩ (fun _ => rfl) (c - (k + 1))
    generalize vu5 w base g c (vw2 l k) = Q at *
    unfold maxLen at hcm
    clear h hn
    go_enter Tryz.func45, Tryz.ntmps45
    go_wp2_with fail
    go_region
    all_goals go_wp2_with fail
    all_goals exact q9 HE
end
end Go.Proofs.YtfkcaldjphakpabGreatDoor
