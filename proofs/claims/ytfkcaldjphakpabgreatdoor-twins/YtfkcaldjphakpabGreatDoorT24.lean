/- How long the texts of a selector's cores are at most. Every core of a selector is short enough. Rows of bytes that grow: a byte, a text, a number. not, operator by operator. -/
import Derived.Test.YtfkcaldjphakpabGreatDoorT17
import Derived.Test.YtfkcaldjphakpabGreatDoorT22
import Derived.Test.YtfkcaldjphakpabGreatDoorT18
import Derived.Test.YtfkcaldjphakpabGreatDoorT27
import Derived.Lib.AppendStr
import Derived.Deep.RegionWith
namespace Go.Proofs.YtfkcaldjphakpabGreatDoor
open Go.RowKit
section
theorem dem_true {want pl : Int} : ∀ {rs : List CRes} {fit : Bool}, dem want pl rs fit = none → fit = true := by
  intro rs
  induction rs with
  | nil => intro fit h; cases fit; cases h; rfl
  | cons r t ih =>
    intro fit h
    cases r with
    | err q => cases h
    | ok c =>
      have := ih (fit := fit && (c == want || c == 0)) h
      rw [Bool.and_eq_true] at this
      exact this.1
theorem dem_none {want pl : Int} : ∀ {rs : List CRes} {fit : Bool}, dem want pl rs fit = none → ∀ r ∈ rs, ∃ c, r = .ok c ∧ (c = want ∨ c = 0) := by
  intro rs
  induction rs with
  | nil => intro fit _ r hr; cases hr
  | cons r t ih =>
    intro fit h
    cases r with
    | err q => cases h
    | ok c =>
      have h' : dem want pl t (fit && (c == want || c == 0)) = none := h
      have hf := dem_true h'
      rw [Bool.and_eq_true, Bool.or_eq_true, beq_iff_eq, beq_iff_eq] at hf
      intro r hr
      rcases List.mem_cons.1 hr with rfl | hr
      · exact ⟨c, rfl, hf.2⟩
      · exact ih h' r hr
theorem qn2 {want pl c d : Int} {rs : List CRes} (h : ve5 want pl c rs = .ok d) : ∀ r ∈ rs, ∃ c, r = .ok c ∧ (c = want ∨ c = 0) := by
  unfold ve5 at h
  split at h
  · rename_i hd; exact dem_none hd
  · cases h
theorem vr9 {pl c : Int} {a b : CRes} (h : qj4 pl a b = .ok c) : (∃ c, a = .ok c) ∧ ∃ c, b = .ok c := by
  cases a with
  | err q => cases h
  | ok x =>
    cases b with
    | err q => cases h
    | ok y => exact ⟨⟨x, rfl⟩, ⟨y, rfl⟩⟩
def ArA : Ast → Prop
  | .leaf p => p.op = 0 ∨ p.op = 1
  | .un p x => (p.op = 14 ∨ p.op = 15) ∧ ArA x
  | .bin p x y => 16 ≤ p.op ∧ p.op ≤ 19 ∧ ArA x ∧ ArA y
  | .tri _ _ _ _ => False
theorem vh2 : ∀ t c, ShA t → qa1 t = .ok c → (c = 1 ∨ c = 0) → ArA t := by
  intro t
  induction t with
  | leaf p =>
    intro c hs hc h
    have hc : qr7 p.op p.place [] = .ok c := hc
    have hs : 0 ≤ p.op ∧ p.op ≤ 4 := hs
    rcases (show p.op = 0 ∨ p.op = 1 ∨ p.op = 2 ∨ p.op = 3 ∨ p.op = 4 by omega) with e | e | e | e | e
    · exact .inl e
    · exact .inr e
    all_goals (rw [e] at hc; injection hc with hc; omega)
  | un p x ih =>
    intro c hs hc h
    have hc : qr7 p.op p.place [qa1 x] = .ok c := hc
    rcases hs.1 with e | e | e | e | e | e
    · rw [e] at hc
      have hc : ve5 3 p.place 3 [qa1 x] = .ok c := hc
      exfalso
      unfold ve5 at hc
      split at hc
      · injection hc with hc; omega
      · cases hc
    · rw [e] at hc
      obtain ⟨d, h1, h2⟩ := qn2 (show ve5 1 p.place 1 [qa1 x] = .ok c from hc) (qa1 x) (by simp)
      exact ⟨.inl e, ih d hs.2.2.2 h1 h2⟩
    · rw [e] at hc
      obtain ⟨d, h1, h2⟩ := qn2 (show ve5 1 p.place 1 [qa1 x] = .ok c from hc) (qa1 x) (by simp)
      exact ⟨.inr e, ih d hs.2.2.2 h1 h2⟩
    all_goals (rw [e] at hc; injection hc with hc; omega)
  | bin p x y ihx ihy =>
    intro c hs hc h
    have hc : qr7 p.op p.place [qa1 x, qa1 y] = .ok c := hc
    have d3 : ∀ w, ve5 w p.place 3 [qa1 x, qa1 y] = .ok c → False := fun w hc => by
      unfold ve5 at hc
      split at hc
      · injection hc with hc; omega
      · cases hc
    have a3 : qj4 p.place (qa1 x) (qa1 y) = .ok c → False := fun hc => by
      obtain ⟨⟨a, ea⟩, b, eb⟩ := vr9 hc
      rw [ea, eb] at hc
      have hc : (if (a != b && a != 0 && b != 0) = true then CRes.err p.place else CRes.ok 3) = .ok c := hc
      split at hc
      · cases hc
      · injection hc with hc; omega
    have d1 : ve5 1 p.place 1 [qa1 x, qa1 y] = .ok c → ArA x ∧ ArA y := fun hc => by
      obtain ⟨d, h1, h2⟩ := qn2 hc (qa1 x) (by simp)
      obtain ⟨e, h3, h4⟩ := qn2 hc (qa1 y) (by simp)
      exact ⟨ihx d hs.2.1 h1 h2, ihy e hs.2.2 h3 h4⟩
    rcases (show p.op = 6 ∨ p.op = 7 ∨ p.op = 8 ∨ p.op = 9 ∨ p.op = 10 ∨ p.op = 11 ∨ p.op = 12 ∨ p.op = 13 ∨ p.op = 16 ∨ p.op = 17 ∨ p.op = 18 ∨ p.op = 19 by have := hs.1; omega) with e | e | e | e | e | e | e | e | e | e | e | e
    · rw [e] at hc; exact absurd hc (d3 3)
    · rw [e] at hc; exact absurd hc (d3 3)
    · rw [e] at hc; exact absurd hc a3
    · rw [e] at hc; exact absurd hc a3
    · rw [e] at hc; exact absurd hc (d3 1)
    · rw [e] at hc; exact absurd hc (d3 1)
    · rw [e] at hc; exact absurd hc (d3 1)
    · rw [e] at hc; exact absurd hc (d3 1)
    all_goals (rw [e] at hc; exact ⟨by omega, by omega, (d1 hc).1, (d1 hc).2⟩)
  | tri p x y z ihx ihy ihz =>
    intro c hs hc h
    have hc : qr7 p.op p.place [qa1 x, qa1 y, qa1 z] = .ok c := hc
    rw [hs.1] at hc
    have hc : ve5 1 p.place 3 [qa1 x, qa1 y, qa1 z] = .ok c := hc
    exfalso
    unfold ve5 at hc
    split at hc
    · injection hc with hc; omega
    · cases hc
theorem vg5 (p : CP) (hs : p.str.length ≤ 200) (hn : Rng p.num) (ho : qi3 p.op = true) : (z8 (.leaf p)).length ≤ 402 := by
  show (y6 p [] []).length ≤ 402
  have hq := vj7 p.str
  have hi := Lib.itoa_length_le p.num hn.1 hn.2
  unfold qi3 at ho
  simp only [Bool.or_eq_true, beq_iff_eq] at ho
  unfold y6
  rcases ho with (((e | e) | e) | e) | e
  · rw [e]; show p.str.length ≤ 402; omega
  · rw [e]; show (Lib.itoa p.num).length ≤ 402; omega
  · rw [e]; show (qL p.str).length ≤ 402; omega
  · rw [e]; show 4 ≤ 402; omega
  · rw [e]; show 5 ≤ 402; omega
theorem vg6 : (z8 (vn6 0)).length ≤ 21 := Lib.itoa_length_le 0 (by decide) (by decide)
theorem ar_len : ∀ t, ArA t → vf2 t → vf5 t → (z8 (j6 t)).length ≤ 500 * ndA t := by
  intro t
  induction t with
  | leaf p =>
    intro ha hb hn
    have := vg5 (qz9 p) hb.1 hn (by unfold qi3; rcases ha with e | e <;> simp [qz9, e])
    show (z8 (.leaf (qz9 p))).length ≤ 500 * 1
    omega
  | un p x ih =>
    intro ha hb hn
    have h := ih ha.2 hb.2 hn.2
    have hz : (z8 (vn6 0)).length ≤ 21 := vg6
    have hnd : ndA (.un p x) = 1 + p.texts.length + ndA x := rfl
    rcases ha.1 with e | e
    · have : j6 (.un p x) = z7 16 (vn6 0) (j6 x) := by rw [j6, e]; rfl
      rw [this, y8 16 rfl rfl, hnd]
      have : (qk3 16).length = 1 := rfl
      omega
    · have : j6 (.un p x) = z7 17 (vn6 0) (j6 x) := by rw [j6, e]; rfl
      rw [this, y8 17 rfl rfl, hnd]
      have : (qk3 17).length = 1 := rfl
      omega
  | bin p x y ihx ihy =>
    intro ha hb hn
    obtain ⟨h1, h2, ax, ay⟩ := ha
    have hx := ihx ax hb.2.1 hn.2.1
    have hy := ihy ay hb.2.2 hn.2.2
    have hnd : ndA (.bin p x y) = 1 + ndA x + ndA y := rfl
    have hsg := vb9 p.op
    have : j6 (.bin p x y) = z7 p.op (j6 x) (j6 y) := by
      rw [j6, if_neg (by simp; omega), if_neg (by simp; omega), if_neg (by simp; omega)]
    rw [this, y8 p.op (by unfold qi3; simp; omega) (by unfold unB; simp; omega), hnd]
    omega
  | tri p x y z ihx ihy ihz => intro ha; exact absurd ha id
end
section
theorem jg8 {zs : List (List UInt8)} {x : List UInt8} (h : x ∈ Lib.compact zs) : x ∈ zs := by
  unfold Lib.compact Lib.compactUpTo at h
  obtain ⟨i, hi, rfl⟩ := List.mem_map.1 h
  have hi := List.mem_range.1 (List.mem_filter.1 hi).1
  have : zs.toArray[i]! = zs[i] := by simp [hi]
  rw [this]
  exact List.getElem_mem _
theorem vh6 (zs : List (List UInt8)) : (Lib.compact zs).length ≤ zs.length := by
  unfold Lib.compact Lib.compactUpTo
  rw [List.length_map]
  exact Nat.le_trans (List.length_filter_le _ _) (by rw [List.length_range]; exact Nat.le_refl _)
theorem jr3 {zs : List (List UInt8)} (h : zs ≠ []) : Lib.compact zs ≠ [] := by
  cases zs with
  | nil => exact absurd rfl h
  | cons a r =>
    intro e
    unfold Lib.compact Lib.compactUpTo at e
    rw [List.map_eq_nil_iff] at e
    have : 0 ∈ (List.range (a :: r).length).filter (Lib.keeps (a :: r).toArray) := List.mem_filter.2 ⟨List.mem_range.2 (by simp), Lib.keeps_lt_one _ 0 (by decide)⟩
    rw [e] at this
    cases this
theorem vk9 {ts : List (List UInt8)} {x : List UInt8} (h : x ∈ qq9 ts) : x ∈ ts := by
  unfold qq9 at h
  exact (List.mem_mergeSort).1 (jg8 h)
theorem ja8 (ts : List (List UInt8)) : (qq9 ts).length ≤ ts.length := by
  unfold qq9
  exact Nat.le_trans (vh6 _) (by rw [List.length_mergeSort]; exact Nat.le_refl _)
theorem jp1 {ts : List (List UInt8)} (h : ts ≠ []) : qq9 ts ≠ [] := by
  unfold qq9
  refine jr3 (fun e => h ?_)
  have := congrArg List.length e
  rw [List.length_mergeSort] at this
  exact List.eq_nil_of_length_eq_zero this
theorem qw9 (t : List UInt8) (h : t.length ≤ 200) : (z8 (qp2 t)).length ≤ 402 := by
  show (qL t).length ≤ 402
  have := vj7 t
  omega
theorem vz6 (x : Co) : ∀ (r : List (List UInt8)) (f : Co), (∀ t ∈ r, t.length ≤ 200) → (z8 (qw2 x f r)).length ≤ (z8 f).length + r.length * ((z8 x).length + 420) := by
  intro r
  induction r with
  | nil => intro f _; show (z8 f).length ≤ _; omega
  | cons t r ih =>
    intro f h
    have h1 := ih (z7 7 f (z7 8 x (qp2 t))) (fun u hu => h u (List.mem_cons_of_mem _ hu))
    rw [y8 7 rfl rfl, y8 8 rfl rfl] at h1
    have h2 := qw9 t (h t List.mem_cons_self)
    have e7 : (qk3 7).length = 2 := rfl
    have e8 : (qk3 8).length = 1 := rfl
    show (z8 (qw2 x (z7 7 f (z7 8 x (qp2 t))) r)).length ≤ _
    rw [List.length_cons, Nat.succ_mul]
    omega
theorem orAll_u (x : Co) : ∀ (r : List (List UInt8)) (f : Co), uC (qw2 x f r) = uC f + r.length := by
  intro r
  induction r with
  | nil => intro f; rfl
  | cons t r ih =>
    intro f
    show uC (qw2 x (z7 7 f (z7 8 x (qp2 t))) r) = _
    rw [ih, qi9, qi9]
    show uC f + 1 + r.length = _
    rw [List.length_cons]; omega
theorem orAll_wf {x : Co} (hx : WfC x) : ∀ (r : List (List UInt8)) (f : Co), WfC f → WfC (qw2 x f r) := by
  intro r
  induction r with
  | nil => intro f h; exact h
  | cons t r ih => intro f h; exact ih _ (qg2 rfl h (qg2 rfl hx rfl))
theorem qv9 {x : Ast} (hs : ShA x) (h : opA x = 0) : ∃ q, x = .leaf q ∧ q.op = 0 := by
  cases x with
  | leaf q => exact ⟨q, rfl, h⟩
  | un p y => have := hs.1; have h : p.op = 0 := h; omega
  | bin p y z => have := hs.1; have h : p.op = 0 := h; omega
  | tri p y z u => have := hs.1; have h : p.op = 0 := h; omega
theorem sq_add (a b : Nat) (k : Nat) (hk : k ≤ 3000) : 3000 * (a * a) + 3000 * (b * b) + k ≤ 3000 * ((1 + a + b) * (1 + a + b)) := by
  have : (1 + a + b) * (1 + a + b) = a * a + b * b + 2 * (a * b) + 2 * a + 2 * b + 1 := by
    simp only [Nat.add_mul, Nat.mul_add, Nat.one_mul, Nat.mul_one]
    have := Nat.mul_comm b a
    omega
  rw [this]
  omega
theorem ja9 (a m : Nat) (k : Nat) (hk : k ≤ 3000 + 6000 * a) : 3000 * (a * a) + k ≤ 3000 * ((1 + m + a) * (1 + m + a)) := by
  have h1 : (1 + a) * (1 + a) ≤ (1 + m + a) * (1 + m + a) := Nat.mul_le_mul (by omega) (by omega)
  have h2 : (1 + a) * (1 + a) = a * a + 2 * a + 1 := by
    simp only [Nat.add_mul, Nat.mul_add, Nat.one_mul, Nat.mul_one]
    omega
  omega
structure Gd (t : Ast) : Prop where
  len : (z8 (j6 t)).length ≤ 3000 * (ndA t * ndA t)
  un : uC (j6 t) ≤ ndA t
  wf : WfC (j6 t)
theorem nd_pos : ∀ t, 1 ≤ ndA t := by
  intro t
  cases t <;> (unfold ndA; omega)
def GdA : Ast → Prop
  | .leaf p => Gd (.leaf p)
  | .un p x => Gd (.un p x) ∧ GdA x
  | .bin p x y => Gd (.bin p x y) ∧ GdA x ∧ GdA y
  | .tri p x y z => Gd (.tri p x y z) ∧ GdA x ∧ GdA y ∧ GdA z
theorem GdA.gd {t : Ast} (h : GdA t) : Gd t := by
  cases t with
  | leaf p => exact h
  | un p x => exact h.1
  | bin p x y => exact h.1
  | tri p x y z => exact h.1
theorem gd_leaf (p : Pay) (hs : ShA (.leaf p)) (hb : vf2 (.leaf p)) (hn : vf5 (.leaf p)) : Gd (.leaf p) := by
  have hl : qi3 (qz9 p).op = true := by
    have hs : 0 ≤ p.op ∧ p.op ≤ 4 := hs
    unfold qi3 qz9
    simp only [Bool.or_eq_true, beq_iff_eq]
    omega
  refine ⟨?_, Nat.le_refl _, hl⟩
  have := vg5 (qz9 p) hb.1 hn hl
  show (z8 (.leaf (qz9 p))).length ≤ 3000 * (1 * 1)
  omega
theorem jf4 {op : Int} (hop : binB op = true) {p : Pay} {x y : Ast} (hx : Gd x) (hy : Gd y) (u v : Co) (hu : (u = j6 x ∧ v = j6 y) ∨ (u = j6 y ∧ v = j6 x)) (he : j6 (.bin p x y) = z7 op u v) : Gd (.bin p x y) := by
  have h12 : qi3 op = false ∧ unB op = false := by
    unfold binB at hop
    simpa using hop
  have hl : (z8 u).length + (z8 v).length = (z8 (j6 x)).length + (z8 (j6 y)).length := by rcases hu with ⟨rfl, rfl⟩ | ⟨rfl, rfl⟩ <;> omega
  have hc : uC u + uC v = uC (j6 x) + uC (j6 y) := by rcases hu with ⟨rfl, rfl⟩ | ⟨rfl, rfl⟩ <;> omega
  have hw : WfC u ∧ WfC v := by
    rcases hu with ⟨rfl, rfl⟩ | ⟨rfl, rfl⟩
    · exact ⟨hx.wf, hy.wf⟩
    · exact ⟨hy.wf, hx.wf⟩
  have hsg := vb9 op
  have h1 := hx.len
  have h2 := hy.len
  have h3 := hx.un
  have h4 := hy.un
  have hnd : ndA (.bin p x y) = 1 + ndA x + ndA y := rfl
  refine ⟨?_, ?_, ?_⟩
  · rw [he, y8 op h12.1 h12.2, hnd]
    have := sq_add (ndA x) (ndA y) 7 (by decide)
    omega
  · rw [he, qi9, hnd]
    split <;> omega
  · rw [he]; exact qg2 hop hw.1 hw.2
theorem gd_every : ∀ t, ShA t → vf2 t → vf5 t → BqA t → (∃ c, qa1 t = .ok c) → GdA t := by
  intro t
  induction t with
  | leaf p => intro hs hb hn _ _; exact gd_leaf p hs hb hn
  | un p x ih =>
    intro hs hb hn hq hc
    obtain ⟨c, hc⟩ := hc
    have hc : qr7 p.op p.place [qa1 x] = .ok c := hc
    have hcx : ∃ d, qa1 x = .ok d := by
      rcases hs.1 with e | e | e | e | e | e
      · rw [e] at hc
        obtain ⟨d, h1, _⟩ := qn2 (show ve5 3 p.place 3 [qa1 x] = .ok c from hc) (qa1 x) (by simp)
        exact ⟨d, h1⟩
      · rw [e] at hc
        obtain ⟨d, h1, _⟩ := qn2 (show ve5 1 p.place 1 [qa1 x] = .ok c from hc) (qa1 x) (by simp)
        exact ⟨d, h1⟩
      · rw [e] at hc
        obtain ⟨d, h1, _⟩ := qn2 (show ve5 1 p.place 1 [qa1 x] = .ok c from hc) (qa1 x) (by simp)
        exact ⟨d, h1⟩
      all_goals
        obtain ⟨q, rfl, hq0⟩ := qv9 hs.2.2.2 (hs.2.2.1 (by omega))
        exact ⟨0, by show qr7 q.op q.place [] = .ok 0; rw [hq0]; rfl⟩
    have hx := ih hs.2.2.2 hb.2 hn.2 hq.2 hcx
    refine ⟨?_, hx⟩
    have gx := hx.gd
    have h1 := gx.len
    have h2 := gx.un
    have h3 := nd_pos x
    have hnd : ndA (.un p x) = 1 + p.texts.length + ndA x := rfl
    have hz := vg6
    rcases hs.1 with e | e | e | e | e | e
    · have he : j6 (.un p x) = qh2 (j6 x) := by rw [j6, e]; rfl
      have hl := qp1 (j6 x) gx.wf
      refine ⟨?_, by rw [he, uC_not, hnd]; omega, by rw [he]; exact wfC_not _ gx.wf⟩
      rw [he, hnd]
      have := ja9 (ndA x) p.texts.length (7 * ndA x) (by omega)
      omega
    · have he : j6 (.un p x) = z7 16 (vn6 0) (j6 x) := by rw [j6, e]; rfl
      have e16 : (qk3 16).length = 1 := rfl
      refine ⟨?_, by rw [he, qi9, hnd]; show 1 ≤ _; omega, by rw [he]; exact qg2 rfl rfl gx.wf⟩
      rw [he, y8 16 rfl rfl, hnd]
      have := ja9 (ndA x) p.texts.length 30 (by omega)
      omega
    · have he : j6 (.un p x) = z7 17 (vn6 0) (j6 x) := by rw [j6, e]; rfl
      have e17 : (qk3 17).length = 1 := rfl
      refine ⟨?_, by rw [he, qi9, hnd]; show 1 ≤ _; omega, by rw [he]; exact qg2 rfl rfl gx.wf⟩
      rw [he, y8 17 rfl rfl, hnd]
      have := ja9 (ndA x) p.texts.length 30 (by omega)
      omega
    · have he : j6 (.un p x) = qu7 (j6 x) p.texts := by rw [j6, e]; rfl
      have hne := jp1 (hs.2.1 e)
      have hsl := ja8 p.texts
      have hm : ∀ u ∈ qq9 p.texts, u.length ≤ 200 := fun u hu => hq.1.2 u (vk9 hu)
      obtain ⟨q, rfl, hq0⟩ := qv9 hs.2.2.2 (hs.2.2.1 (by omega))
      have hlx : (z8 (j6 (.leaf q))).length ≤ 402 := vg5 (qz9 q) hb.2.1 hn.2 (by unfold qi3; simp [qz9, hq0])
      cases hsort : qq9 p.texts with
      | nil => exact absurd hsort hne
      | cons u r =>
        rw [hsort] at hm hsl
        have he2 : j6 (.un p (.leaf q)) = qw2 (j6 (.leaf q)) (z7 8 (j6 (.leaf q)) (qp2 u)) r := by rw [he, qu7, hsort]
        have hol := vz6 (j6 (.leaf q)) r (z7 8 (j6 (.leaf q)) (qp2 u)) (fun y hy => hm y (List.mem_cons_of_mem _ hy))
        rw [y8 8 rfl rfl] at hol
        have htl := qw9 u (hm u List.mem_cons_self)
        have e8 : (qk3 8).length = 1 := rfl
        rw [List.length_cons] at hsl
        refine ⟨?_, ?_, ?_⟩
        · rw [he2, hnd]
          have hmul : r.length * ((z8 (j6 (.leaf q))).length + 420) ≤ r.length * 822 := Nat.mul_le_mul_left _ (by omega)
          have hsq : (1 + p.texts.length + ndA (.leaf q)) * 1 ≤ (1 + p.texts.length + ndA (.leaf q)) * (1 + p.texts.length + ndA (.leaf q)) := Nat.mul_le_mul_left _ (by omega)
          omega
        · rw [he2, orAll_u, qi9, hnd]
          show 1 + _ ≤ _
          omega
        · rw [he2]
          exact orAll_wf gx.wf _ _ (qg2 rfl gx.wf rfl)
    · have he : j6 (.un p x) = .un (qz9 p) (j6 x) := by rw [j6, e]; rfl
      have hl : (z8 (.un (qz9 p) (j6 x))).length ≤ (z8 (j6 x)).length + 830 := by
        show (y6 (qz9 p) (z8 (j6 x)) []).length ≤ _
        have a := vj7 p.str
        have b := vj7 p.esc
        have c1 := hb.1.1
        have c2 := hq.1.1
        have d : (escT p.esc).length ≤ 8 + (qL p.esc).length := by unfold escT; split <;> simp <;> omega
        rw [y6]
        simp only [qz9, e]
        simp
        omega
      refine ⟨?_, by rw [he, hnd]; show uC (j6 x) ≤ _; omega, by rw [he]; exact ⟨by unfold unB; simp [qz9, e], gx.wf⟩⟩
      rw [he, hnd]
      have := ja9 (ndA x) p.texts.length 830 (by omega)
      omega
    · have he : j6 (.un p x) = .un (qz9 p) (j6 x) := by rw [j6, e]; rfl
      have hl : (z8 (.un (qz9 p) (j6 x))).length = (z8 (j6 x)).length + 10 := by
        show (y6 (qz9 p) (z8 (j6 x)) []).length = _
        rw [y6]
        simp only [qz9, e]
        simp
      refine ⟨?_, by rw [he, hnd]; show uC (j6 x) ≤ _; omega, by rw [he]; exact ⟨by unfold unB; simp [qz9, e], gx.wf⟩⟩
      rw [he, hnd]
      have := ja9 (ndA x) p.texts.length 10 (by omega)
      omega
  | bin p x y ihx ihy =>
    intro hs hb hn hq hc
    obtain ⟨c, hc⟩ := hc
    have hc : qr7 p.op p.place [qa1 x, qa1 y] = .ok c := hc
    have hcs : (∃ d, qa1 x = .ok d) ∧ ∃ d, qa1 y = .ok d := by
      have dm : ∀ w k, ve5 w p.place k [qa1 x, qa1 y] = .ok c → (∃ d, qa1 x = .ok d) ∧ ∃ d, qa1 y = .ok d := fun w k h => by
        obtain ⟨d, h1, _⟩ := qn2 h (qa1 x) (by simp)
        obtain ⟨e, h3, _⟩ := qn2 h (qa1 y) (by simp)
        exact ⟨⟨d, h1⟩, ⟨e, h3⟩⟩
      rcases (show p.op = 6 ∨ p.op = 7 ∨ p.op = 8 ∨ p.op = 9 ∨ p.op = 10 ∨ p.op = 11 ∨ p.op = 12 ∨ p.op = 13 ∨ p.op = 16 ∨ p.op = 17 ∨ p.op = 18 ∨ p.op = 19 by have := hs.1; omega) with e | e | e | e | e | e | e | e | e | e | e | e <;> rw [e] at hc
      · exact dm 3 3 hc
      · exact dm 3 3 hc
      · exact vr9 (show qj4 p.place (qa1 x) (qa1 y) = .ok c from hc)
      · exact vr9 (show qj4 p.place (qa1 x) (qa1 y) = .ok c from hc)
      · exact dm 1 3 hc
      · exact dm 1 3 hc
      · exact dm 1 3 hc
      · exact dm 1 3 hc
      · exact dm 1 1 hc
      · exact dm 1 1 hc
      · exact dm 1 1 hc
      · exact dm 1 1 hc
    have hx := ihx hs.2.1 hb.2.1 hn.2.1 hq.2.1 hcs.1
    have hy := ihy hs.2.2 hb.2.2 hn.2.2 hq.2.2 hcs.2
    refine ⟨?_, hx, hy⟩
    have gx := hx.gd
    have gy := hy.gd
    by_cases h12 : p.op = 12
    · exact jf4 (op := 10) rfl gx gy (j6 y) (j6 x) (.inr ⟨rfl, rfl⟩) (by rw [j6, h12]; rfl)
    by_cases h13 : p.op = 13
    · exact jf4 (op := 11) rfl gx gy (j6 y) (j6 x) (.inr ⟨rfl, rfl⟩) (by rw [j6, h13]; rfl)
    by_cases h9 : p.op = 9
    · have he : j6 (.bin p x y) = qh2 (z7 8 (j6 x) (j6 y)) := by rw [j6, h9]; rfl
      have hw : WfC (z7 8 (j6 x) (j6 y)) := qg2 rfl gx.wf gy.wf
      have hl := qp1 _ hw
      have hu : uC (z7 8 (j6 x) (j6 y)) = 1 := by rw [qi9]; rfl
      rw [hu, y8 8 rfl rfl] at hl
      have e8 : (qk3 8).length = 1 := rfl
      have h1 := gx.len
      have h2 := gy.len
      have hnd : ndA (.bin p x y) = 1 + ndA x + ndA y := rfl
      refine ⟨?_, by rw [he, uC_not, hu, hnd]; omega, by rw [he]; exact wfC_not _ hw⟩
      rw [he, hnd]
      have := sq_add (ndA x) (ndA y) 20 (by decide)
      omega
    · refine jf4 (op := p.op) ?_ gx gy (j6 x) (j6 y) (.inl ⟨rfl, rfl⟩) (by rw [j6, if_neg (by simpa using h12), if_neg (by simpa using h13), if_neg (by simpa using h9)])
      have := hs.1
      unfold binB qi3 unB
      simp only [Bool.and_eq_true, Bool.not_eq_true', Bool.or_eq_false_iff, beq_eq_false_iff_ne]
      omega
  | tri p x y z ihx ihy ihz =>
    intro hs hb hn hq hc
    obtain ⟨c, hc⟩ := hc
    have hc : qr7 p.op p.place [qa1 x, qa1 y, qa1 z] = .ok c := hc
    rw [hs.1] at hc
    have hc : ve5 1 p.place 3 [qa1 x, qa1 y, qa1 z] = .ok c := hc
    obtain ⟨d1, x1, x2⟩ := qn2 hc (qa1 x) (by simp)
    obtain ⟨d2, y1, y2⟩ := qn2 hc (qa1 y) (by simp)
    obtain ⟨d3, z1, z2⟩ := qn2 hc (qa1 z) (by simp)
    have hx := ihx hs.2.1 hb.2.1 hn.2.1 hq.2.1 ⟨_, x1⟩
    have hy := ihy hs.2.2.1 hb.2.2.1 hn.2.2.1 hq.2.2.1 ⟨_, y1⟩
    have hz := ihz hs.2.2.2 hb.2.2.2 hn.2.2.2 hq.2.2.2 ⟨_, z1⟩
    refine ⟨?_, hx, hy, hz⟩
    have ax := ar_len x (vh2 x d1 hs.2.1 x1 x2) hb.2.1 hn.2.1
    have ay := ar_len y (vh2 y d2 hs.2.2.1 y1 y2) hb.2.2.1 hn.2.2.1
    have az := ar_len z (vh2 z d3 hs.2.2.2 z1 z2) hb.2.2.2 hn.2.2.2
    have gx := hx.gd.wf
    have gy := hy.gd.wf
    have gz := hz.gd.wf
    have he : j6 (.tri p x y z) = z7 6 (z7 11 (j6 y) (j6 x)) (z7 11 (j6 x) (j6 z)) := rfl
    have hnd : ndA (.tri p x y z) = 1 + ndA x + ndA y + ndA z := rfl
    have px := nd_pos x
    refine ⟨?_, by rw [he, qi9, qi9, qi9, hnd]; show 1 + 1 ≤ _; omega, by rw [he]; exact qg2 rfl (qg2 rfl gy gx) (qg2 rfl gx gz)⟩
    rw [he, y8 6 rfl rfl, y8 11 rfl rfl, y8 11 rfl rfl, hnd]
    have e6 : (qk3 6).length = 3 := rfl
    have e11 : (qk3 11).length = 2 := rfl
    have hsq : (1 + ndA x + ndA y + ndA z) * 1 ≤ (1 + ndA x + ndA y + ndA z) * (1 + ndA x + ndA y + ndA z) := Nat.mul_le_mul_left _ (by omega)
    omega
theorem vq0 {s : ByteArray} {t : Ast} (h : qm5 s = .ok t) : GdA t ∧ ndA t ≤ 200 ∧ ShA t ∧ vf5 t ∧ vf2 t ∧ BqA t := by
  have hsh := vv1 h
  have hcls : ∃ c, qa1 t = .ok c ∧ vf5 t ∧ vf2 t ∧ BqA t := by
    unfold qm5 at h
    by_cases hs : s.size ≤ 200
    · rw [if_pos hs] at h
      cases he : (lvl s 12).E (v8 s st0) with
      | err en pl => rw [he] at h; cases h
      | ok t1 st =>
        rw [he] at h
        change endR t1 st = _ at h
        unfold endR at h
        split at h
        · split at h
          · rename_i hk
            injection h with h
            subst h
            cases hc : qa1 t1 with
            | err q => rw [hc] at hk; cases hk
            | ok c => exact ⟨c, rfl, ((lvl_num s 12).E _ _ _ (qb9 s st0) he).1, ((lvl_bnd s hs 12).E _ _ _ (j8 hs st0) he).1, ((lvl_bq s hs 12).E _ _ _ (j8 hs st0) he).1⟩
          · cases h
        · cases h
    · rw [if_neg hs] at h; cases h
  obtain ⟨c, hc, hn, hb, hq⟩ := hcls
  exact ⟨gd_every t hsh.1 hb hn hq ⟨c, hc⟩, hsh.2, hsh.1, hn, hb, hq⟩
end
section
attribute [local go_sem ↓] qc8
def qr6 (l : List UInt8) : List Value := l.map fun x => .int .u8 (x.toNat : Int)
def OB (w : World) (base : Nat) (v : Value) (l : List UInt8) : Prop := w.ownsRow base 5 1 v l.length (qr6 l)
theorem OB.app {W : World} {base : Nat} {v : Value} {l : List UInt8} (h : OB W base v l) (hb : base ≤ W.heap.size) (x : UInt8) (xi : Int) (hx : xi = (x.toNat : Int)) (hn : l.length ≤ 1000000) (ty : TypeId) (H : Nat) (hH : W.heap.size = H) {W' : World} (hW : W' = W.alloc (.cells #[.int .u8 xi] 5)) :
    ∃ g cap w5, (qm1 #[36, 36] ty #[v, .slice (some ⟨H, 0, none⟩) 1 1]).run Tryz.prog W' = .ok (.slice (some ⟨g, 0, none⟩) (l.length + 1) cap) w5 ∧
      Hid (OB w5 base (.slice (some ⟨g, 0, none⟩) (l.length + 1) cap) (l ++ [x])) ∧ Hid (Below base W w5) := by
  subst hH hW hx
  obtain ⟨i0, hi, hz0, hz1, hz2⟩ := info_parts va4
  have ha := World.ownsRow.alloc h (.cells #[.int .u8 (x.toNat : Int)] 5)
  obtain ⟨g, cap, w5, hr, hown, hgrow, hat, _⟩ := run_append_lies (P := Tryz.prog) (W.alloc (.cells #[.int .u8 (x.toNat : Int)] 5)) 36 ty base 5 i0 _ 1 1 Tryz.underlying36 hi hz0 hz1 hz2 rfl (by omega) v l.length (qr6 l) ha
    ⟨W.heap.size, 0, none⟩ 1 1 [.int .u8 (x.toNat : Int)] rfl (World.news_of_block (cs := #[.int .u8 (x.toNat : Int)]) (t := 5) (fr := (0, 0)) (heap_alloc_new W _)) (by simp [Value.oneCell']) (by omega) (by unfold maxLen; omega) (by omega) (by simp; omega) _ rfl
  refine ⟨g, cap, w5, hr, v6 ?_, v6 ?_⟩
  · show World.ownsRow _ _ _ _ _ _ _
    rw [List.length_append, List.length_singleton, qr6, List.map_append]
    exact hown
  · exact Go.RowKit.Below.grown (((Below.refl base W).alloc hb _)) hgrow (by simp; omega) (fun k hk => (ha.lt k hk).1)
theorem OB.form {w : World} {base : Nat} {v : Value} {l : List UInt8} (h : OB w base v l) : ∃ a c, v = .slice a l.length c := by
  rcases h.2 with ⟨rfl, hn⟩ | ⟨g, cap, cur, rfl, _⟩
  · exact ⟨none, 0, by rw [hn]⟩
  · exact ⟨_, _, rfl⟩
theorem ji8 (l : List UInt8) : Lib.strCells (BS l) = qr6 l := by
  simp [Lib.strCells, qr6, BS]
theorem OB.appText {W : World} {base : Nat} {v : Value} {l : List UInt8} (h : OB W base v l) (hb : base ≤ W.heap.size) (s : List UInt8) (hn : l.length + s.length ≤ 1000000) (ty : TypeId) :
    ∃ v' w5, (qm1 #[36, 9] ty #[v, .string (BS s)]).run Tryz.prog W = .ok v' w5 ∧ Hid (OB w5 base v' (l ++ s)) ∧ Hid (Below base W w5) := by
  obtain ⟨i0, hi, hz0, hz1, hz2⟩ := info_parts va4
  have hs : (BS s).size = s.length := qc0 s
  obtain ⟨v', w5, hr, hown, hgrow, _⟩ := Lib.run_append_own_string (P := Tryz.prog) W base 36 9 ty 5 i0 Tryz.underlying36 Tryz.underlying9 hi hz0 hz1 hz2 v l.length (qr6 l) h (BS s) (by rw [hs]; unfold maxLen; omega) (by rw [hs]; omega) hb
  rw [hs, ji8] at hown
  refine ⟨v', w5, hr, v6 ?_, v6 ?_⟩
  · show World.ownsRow _ _ _ _ _ _ _
    rw [List.length_append, qr6, List.map_append]
    exact hown
  · exact Go.RowKit.Below.grown (Below.refl base W) hgrow hb (fun k hk => (World.ownsRow.lt h k hk).1)
def ve4 (base : Nat) (W : World) (l : List UInt8) (e : Ending) (w' : World) : Prop := ∃ v, e = .returned v ∧ OB w' base v l ∧ Below base W w'
def lenB (s : List UInt8) : List UInt8 := UInt8.ofNat s.length :: s
set_option maxHeartbeats 400000 in
theorem vw1 (base : Nat) (v : Value) (l s : List UInt8) (W : World) (h : OB W base v l) (hb : base ≤ W.heap.size) (hn : l.length + s.length ≤ 900000) (hs : s.length ≤ 255) (Q : Ending → World → Prop) (hQ : ∀ e w', ve4 base W (l ++ lenB s) e w' → Q e w') :
    Calls Tryz.prog 96 #[v, .string (BS s)] W Q := by
  have HQ := v6 hQ
  clear hQ
  have hz : (BS s).size = s.length := qc0 s
  obtain ⟨a, c, rfl⟩ := h.form
  obtain ⟨g, cap, w5, hap, HO, HB⟩ := h.app hb (UInt8.ofNat s.length) (s.length : Int) (by rw [UInt8.toNat_ofNat']; simp; omega) (by omega) 36 _ rfl rfl
  obtain ⟨v', w6, hap2, HO2, HB2⟩ := (q9 HO).appText (Nat.le_trans hb (q9 HB).size) s (by simp; omega) 36
  have hs0 : (0 : Int) ≤ (s.length : Int) := by omega
  have hs1 : (s.length : Int) < 256 := by omega
  go_enter Tryz.func96, Tryz.ntmps96
  go_wp2_with fail
  exact q9 HQ _ _ ⟨_, rfl, by have := q9 HO2; rw [List.append_assoc] at this; exact this, (q9 HB).trans (q9 HB2)⟩
end
section
set_option maxHeartbeats 1000000 in
theorem not_leaf3 (p : CP) (ho : p.op = 3) : va0 (.leaf p) := by
  intro B w v hB hL h
  have hv : qh2 (.leaf p) = .leaf (qb0 4) := by unfold qh2; rw [ho]; rfl
  rw [hv]
  clear hv
  have S := v6 (qm7 (qb0 4) rfl (show Rng 0 from ⟨by decide, by decide⟩) (Nat.zero_le _) (Nat.zero_le _) hB hL)
  replace S : Hid (Calls Tryz.prog 94 #[.agg #[.int .i64 4, .pointer none, .pointer none, .int .i64 0, .string ⟨#[]⟩, .string ⟨#[]⟩, .string ⟨#[]⟩]] w fun e w' => ∃ b, e = .returned (.pointer (some ⟨b, 0, none⟩)) ∧ CoAt B w'.heap.size w' (.pointer (some ⟨b, 0, none⟩)) (.leaf (qb0 4)) ∧ Below w.heap.size w w') := S
  obtain ⟨b, rfl, hc⟩ := h
  have c0 := hc.c0
  unfold at0
  have e3 : (p.op == 3) = true := by rw [ho]; rfl
  clear hc hL hB ho
  go_enter Tryz.func92, Tryz.ntmps92
  go_wp2_with (go_at_call 94; refine (q9 S).mono ?_; rintro e w1 ⟨b1, rfl, hc1, hb1⟩)
  go_ret
  exact ⟨b1, rfl, hc1, hb1⟩
set_option maxHeartbeats 1000000 in
theorem not_leaf4 (p : CP) (ho : p.op = 4) : va0 (.leaf p) := by
  intro B w v hB hL h
  have hv : qh2 (.leaf p) = .leaf (qb0 3) := by unfold qh2; rw [ho]; rfl
  rw [hv]
  clear hv
  have S := v6 (qm7 (qb0 3) rfl (show Rng 0 from ⟨by decide, by decide⟩) (Nat.zero_le _) (Nat.zero_le _) hB hL)
  replace S : Hid (Calls Tryz.prog 94 #[.agg #[.int .i64 3, .pointer none, .pointer none, .int .i64 0, .string ⟨#[]⟩, .string ⟨#[]⟩, .string ⟨#[]⟩]] w fun e w' => ∃ b, e = .returned (.pointer (some ⟨b, 0, none⟩)) ∧ CoAt B w'.heap.size w' (.pointer (some ⟨b, 0, none⟩)) (.leaf (qb0 3)) ∧ Below w.heap.size w w') := S
  obtain ⟨b, rfl, hc⟩ := h
  have c0 := hc.c0
  unfold at0
  have e3 : (p.op == 3) = false := by rw [ho]; rfl
  have e4 : (p.op == 4) = true := by rw [ho]; rfl
  clear hc hL hB ho
  go_enter Tryz.func92, Tryz.ntmps92
  go_wp2_with (go_at_call 94; refine (q9 S).mono ?_; rintro e w1 ⟨b1, rfl, hc1, hb1⟩)
  go_ret
  exact ⟨b1, rfl, hc1, hb1⟩
theorem vu0 (c : Co) (p : CP) (hz : (z8 c).length ≤ 1000000000) (hv : qh2 c = .un (qb0 5) c) 
    (hop : ∀ B E w v, CoAt B E w v c → ∃ b l r, v = at0 b ∧ CellsC B E w b p l r (z8 c)) (h3 : ¬ p.op = 3) (h4 : ¬ p.op = 4) (h6 : ¬ p.op = 6) (h7 : ¬ p.op = 7) (h10 : ¬ p.op = 10) (h11 : ¬ p.op = 11) (h5 : ¬ p.op = 5) : va0 c := by
  intro B w v hB hL h
  rw [hv]
  obtain ⟨b, l, r, rfl, hc⟩ := hop _ _ _ _ h
  have S : Hid (Calls Tryz.prog 94 #[.agg #[.int .i64 5, .pointer (some ⟨b, 0, none⟩), .pointer none, .int .i64 0, .string ⟨#[]⟩, .string ⟨#[]⟩, .string ⟨#[]⟩]] w fun e w' => ∃ b, e = .returned (.pointer (some ⟨b, 0, none⟩)) ∧ CoAt B w'.heap.size w' (.pointer (some ⟨b, 0, none⟩)) (.un (qb0 5) c) ∧ Below w.heap.size w w') :=
    v6 (qz7 (qb0 5) rfl (show Rng 0 from ⟨by decide, by decide⟩) (Nat.zero_le _) (Nat.zero_le _) hB hL h hz)
  have c0 := hc.c0
  unfold at0
  have e3 : (p.op == 3) = false := beq_eq_false_iff_ne.2 h3
  have e4 : (p.op == 4) = false := beq_eq_false_iff_ne.2 h4
  have e6 : (p.op == 6) = false := beq_eq_false_iff_ne.2 h6
  have e7 : (p.op == 7) = false := beq_eq_false_iff_ne.2 h7
  have e10 : (p.op == 10) = false := beq_eq_false_iff_ne.2 h10
  have e11 : (p.op == 11) = false := beq_eq_false_iff_ne.2 h11
  have e5 : (p.op == 5) = false := beq_eq_false_iff_ne.2 h5
  clear hc hL hB h hop hv hz h3 h4 h6 h7 h10 h11 h5
  go_enter Tryz.func92, Tryz.ntmps92
  go_wp2_with (go_at_call 94; refine (q9 S).mono ?_; rintro e w1 ⟨b1, rfl, hc1, hb1⟩)
  go_ret
  exact ⟨b1, rfl, hc1, hb1⟩
set_option maxHeartbeats 1000000 in
theorem not_un5 (p : CP) (x : Co) (ho : p.op = 5) (hx0 : ¬ opC x = 0) : va0 (.un p x) := by
  intro B w v hB hL h
  have hv : qh2 (.un p x) = x := by unfold qh2; rw [ho, if_pos]; rw [Bool.and_eq_true]; exact ⟨rfl, by simpa using hx0⟩
  rw [hv]
  obtain ⟨b, vx, rfl, hc, hx⟩ := h
  obtain ⟨bx, px, lx, rx, rfl, hop, hcx⟩ := hx.head
  have c0 := hc.c0
  have c1 := hc.c1
  have x0 := hcx.c0
  rw [hop] at x0
  have ex : (opC x != 0) = true := by simpa using hx0
  unfold at0 at c1 hx ⊢
  have HX := v6 hx
  have e3 : (p.op == 3) = false := by rw [ho]; rfl
  have e4 : (p.op == 4) = false := by rw [ho]; rfl
  have e6 : (p.op == 6) = false := by rw [ho]; rfl
  have e7 : (p.op == 7) = false := by rw [ho]; rfl
  have e10 : (p.op == 10) = false := by rw [ho]; rfl
  have e11 : (p.op == 11) = false := by rw [ho]; rfl
  have e5 : (p.op == 5) = true := by rw [ho]; rfl
  clear hc hL hB ho hx0 hv hx hop hcx
  go_enter Tryz.func92, Tryz.ntmps92
  go_wp2_with fail
  go_ret
  exact ⟨bx, rfl, q9 HX, Below.refl _ _⟩
set_option maxHeartbeats 1000000 in
theorem not_un50 (p : CP) (x : Co) (ho : p.op = 5) (hx0 : opC x = 0) (hz : (z8 (.un p x)).length ≤ 1000000000) : va0 (.un p x) := by
  intro B w v hB hL h
  have hv : qh2 (.un p x) = .un (qb0 5) (.un p x) := by unfold qh2; rw [hx0, if_neg]; rw [Bool.and_eq_true]; rintro ⟨_, h⟩; cases h
  rw [hv]
  have H := h
  obtain ⟨b, vx, rfl, hc, hx⟩ := h
  have S : Hid (Calls Tryz.prog 94 #[.agg #[.int .i64 5, .pointer (some ⟨b, 0, none⟩), .pointer none, .int .i64 0, .string ⟨#[]⟩, .string ⟨#[]⟩, .string ⟨#[]⟩]] w fun e w' => ∃ b, e = .returned (.pointer (some ⟨b, 0, none⟩)) ∧ CoAt B w'.heap.size w' (.pointer (some ⟨b, 0, none⟩)) (.un (qb0 5) (.un p x)) ∧ Below w.heap.size w w') :=
    v6 (qz7 (qb0 5) rfl (show Rng 0 from ⟨by decide, by decide⟩) (Nat.zero_le _) (Nat.zero_le _) hB hL H hz)
  obtain ⟨bx, px, lx, rx, rfl, hop, hcx⟩ := hx.head
  have c0 := hc.c0
  have c1 := hc.c1
  have x0 := hcx.c0
  rw [hop, hx0] at x0
  unfold at0 at c1 ⊢
  have e3 : (p.op == 3) = false := by rw [ho]; rfl
  have e4 : (p.op == 4) = false := by rw [ho]; rfl
  have e6 : (p.op == 6) = false := by rw [ho]; rfl
  have e7 : (p.op == 7) = false := by rw [ho]; rfl
  have e10 : (p.op == 10) = false := by rw [ho]; rfl
  have e11 : (p.op == 11) = false := by rw [ho]; rfl
  have e5 : (p.op == 5) = true := by rw [ho]; rfl
  clear hc hL hB ho hx0 hv hx hop hcx H hz
  go_enter Tryz.func92, Tryz.ntmps92
  go_wp2_with (go_at_call 94; refine (q9 S).mono ?_; rintro e w1 ⟨b1, rfl, hc1, hb1⟩)
  go_ret
  exact ⟨b1, rfl, hc1, hb1⟩
set_option maxHeartbeats 1000000 in
set_option maxRecDepth 100000 in
theorem not_bin6 (p : CP) (x y : Co) (ho : p.op = 6) (hx : va0 x) (hy : va0 y) (zx : (z8 (qh2 x)).length ≤ 1000000000) (zy : (z8 (qh2 y)).length ≤ 1000000000) : va0 (.bin p x y) := by
  intro B w v hB hL h
  have hv : qh2 (.bin p x y) = z7 7 (qh2 x) (qh2 y) := by rw [qh2, ho]; rfl
  rw [hv]
  obtain ⟨b, vx, vy, rfl, hc, cx, cy⟩ := h
  obtain ⟨bx, rfl⟩ := cx.ptr
  obtain ⟨by', rfl⟩ := cy.ptr
  have c0 := hc.c0
  have c1 := hc.c1
  have c2 := hc.c2
  have hbw := hc.within
  have NX : Hid (∀ w1, Below w.heap.size w w1 → Calls Tryz.prog 92 #[.pointer (some ⟨bx, 0, none⟩)] w1 fun e w' => ∃ b, e = .returned (.pointer (some ⟨b, 0, none⟩)) ∧ CoAt B w'.heap.size w' (.pointer (some ⟨b, 0, none⟩)) (qh2 x) ∧ Below w1.heap.size w1 w') :=
    v6 (fun w1 hb => hx B w1 _ (Nat.le_trans hB hb.size) (hL.below hb (Nat.le_refl _)) (cx.below hb))
  have NY : Hid (∀ w1, Below w.heap.size w w1 → Calls Tryz.prog 92 #[.pointer (some ⟨by', 0, none⟩)] w1 fun e w' => ∃ b, e = .returned (.pointer (some ⟨b, 0, none⟩)) ∧ CoAt B w'.heap.size w' (.pointer (some ⟨b, 0, none⟩)) (qh2 y) ∧ Below w1.heap.size w1 w') :=
    v6 (fun w1 hb => hy B w1 _ (Nat.le_trans hB hb.size) (hL.below hb (Nat.le_refl _)) (cy.below hb))
  have PR : Hid (∀ w1 v1 v2, Below w.heap.size w w1 → CoAt B w1.heap.size w1 v1 (qh2 x) → CoAt B w1.heap.size w1 v2 (qh2 y) → Calls Tryz.prog 90 #[.int .i64 7, v1, v2] w1 fun e w' => ∃ b, e = .returned (.pointer (some ⟨b, 0, none⟩)) ∧ CoAt B w'.heap.size w' (.pointer (some ⟨b, 0, none⟩)) (z7 7 (qh2 x) (qh2 y)) ∧ Below w1.heap.size w1 w') :=
    v6 (fun w1 v1 v2 hb h1 h2 => qf9 7 (Nat.le_trans hB hb.size) (hL.below hb (Nat.le_refl _)) h1 h2 zx zy)
  have HB : Hid (Below w.heap.size w w.drew) := v6 (Below.refl _ _).drew
  unfold at0 at c1 c2 ⊢
  have e3 : (p.op == 3) = false := by rw [ho]; rfl
  have e4 : (p.op == 4) = false := by rw [ho]; rfl
  have e6 : (p.op == 6) = true := by rw [ho]; rfl
  clear hc hL hB ho hv hx hy zx zy cx cy
  go_enter Tryz.func92, Tryz.ntmps92
  go_wp2_with fail
  go_region_held3 (fun W => W.cell? ⟨b, 1, none⟩ = some (.pointer (some ⟨bx, 0, none⟩)) ∧ W.cell? ⟨b, 2, none⟩ = some (.pointer (some ⟨by', 0, none⟩))) (go_keep) (first | (go_at_call_of 92 (Value.pointer (some { block := bx, off := 0 })); refine (q9 NX _ (q9 HB)).mono ?_; rintro e w1 ⟨b1, rfl, k1, hb1⟩; have HB1 := v6 (v7 (q9 HB) hb1); have d1 := ((q9 HB1).cell (p := ⟨b, 1, none⟩) hbw).trans c1; have d2 := ((q9 HB1).cell (p := ⟨b, 2, none⟩) hbw).trans c2; have K1 := v6 k1; clear k1 hb1) | (go_at_call_of 92 (Value.pointer (some { block := by', off := 0 })); refine (q9 NY _ (q9 HB1)).mono ?_; rintro e w2 ⟨b2, rfl, k2, hb2⟩; have HB2 := v6 (v7 (q9 HB1) hb2); have d3 := ((q9 HB2).cell (p := ⟨b, 1, none⟩) hbw).trans c1; have d4 := ((q9 HB2).cell (p := ⟨b, 2, none⟩) hbw).trans c2; have K1' := v6 ((q9 K1).below hb2); have K2 := v6 k2; clear k2 hb2) | (go_at_call 90; refine (q9 PR _ _ _ (q9 HB2) (q9 K1') (q9 K2)).mono ?_; rintro e w3 ⟨b3, rfl, k3, hb3⟩; have HB3 := v6 (v7 (q9 HB2) hb3); have d5 := ((q9 HB3).cell (p := ⟨b, 1, none⟩) hbw).trans c1; have d6 := ((q9 HB3).cell (p := ⟨b, 2, none⟩) hbw).trans c2; have K3 := v6 k3; clear k3 hb3))
  all_goals (go_wp2_with fail; go_ret; exact ⟨b3, rfl, q9 K3, q9 HB3⟩)
set_option maxHeartbeats 1000000 in
set_option maxRecDepth 100000 in
theorem not_bin7 (p : CP) (x y : Co) (ho : p.op = 7) (hx : va0 x) (hy : va0 y) (zx : (z8 (qh2 x)).length ≤ 1000000000) (zy : (z8 (qh2 y)).length ≤ 1000000000) : va0 (.bin p x y) := by
  intro B w v hB hL h
  have hv : qh2 (.bin p x y) = z7 6 (qh2 x) (qh2 y) := by rw [qh2, ho]; rfl
  rw [hv]
  obtain ⟨b, vx, vy, rfl, hc, cx, cy⟩ := h
  obtain ⟨bx, rfl⟩ := cx.ptr
  obtain ⟨by', rfl⟩ := cy.ptr
  have c0 := hc.c0
  have c1 := hc.c1
  have c2 := hc.c2
  have hbw := hc.within
  have NX : Hid (∀ w1, Below w.heap.size w w1 → Calls Tryz.prog 92 #[.pointer (some ⟨bx, 0, none⟩)] w1 fun e w' => ∃ b, e = .returned (.pointer (some ⟨b, 0, none⟩)) ∧ CoAt B w'.heap.size w' (.pointer (some ⟨b, 0, none⟩)) (qh2 x) ∧ Below w1.heap.size w1 w') :=
    v6 (fun w1 hb => hx B w1 _ (Nat.le_trans hB hb.size) (hL.below hb (Nat.le_refl _)) (cx.below hb))
  have NY : Hid (∀ w1, Below w.heap.size w w1 → Calls Tryz.prog 92 #[.pointer (some ⟨by', 0, none⟩)] w1 fun e w' => ∃ b, e = .returned (.pointer (some ⟨b, 0, none⟩)) ∧ CoAt B w'.heap.size w' (.pointer (some ⟨b, 0, none⟩)) (qh2 y) ∧ Below w1.heap.size w1 w') :=
    v6 (fun w1 hb => hy B w1 _ (Nat.le_trans hB hb.size) (hL.below hb (Nat.le_refl _)) (cy.below hb))
  have PR : Hid (∀ w1 v1 v2, Below w.heap.size w w1 → CoAt B w1.heap.size w1 v1 (qh2 x) → CoAt B w1.heap.size w1 v2 (qh2 y) → Calls Tryz.prog 90 #[.int .i64 6, v1, v2] w1 fun e w' => ∃ b, e = .returned (.pointer (some ⟨b, 0, none⟩)) ∧ CoAt B w'.heap.size w' (.pointer (some ⟨b, 0, none⟩)) (z7 6 (qh2 x) (qh2 y)) ∧ Below w1.heap.size w1 w') :=
    v6 (fun w1 v1 v2 hb h1 h2 => qf9 6 (Nat.le_trans hB hb.size) (hL.below hb (Nat.le_refl _)) h1 h2 zx zy)
  have HB : Hid (Below w.heap.size w w.drew) := v6 (Below.refl _ _).drew
  unfold at0 at c1 c2 ⊢
  have e3 : (p.op == 3) = false := by rw [ho]; rfl
  have e4 : (p.op == 4) = false := by rw [ho]; rfl
  have e6 : (p.op == 6) = false := by rw [ho]; rfl
  have e7 : (p.op == 7) = true := by rw [ho]; rfl
  clear hc hL hB ho hv hx hy zx zy cx cy
  go_enter Tryz.func92, Tryz.ntmps92
  go_wp2_with fail
  go_region_held3 (fun W => W.cell? ⟨b, 1, none⟩ = some (.pointer (some ⟨bx, 0, none⟩)) ∧ W.cell? ⟨b, 2, none⟩ = some (.pointer (some ⟨by', 0, none⟩))) (go_keep) (first | (go_at_call_of 92 (Value.pointer (some { block := bx, off := 0 })); refine (q9 NX _ (q9 HB)).mono ?_; rintro e w1 ⟨b1, rfl, k1, hb1⟩; have HB1 := v6 (v7 (q9 HB) hb1); have d1 := ((q9 HB1).cell (p := ⟨b, 1, none⟩) hbw).trans c1; have d2 := ((q9 HB1).cell (p := ⟨b, 2, none⟩) hbw).trans c2; have K1 := v6 k1; clear k1 hb1) | (go_at_call_of 92 (Value.pointer (some { block := by', off := 0 })); refine (q9 NY _ (q9 HB1)).mono ?_; rintro e w2 ⟨b2, rfl, k2, hb2⟩; have HB2 := v6 (v7 (q9 HB1) hb2); have d3 := ((q9 HB2).cell (p := ⟨b, 1, none⟩) hbw).trans c1; have d4 := ((q9 HB2).cell (p := ⟨b, 2, none⟩) hbw).trans c2; have K1' := v6 ((q9 K1).below hb2); have K2 := v6 k2; clear k2 hb2) | (go_at_call 90; refine (q9 PR _ _ _ (q9 HB2) (q9 K1') (q9 K2)).mono ?_; rintro e w3 ⟨b3, rfl, k3, hb3⟩; have HB3 := v6 (v7 (q9 HB2) hb3); have d5 := ((q9 HB3).cell (p := ⟨b, 1, none⟩) hbw).trans c1; have d6 := ((q9 HB3).cell (p := ⟨b, 2, none⟩) hbw).trans c2; have K3 := v6 k3; clear k3 hb3))
  all_goals (go_wp2_with fail; go_ret; exact ⟨b3, rfl, q9 K3, q9 HB3⟩)
set_option maxHeartbeats 1000000 in
set_option maxRecDepth 100000 in
theorem not_bin10 (p : CP) (x y : Co) (ho : p.op = 10) (zx : (z8 x).length ≤ 1000000000) (zy : (z8 y).length ≤ 1000000000) : va0 (.bin p x y) := by
  intro B w v hB hL h
  have hv : qh2 (.bin p x y) = z7 11 y x := by rw [qh2, ho]; rfl
  rw [hv]
  obtain ⟨b, vx, vy, rfl, hc, cx, cy⟩ := h
  obtain ⟨bx, rfl⟩ := cx.ptr
  obtain ⟨by', rfl⟩ := cy.ptr
  have c0 := hc.c0
  have c1 := hc.c1
  have c2 := hc.c2
  have hbw := hc.within
  have PR : Hid (∀ w1, Below w.heap.size w w1 → Calls Tryz.prog 90 #[.int .i64 11, .pointer (some ⟨by', 0, none⟩), .pointer (some ⟨bx, 0, none⟩)] w1 fun e w' => ∃ b, e = .returned (.pointer (some ⟨b, 0, none⟩)) ∧ CoAt B w'.heap.size w' (.pointer (some ⟨b, 0, none⟩)) (z7 11 y x) ∧ Below w1.heap.size w1 w') :=
    v6 (fun w1 hb => qf9 11 (Nat.le_trans hB hb.size) (hL.below hb (Nat.le_refl _)) (cy.below hb) (cx.below hb) zy zx)
  have HB : Hid (Below w.heap.size w w.drew) := v6 (Below.refl _ _).drew
  unfold at0 at c1 c2 ⊢
  have e3 : (p.op == 3) = false := by rw [ho]; rfl
  have e4 : (p.op == 4) = false := by rw [ho]; rfl
  have e6 : (p.op == 6) = false := by rw [ho]; rfl
  have e7 : (p.op == 7) = false := by rw [ho]; rfl
  have e10 : (p.op == 10) = true := by rw [ho]; rfl
  clear hc hL hB ho hv zx zy cx cy
  go_enter Tryz.func92, Tryz.ntmps92
  go_wp2_with fail
  go_region_held3 (fun W => W.cell? ⟨b, 1, none⟩ = some (.pointer (some ⟨bx, 0, none⟩)) ∧ W.cell? ⟨b, 2, none⟩ = some (.pointer (some ⟨by', 0, none⟩))) (go_keep) (first | (go_at_call 90; refine (q9 PR _ (q9 HB)).mono ?_; rintro e w3 ⟨b3, rfl, k3, hb3⟩; have HB3 := v6 (v7 (q9 HB) hb3); have d5 := ((q9 HB3).cell (p := ⟨b, 1, none⟩) hbw).trans c1; have d6 := ((q9 HB3).cell (p := ⟨b, 2, none⟩) hbw).trans c2; have K3 := v6 k3; clear k3 hb3))
  all_goals (go_wp2_with fail; go_ret; exact ⟨b3, rfl, q9 K3, q9 HB3⟩)
set_option maxHeartbeats 1000000 in
set_option maxRecDepth 100000 in
theorem not_bin11 (p : CP) (x y : Co) (ho : p.op = 11) (zx : (z8 x).length ≤ 1000000000) (zy : (z8 y).length ≤ 1000000000) : va0 (.bin p x y) := by
  intro B w v hB hL h
  have hv : qh2 (.bin p x y) = z7 10 y x := by rw [qh2, ho]; rfl
  rw [hv]
  obtain ⟨b, vx, vy, rfl, hc, cx, cy⟩ := h
  obtain ⟨bx, rfl⟩ := cx.ptr
  obtain ⟨by', rfl⟩ := cy.ptr
  have c0 := hc.c0
  have c1 := hc.c1
  have c2 := hc.c2
  have hbw := hc.within
  have PR : Hid (∀ w1, Below w.heap.size w w1 → Calls Tryz.prog 90 #[.int .i64 10, .pointer (some ⟨by', 0, none⟩), .pointer (some ⟨bx, 0, none⟩)] w1 fun e w' => ∃ b, e = .returned (.pointer (some ⟨b, 0, none⟩)) ∧ CoAt B w'.heap.size w' (.pointer (some ⟨b, 0, none⟩)) (z7 10 y x) ∧ Below w1.heap.size w1 w') :=
    v6 (fun w1 hb => qf9 10 (Nat.le_trans hB hb.size) (hL.below hb (Nat.le_refl _)) (cy.below hb) (cx.below hb) zy zx)
  have HB : Hid (Below w.heap.size w w.drew) := v6 (Below.refl _ _).drew
  unfold at0 at c1 c2 ⊢
  have e3 : (p.op == 3) = false := by rw [ho]; rfl
  have e4 : (p.op == 4) = false := by rw [ho]; rfl
  have e6 : (p.op == 6) = false := by rw [ho]; rfl
  have e7 : (p.op == 7) = false := by rw [ho]; rfl
  have e10 : (p.op == 10) = false := by rw [ho]; rfl
  have e11 : (p.op == 11) = true := by rw [ho]; rfl
  clear hc hL hB ho hv zx zy cx cy
  go_enter Tryz.func92, Tryz.ntmps92
  go_wp2_with fail
  go_region_held3 (fun W => W.cell? ⟨b, 1, none⟩ = some (.pointer (some ⟨bx, 0, none⟩)) ∧ W.cell? ⟨b, 2, none⟩ = some (.pointer (some ⟨by', 0, none⟩))) (go_keep) (first | (go_at_call 90; refine (q9 PR _ (q9 HB)).mono ?_; rintro e w3 ⟨b3, rfl, k3, hb3⟩; have HB3 := v6 (v7 (q9 HB) hb3); have d5 := ((q9 HB3).cell (p := ⟨b, 1, none⟩) hbw).trans c1; have d6 := ((q9 HB3).cell (p := ⟨b, 2, none⟩) hbw).trans c2; have K3 := v6 k3; clear k3 hb3))
  all_goals (go_wp2_with fail; go_ret; exact ⟨b3, rfl, q9 K3, q9 HB3⟩)
theorem vz4 : ∀ c, WfC c → (z8 c).length + 7 * uC c ≤ 1000000000 → va0 c := by
  intro c
  induction c with
  | leaf p =>
    intro hw hz
    by_cases h3 : p.op = 3
    · exact not_leaf3 p h3
    by_cases h4 : p.op = 4
    · exact not_leaf4 p h4
    have hl : p.op = 0 ∨ p.op = 1 ∨ p.op = 2 := by
      have : qi3 p.op = true := hw
      unfold qi3 at this
      simp only [Bool.or_eq_true, beq_iff_eq] at this
      omega
    refine vu0 _ p (by omega) ?_ (fun B E w v h => by obtain ⟨b, rfl, hc⟩ := h; exact ⟨b, _, _, rfl, hc⟩) h3 h4 (by omega) (by omega) (by omega) (by omega) (by omega)
    unfold qh2
    rw [if_neg (by simpa using h3), if_neg (by simpa using h4)]
  | un p x ih =>
    intro hw hz
    have hu : p.op = 5 ∨ p.op = 22 ∨ p.op = 23 := by
      have : unB p.op = true := hw.1
      unfold unB at this
      simp only [Bool.or_eq_true, beq_iff_eq] at this
      omega
    by_cases h5 : p.op = 5
    · by_cases hx0 : opC x = 0
      · exact not_un50 p x h5 hx0 (by omega)
      · exact not_un5 p x h5 hx0
    refine vu0 _ p (by omega) ?_ (fun B E w v h => by obtain ⟨b, vx, rfl, hc, _⟩ := h; exact ⟨b, _, _, rfl, hc⟩) (by omega) (by omega) (by omega) (by omega) (by omega) (by omega) h5
    unfold qh2
    rw [if_neg]
    rw [Bool.and_eq_true]
    rintro ⟨h, _⟩
    exact h5 (eq_of_beq h)
  | bin p x y ihx ihy =>
    intro hw hz
    have hs := qu4 hw.1 x y
    have lx := qp1 x hw.2.1
    have ly := qp1 y hw.2.2
    have hu : uC (.bin p x y) = if (p.op == 6 || p.op == 7) = true then uC x + uC y else 1 := rfl
    by_cases h6 : p.op = 6
    · rw [h6] at hu
      have hu : uC (.bin p x y) = uC x + uC y := hu
      exact not_bin6 p x y h6 (ihx hw.2.1 (by omega)) (ihy hw.2.2 (by omega)) (by omega) (by omega)
    by_cases h7 : p.op = 7
    · rw [h7] at hu
      have hu : uC (.bin p x y) = uC x + uC y := hu
      exact not_bin7 p x y h7 (ihx hw.2.1 (by omega)) (ihy hw.2.2 (by omega)) (by omega) (by omega)
    by_cases h10 : p.op = 10
    · exact not_bin10 p x y h10 (by omega) (by omega)
    by_cases h11 : p.op = 11
    · exact not_bin11 p x y h11 (by omega) (by omega)
    have hb := hw.1
    unfold binB qi3 unB at hb
    simp only [Bool.and_eq_true, Bool.not_eq_true', Bool.or_eq_false_iff, beq_eq_false_iff_ne] at hb
    obtain ⟨⟨⟨⟨⟨_, _⟩, _⟩, h3⟩, h4⟩, ⟨h5, _⟩, _⟩ := hb
    refine vu0 _ p (by omega) ?_ (fun B E w v h => by obtain ⟨b, vx, vy, rfl, hc, _⟩ := h; exact ⟨b, _, _, rfl, hc⟩) h3 h4 h6 h7 h10 h11 h5
    unfold qh2
    rw [if_neg (by simpa using h6), if_neg (by simpa using h7), if_neg (by simpa using h10), if_neg (by simpa using h11)]
end
end Go.Proofs.YtfkcaldjphakpabGreatDoor
