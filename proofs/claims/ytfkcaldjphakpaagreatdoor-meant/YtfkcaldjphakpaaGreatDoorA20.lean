/- How long the texts of a selector's cores are at most. Every core of a selector is short enough. -/
import Derived.Test.YtfkcaldjphakpaaGreatDoorA18
import Derived.Test.YtfkcaldjphakpaaGreatDoorA25
import Derived.Test.YtfkcaldjphakpaaGreatDoorA19
namespace Go.Proofs.YtfkcaldjphakpaaGreatDoor
open Go.RowKit

section
theorem dem_true {want pl : Int} : ∀ {rs : List CRes} {fit : Bool}, dem want pl rs fit = none → fit = true := by
  intro rs
  induction rs with
  | nil => intro fit h; cases fit; cases h; rfl
  | cons r t ih =>
    intro fit h
    cases r with
    | err q => cases h
    | ok c =>
      have := ih (fit := fit && (c == want || c == 0)) h
      rw [Bool.and_eq_true] at this
      exact this.1
theorem dem_none {want pl : Int} : ∀ {rs : List CRes} {fit : Bool}, dem want pl rs fit = none → ∀ r ∈ rs, ∃ c, r = .ok c ∧ (c = want ∨ c = 0) := by
  intro rs
  induction rs with
  | nil => intro fit _ r hr; cases hr
  | cons r t ih =>
    intro fit h
    cases r with
    | err q => cases h
    | ok c =>
      have h' : dem want pl t (fit && (c == want || c == 0)) = none := h
      have hf := dem_true h'
      rw [Bool.and_eq_true, Bool.or_eq_true, beq_iff_eq, beq_iff_eq] at hf
      intro r hr
      rcases List.mem_cons.1 hr with rfl | hr
      · exact ⟨c, rfl, hf.2⟩
      · exact ih h' r hr
theorem demR_ok {want pl c d : Int} {rs : List CRes} (h : demR want pl c rs = .ok d) : ∀ r ∈ rs, ∃ c, r = .ok c ∧ (c = want ∨ c = 0) := by
  unfold demR at h
  split at h
  · rename_i hd; exact dem_none hd
  · cases h
theorem alike_ok {pl c : Int} {a b : CRes} (h : alikeR pl a b = .ok c) : (∃ c, a = .ok c) ∧ ∃ c, b = .ok c := by
  cases a with
  | err q => cases h
  | ok x =>
    cases b with
    | err q => cases h
    | ok y => exact ⟨⟨x, rfl⟩, ⟨y, rfl⟩⟩

/-- Sums, products, signs, names and numbers. -/
def ArA : Ast → Prop
  | .leaf p => p.op = 0 ∨ p.op = 1
  | .un p x => (p.op = 14 ∨ p.op = 15) ∧ ArA x
  | .bin p x y => 16 ≤ p.op ∧ p.op ≤ 19 ∧ ArA x ∧ ArA y
  | .tri _ _ _ _ => False
theorem ar_of_cls : ∀ t c, ShA t → clsA t = .ok c → (c = 1 ∨ c = 0) → ArA t := by
  intro t
  induction t with
  | leaf p =>
    intro c hs hc h
    have hc : clsOf p.op p.place [] = .ok c := hc
    have hs : 0 ≤ p.op ∧ p.op ≤ 4 := hs
    rcases (show p.op = 0 ∨ p.op = 1 ∨ p.op = 2 ∨ p.op = 3 ∨ p.op = 4 by omega) with e | e | e | e | e
    · exact .inl e
    · exact .inr e
    all_goals (rw [e] at hc; injection hc with hc; omega)
  | un p x ih =>
    intro c hs hc h
    have hc : clsOf p.op p.place [clsA x] = .ok c := hc
    rcases hs.1 with e | e | e | e | e | e
    · rw [e] at hc
      have hc : demR 3 p.place 3 [clsA x] = .ok c := hc
      exfalso
      unfold demR at hc
      split at hc
      · injection hc with hc; omega
      · cases hc
    · rw [e] at hc
      obtain ⟨d, h1, h2⟩ := demR_ok (show demR 1 p.place 1 [clsA x] = .ok c from hc) (clsA x) (by simp)
      exact ⟨.inl e, ih d hs.2.2.2 h1 h2⟩
    · rw [e] at hc
      obtain ⟨d, h1, h2⟩ := demR_ok (show demR 1 p.place 1 [clsA x] = .ok c from hc) (clsA x) (by simp)
      exact ⟨.inr e, ih d hs.2.2.2 h1 h2⟩
    all_goals (rw [e] at hc; injection hc with hc; omega)
  | bin p x y ihx ihy =>
    intro c hs hc h
    have hc : clsOf p.op p.place [clsA x, clsA y] = .ok c := hc
    have d3 : ∀ w, demR w p.place 3 [clsA x, clsA y] = .ok c → False := fun w hc => by
      unfold demR at hc
      split at hc
      · injection hc with hc; omega
      · cases hc
    have a3 : alikeR p.place (clsA x) (clsA y) = .ok c → False := fun hc => by
      obtain ⟨⟨a, ea⟩, b, eb⟩ := alike_ok hc
      rw [ea, eb] at hc
      have hc : (if (a != b && a != 0 && b != 0) = true then CRes.err p.place else CRes.ok 3) = .ok c := hc
      split at hc
      · cases hc
      · injection hc with hc; omega
    have d1 : demR 1 p.place 1 [clsA x, clsA y] = .ok c → ArA x ∧ ArA y := fun hc => by
      obtain ⟨d, h1, h2⟩ := demR_ok hc (clsA x) (by simp)
      obtain ⟨e, h3, h4⟩ := demR_ok hc (clsA y) (by simp)
      exact ⟨ihx d hs.2.1 h1 h2, ihy e hs.2.2 h3 h4⟩
    rcases (show p.op = 6 ∨ p.op = 7 ∨ p.op = 8 ∨ p.op = 9 ∨ p.op = 10 ∨ p.op = 11 ∨ p.op = 12 ∨ p.op = 13 ∨ p.op = 16 ∨ p.op = 17 ∨ p.op = 18 ∨ p.op = 19 by have := hs.1; omega) with e | e | e | e | e | e | e | e | e | e | e | e
    · rw [e] at hc; exact absurd hc (d3 3)
    · rw [e] at hc; exact absurd hc (d3 3)
    · rw [e] at hc; exact absurd hc a3
    · rw [e] at hc; exact absurd hc a3
    · rw [e] at hc; exact absurd hc (d3 1)
    · rw [e] at hc; exact absurd hc (d3 1)
    · rw [e] at hc; exact absurd hc (d3 1)
    · rw [e] at hc; exact absurd hc (d3 1)
    all_goals (rw [e] at hc; exact ⟨by omega, by omega, (d1 hc).1, (d1 hc).2⟩)
  | tri p x y z ihx ihy ihz =>
    intro c hs hc h
    have hc : clsOf p.op p.place [clsA x, clsA y, clsA z] = .ok c := hc
    rw [hs.1] at hc
    have hc : demR 1 p.place 3 [clsA x, clsA y, clsA z] = .ok c := hc
    exfalso
    unfold demR at hc
    split at hc
    · injection hc with hc; omega
    · cases hc

theorem leaf_len (p : CP) (hs : p.str.length ≤ 200) (hn : Rng p.num) (ho : leafB p.op = true) : (spell (.leaf p)).length ≤ 402 := by
  show (spellN p [] []).length ≤ 402
  have hq := qL_len p.str
  have hi := Lib.itoa_length_le p.num hn.1 hn.2
  unfold leafB at ho
  simp only [Bool.or_eq_true, beq_iff_eq] at ho
  unfold spellN
  rcases ho with (((e | e) | e) | e) | e
  · rw [e]; show p.str.length ≤ 402; omega
  · rw [e]; show (Lib.itoa p.num).length ≤ 402; omega
  · rw [e]; show (qL p.str).length ≤ 402; omega
  · rw [e]; show 4 ≤ 402; omega
  · rw [e]; show 5 ≤ 402; omega

theorem num0_len : (spell (numC 0)).length ≤ 21 := Lib.itoa_length_le 0 (by decide) (by decide)
theorem ar_len : ∀ t, ArA t → BndA t → NumA t → (spell (coreA t)).length ≤ 500 * ndA t := by
  intro t
  induction t with
  | leaf p =>
    intro ha hb hn
    have := leaf_len (cpOf p) hb.1 hn (by unfold leafB; rcases ha with e | e <;> simp [cpOf, e])
    show (spell (.leaf (cpOf p))).length ≤ 500 * 1
    omega
  | un p x ih =>
    intro ha hb hn
    have h := ih ha.2 hb.2 hn.2
    have hz : (spell (numC 0)).length ≤ 21 := num0_len
    have hnd : ndA (.un p x) = 1 + p.texts.length + ndA x := rfl
    rcases ha.1 with e | e
    · have : coreA (.un p x) = pairC 16 (numC 0) (coreA x) := by rw [coreA, e]; rfl
      rw [this, spell_pair 16 rfl rfl, hnd]
      have : (signL 16).length = 1 := rfl
      omega
    · have : coreA (.un p x) = pairC 17 (numC 0) (coreA x) := by rw [coreA, e]; rfl
      rw [this, spell_pair 17 rfl rfl, hnd]
      have : (signL 17).length = 1 := rfl
      omega
  | bin p x y ihx ihy =>
    intro ha hb hn
    obtain ⟨h1, h2, ax, ay⟩ := ha
    have hx := ihx ax hb.2.1 hn.2.1
    have hy := ihy ay hb.2.2 hn.2.2
    have hnd : ndA (.bin p x y) = 1 + ndA x + ndA y := rfl
    have hsg := signL_len p.op
    have : coreA (.bin p x y) = pairC p.op (coreA x) (coreA y) := by
      rw [coreA, if_neg (by simp; omega), if_neg (by simp; omega), if_neg (by simp; omega)]
    rw [this, spell_pair p.op (by unfold leafB; simp; omega) (by unfold unB; simp; omega), hnd]
    omega
  | tri p x y z ihx ihy ihz => intro ha; exact absurd ha id
end

section
theorem mem_compact {zs : List (List UInt8)} {x : List UInt8} (h : x ∈ Lib.compact zs) : x ∈ zs := by
  unfold Lib.compact Lib.compactUpTo at h
  obtain ⟨i, hi, rfl⟩ := List.mem_map.1 h
  have hi := List.mem_range.1 (List.mem_filter.1 hi).1
  have : zs.toArray[i]! = zs[i] := by simp [hi]
  rw [this]
  exact List.getElem_mem _
theorem compact_len (zs : List (List UInt8)) : (Lib.compact zs).length ≤ zs.length := by
  unfold Lib.compact Lib.compactUpTo
  rw [List.length_map]
  exact Nat.le_trans (List.length_filter_le _ _) (by rw [List.length_range]; exact Nat.le_refl _)
theorem compact_ne {zs : List (List UInt8)} (h : zs ≠ []) : Lib.compact zs ≠ [] := by
  cases zs with
  | nil => exact absurd rfl h
  | cons a r =>
    intro e
    unfold Lib.compact Lib.compactUpTo at e
    rw [List.map_eq_nil_iff] at e
    have : 0 ∈ (List.range (a :: r).length).filter (Lib.keeps (a :: r).toArray) := List.mem_filter.2 ⟨List.mem_range.2 (by simp), Lib.keeps_lt_one _ 0 (by decide)⟩
    rw [e] at this
    cases this
theorem sortT_mem {ts : List (List UInt8)} {x : List UInt8} (h : x ∈ sortT ts) : x ∈ ts := by
  unfold sortT at h
  exact (List.mem_mergeSort).1 (mem_compact h)
theorem sortT_len (ts : List (List UInt8)) : (sortT ts).length ≤ ts.length := by
  unfold sortT
  exact Nat.le_trans (compact_len _) (by rw [List.length_mergeSort]; exact Nat.le_refl _)
theorem sortT_ne {ts : List (List UInt8)} (h : ts ≠ []) : sortT ts ≠ [] := by
  unfold sortT
  refine compact_ne (fun e => h ?_)
  have := congrArg List.length e
  rw [List.length_mergeSort] at this
  exact List.eq_nil_of_length_eq_zero this

theorem textC_len (t : List UInt8) (h : t.length ≤ 200) : (spell (textC t)).length ≤ 402 := by
  show (qL t).length ≤ 402
  have := qL_len t
  omega
theorem orAll_len (x : Co) : ∀ (r : List (List UInt8)) (f : Co), (∀ t ∈ r, t.length ≤ 200) → (spell (orAll x f r)).length ≤ (spell f).length + r.length * ((spell x).length + 420) := by
  intro r
  induction r with
  | nil => intro f _; show (spell f).length ≤ _; omega
  | cons t r ih =>
    intro f h
    have h1 := ih (pairC 7 f (pairC 8 x (textC t))) (fun u hu => h u (List.mem_cons_of_mem _ hu))
    rw [spell_pair 7 rfl rfl, spell_pair 8 rfl rfl] at h1
    have h2 := textC_len t (h t List.mem_cons_self)
    have e7 : (signL 7).length = 2 := rfl
    have e8 : (signL 8).length = 1 := rfl
    show (spell (orAll x (pairC 7 f (pairC 8 x (textC t))) r)).length ≤ _
    rw [List.length_cons, Nat.succ_mul]
    omega
theorem orAll_u (x : Co) : ∀ (r : List (List UInt8)) (f : Co), uC (orAll x f r) = uC f + r.length := by
  intro r
  induction r with
  | nil => intro f; rfl
  | cons t r ih =>
    intro f
    show uC (orAll x (pairC 7 f (pairC 8 x (textC t))) r) = _
    rw [ih, uC_pair, uC_pair]
    show uC f + 1 + r.length = _
    rw [List.length_cons]; omega
theorem orAll_wf {x : Co} (hx : WfC x) : ∀ (r : List (List UInt8)) (f : Co), WfC f → WfC (orAll x f r) := by
  intro r
  induction r with
  | nil => intro f h; exact h
  | cons t r ih => intro f h; exact ih _ (wfC_pair rfl h (wfC_pair rfl hx rfl))

theorem leaf_of_name {x : Ast} (hs : ShA x) (h : opA x = 0) : ∃ q, x = .leaf q ∧ q.op = 0 := by
  cases x with
  | leaf q => exact ⟨q, rfl, h⟩
  | un p y => have := hs.1; have h : p.op = 0 := h; omega
  | bin p y z => have := hs.1; have h : p.op = 0 := h; omega
  | tri p y z u => have := hs.1; have h : p.op = 0 := h; omega

theorem sq_add (a b : Nat) (k : Nat) (hk : k ≤ 3000) : 3000 * (a * a) + 3000 * (b * b) + k ≤ 3000 * ((1 + a + b) * (1 + a + b)) := by
  have : (1 + a + b) * (1 + a + b) = a * a + b * b + 2 * (a * b) + 2 * a + 2 * b + 1 := by
    simp only [Nat.add_mul, Nat.mul_add, Nat.one_mul, Nat.mul_one]
    have := Nat.mul_comm b a
    omega
  rw [this]
  omega
theorem sq_one (a m : Nat) (k : Nat) (hk : k ≤ 3000 + 6000 * a) : 3000 * (a * a) + k ≤ 3000 * ((1 + m + a) * (1 + m + a)) := by
  have h1 : (1 + a) * (1 + a) ≤ (1 + m + a) * (1 + m + a) := Nat.mul_le_mul (by omega) (by omega)
  have h2 : (1 + a) * (1 + a) = a * a + 2 * a + 1 := by
    simp only [Nat.add_mul, Nat.mul_add, Nat.one_mul, Nat.mul_one]
    omega
  omega

/-- What is said of each core. -/
structure Gd (t : Ast) : Prop where
  len : (spell (coreA t)).length ≤ 3000 * (ndA t * ndA t)
  un : uC (coreA t) ≤ ndA t
  wf : WfC (coreA t)

theorem nd_pos : ∀ t, 1 ≤ ndA t := by
  intro t
  cases t <;> (unfold ndA; omega)

/-- The cores of all terms in it. -/
def GdA : Ast → Prop
  | .leaf p => Gd (.leaf p)
  | .un p x => Gd (.un p x) ∧ GdA x
  | .bin p x y => Gd (.bin p x y) ∧ GdA x ∧ GdA y
  | .tri p x y z => Gd (.tri p x y z) ∧ GdA x ∧ GdA y ∧ GdA z
theorem GdA.gd {t : Ast} (h : GdA t) : Gd t := by
  cases t with
  | leaf p => exact h
  | un p x => exact h.1
  | bin p x y => exact h.1
  | tri p x y z => exact h.1

theorem gd_leaf (p : Pay) (hs : ShA (.leaf p)) (hb : BndA (.leaf p)) (hn : NumA (.leaf p)) : Gd (.leaf p) := by
  have hl : leafB (cpOf p).op = true := by
    have hs : 0 ≤ p.op ∧ p.op ≤ 4 := hs
    unfold leafB cpOf
    simp only [Bool.or_eq_true, beq_iff_eq]
    omega
  refine ⟨?_, Nat.le_refl _, hl⟩
  have := leaf_len (cpOf p) hb.1 hn hl
  show (spell (.leaf (cpOf p))).length ≤ 3000 * (1 * 1)
  omega

theorem gd_pair {op : Int} (hop : binB op = true) {p : Pay} {x y : Ast} (hx : Gd x) (hy : Gd y) (u v : Co) (hu : (u = coreA x ∧ v = coreA y) ∨ (u = coreA y ∧ v = coreA x)) (he : coreA (.bin p x y) = pairC op u v) : Gd (.bin p x y) := by
  have h12 : leafB op = false ∧ unB op = false := by
    unfold binB at hop
    simpa using hop
  have hl : (spell u).length + (spell v).length = (spell (coreA x)).length + (spell (coreA y)).length := by rcases hu with ⟨rfl, rfl⟩ | ⟨rfl, rfl⟩ <;> omega
  have hc : uC u + uC v = uC (coreA x) + uC (coreA y) := by rcases hu with ⟨rfl, rfl⟩ | ⟨rfl, rfl⟩ <;> omega
  have hw : WfC u ∧ WfC v := by
    rcases hu with ⟨rfl, rfl⟩ | ⟨rfl, rfl⟩
    · exact ⟨hx.wf, hy.wf⟩
    · exact ⟨hy.wf, hx.wf⟩
  have hsg := signL_len op
  have h1 := hx.len
  have h2 := hy.len
  have h3 := hx.un
  have h4 := hy.un
  have hnd : ndA (.bin p x y) = 1 + ndA x + ndA y := rfl
  refine ⟨?_, ?_, ?_⟩
  · rw [he, spell_pair op h12.1 h12.2, hnd]
    have := sq_add (ndA x) (ndA y) 7 (by decide)
    omega
  · rw [he, uC_pair, hnd]
    split <;> omega
  · rw [he]; exact wfC_pair hop hw.1 hw.2

theorem gd_every : ∀ t, ShA t → BndA t → NumA t → BqA t → (∃ c, clsA t = .ok c) → GdA t := by
  intro t
  induction t with
  | leaf p => intro hs hb hn _ _; exact gd_leaf p hs hb hn
  | un p x ih =>
    intro hs hb hn hq hc
    obtain ⟨c, hc⟩ := hc
    have hc : clsOf p.op p.place [clsA x] = .ok c := hc
    have hcx : ∃ d, clsA x = .ok d := by
      rcases hs.1 with e | e | e | e | e | e
      · rw [e] at hc
        obtain ⟨d, h1, _⟩ := demR_ok (show demR 3 p.place 3 [clsA x] = .ok c from hc) (clsA x) (by simp)
        exact ⟨d, h1⟩
      · rw [e] at hc
        obtain ⟨d, h1, _⟩ := demR_ok (show demR 1 p.place 1 [clsA x] = .ok c from hc) (clsA x) (by simp)
        exact ⟨d, h1⟩
      · rw [e] at hc
        obtain ⟨d, h1, _⟩ := demR_ok (show demR 1 p.place 1 [clsA x] = .ok c from hc) (clsA x) (by simp)
        exact ⟨d, h1⟩
      all_goals
        obtain ⟨q, rfl, hq0⟩ := leaf_of_name hs.2.2.2 (hs.2.2.1 (by omega))
        exact ⟨0, by show clsOf q.op q.place [] = .ok 0; rw [hq0]; rfl⟩
    have hx := ih hs.2.2.2 hb.2 hn.2 hq.2 hcx
    refine ⟨?_, hx⟩
    have gx := hx.gd
    have h1 := gx.len
    have h2 := gx.un
    have h3 := nd_pos x
    have hnd : ndA (.un p x) = 1 + p.texts.length + ndA x := rfl
    have hz := num0_len
    rcases hs.1 with e | e | e | e | e | e
    · have he : coreA (.un p x) = notC (coreA x) := by rw [coreA, e]; rfl
      have hl := spell_not_len (coreA x) gx.wf
      refine ⟨?_, by rw [he, uC_not, hnd]; omega, by rw [he]; exact wfC_not _ gx.wf⟩
      rw [he, hnd]
      have := sq_one (ndA x) p.texts.length (7 * ndA x) (by omega)
      omega
    · have he : coreA (.un p x) = pairC 16 (numC 0) (coreA x) := by rw [coreA, e]; rfl
      have e16 : (signL 16).length = 1 := rfl
      refine ⟨?_, by rw [he, uC_pair, hnd]; show 1 ≤ _; omega, by rw [he]; exact wfC_pair rfl rfl gx.wf⟩
      rw [he, spell_pair 16 rfl rfl, hnd]
      have := sq_one (ndA x) p.texts.length 30 (by omega)
      omega
    · have he : coreA (.un p x) = pairC 17 (numC 0) (coreA x) := by rw [coreA, e]; rfl
      have e17 : (signL 17).length = 1 := rfl
      refine ⟨?_, by rw [he, uC_pair, hnd]; show 1 ≤ _; omega, by rw [he]; exact wfC_pair rfl rfl gx.wf⟩
      rw [he, spell_pair 17 rfl rfl, hnd]
      have := sq_one (ndA x) p.texts.length 30 (by omega)
      omega
    · have he : coreA (.un p x) = amongC (coreA x) p.texts := by rw [coreA, e]; rfl
      have hne := sortT_ne (hs.2.1 e)
      have hsl := sortT_len p.texts
      have hm : ∀ u ∈ sortT p.texts, u.length ≤ 200 := fun u hu => hq.1.2 u (sortT_mem hu)
      obtain ⟨q, rfl, hq0⟩ := leaf_of_name hs.2.2.2 (hs.2.2.1 (by omega))
      have hlx : (spell (coreA (.leaf q))).length ≤ 402 := leaf_len (cpOf q) hb.2.1 hn.2 (by unfold leafB; simp [cpOf, hq0])
      cases hsort : sortT p.texts with
      | nil => exact absurd hsort hne
      | cons u r =>
        rw [hsort] at hm hsl
        have he2 : coreA (.un p (.leaf q)) = orAll (coreA (.leaf q)) (pairC 8 (coreA (.leaf q)) (textC u)) r := by rw [he, amongC, hsort]
        have hol := orAll_len (coreA (.leaf q)) r (pairC 8 (coreA (.leaf q)) (textC u)) (fun y hy => hm y (List.mem_cons_of_mem _ hy))
        rw [spell_pair 8 rfl rfl] at hol
        have htl := textC_len u (hm u List.mem_cons_self)
        have e8 : (signL 8).length = 1 := rfl
        rw [List.length_cons] at hsl
        refine ⟨?_, ?_, ?_⟩
        · rw [he2, hnd]
          have hmul : r.length * ((spell (coreA (.leaf q))).length + 420) ≤ r.length * 822 := Nat.mul_le_mul_left _ (by omega)
          have hsq : (1 + p.texts.length + ndA (.leaf q)) * 1 ≤ (1 + p.texts.length + ndA (.leaf q)) * (1 + p.texts.length + ndA (.leaf q)) := Nat.mul_le_mul_left _ (by omega)
          omega
        · rw [he2, orAll_u, uC_pair, hnd]
          show 1 + _ ≤ _
          omega
        · rw [he2]
          exact orAll_wf gx.wf _ _ (wfC_pair rfl gx.wf rfl)
    · have he : coreA (.un p x) = .un (cpOf p) (coreA x) := by rw [coreA, e]; rfl
      have hl : (spell (.un (cpOf p) (coreA x))).length ≤ (spell (coreA x)).length + 830 := by
        show (spellN (cpOf p) (spell (coreA x)) []).length ≤ _
        have a := qL_len p.str
        have b := qL_len p.esc
        have c1 := hb.1.1
        have c2 := hq.1.1
        have d : (escT p.esc).length ≤ 8 + (qL p.esc).length := by unfold escT; split <;> simp <;> omega
        rw [spellN]
        simp only [cpOf, e]
        simp
        omega
      refine ⟨?_, by rw [he, hnd]; show uC (coreA x) ≤ _; omega, by rw [he]; exact ⟨by unfold unB; simp [cpOf, e], gx.wf⟩⟩
      rw [he, hnd]
      have := sq_one (ndA x) p.texts.length 830 (by omega)
      omega
    · have he : coreA (.un p x) = .un (cpOf p) (coreA x) := by rw [coreA, e]; rfl
      have hl : (spell (.un (cpOf p) (coreA x))).length = (spell (coreA x)).length + 10 := by
        show (spellN (cpOf p) (spell (coreA x)) []).length = _
        rw [spellN]
        simp only [cpOf, e]
        simp
      refine ⟨?_, by rw [he, hnd]; show uC (coreA x) ≤ _; omega, by rw [he]; exact ⟨by unfold unB; simp [cpOf, e], gx.wf⟩⟩
      rw [he, hnd]
      have := sq_one (ndA x) p.texts.length 10 (by omega)
      omega
  | bin p x y ihx ihy =>
    intro hs hb hn hq hc
    obtain ⟨c, hc⟩ := hc
    have hc : clsOf p.op p.place [clsA x, clsA y] = .ok c := hc
    have hcs : (∃ d, clsA x = .ok d) ∧ ∃ d, clsA y = .ok d := by
      have dm : ∀ w k, demR w p.place k [clsA x, clsA y] = .ok c → (∃ d, clsA x = .ok d) ∧ ∃ d, clsA y = .ok d := fun w k h => by
        obtain ⟨d, h1, _⟩ := demR_ok h (clsA x) (by simp)
        obtain ⟨e, h3, _⟩ := demR_ok h (clsA y) (by simp)
        exact ⟨⟨d, h1⟩, ⟨e, h3⟩⟩
      rcases (show p.op = 6 ∨ p.op = 7 ∨ p.op = 8 ∨ p.op = 9 ∨ p.op = 10 ∨ p.op = 11 ∨ p.op = 12 ∨ p.op = 13 ∨ p.op = 16 ∨ p.op = 17 ∨ p.op = 18 ∨ p.op = 19 by have := hs.1; omega) with e | e | e | e | e | e | e | e | e | e | e | e <;> rw [e] at hc
      · exact dm 3 3 hc
      · exact dm 3 3 hc
      · exact alike_ok (show alikeR p.place (clsA x) (clsA y) = .ok c from hc)
      · exact alike_ok (show alikeR p.place (clsA x) (clsA y) = .ok c from hc)
      · exact dm 1 3 hc
      · exact dm 1 3 hc
      · exact dm 1 3 hc
      · exact dm 1 3 hc
      · exact dm 1 1 hc
      · exact dm 1 1 hc
      · exact dm 1 1 hc
      · exact dm 1 1 hc
    have hx := ihx hs.2.1 hb.2.1 hn.2.1 hq.2.1 hcs.1
    have hy := ihy hs.2.2 hb.2.2 hn.2.2 hq.2.2 hcs.2
    refine ⟨?_, hx, hy⟩
    have gx := hx.gd
    have gy := hy.gd
    by_cases h12 : p.op = 12
    · exact gd_pair (op := 10) rfl gx gy (coreA y) (coreA x) (.inr ⟨rfl, rfl⟩) (by rw [coreA, h12]; rfl)
    by_cases h13 : p.op = 13
    · exact gd_pair (op := 11) rfl gx gy (coreA y) (coreA x) (.inr ⟨rfl, rfl⟩) (by rw [coreA, h13]; rfl)
    by_cases h9 : p.op = 9
    · have he : coreA (.bin p x y) = notC (pairC 8 (coreA x) (coreA y)) := by rw [coreA, h9]; rfl
      have hw : WfC (pairC 8 (coreA x) (coreA y)) := wfC_pair rfl gx.wf gy.wf
      have hl := spell_not_len _ hw
      have hu : uC (pairC 8 (coreA x) (coreA y)) = 1 := by rw [uC_pair]; rfl
      rw [hu, spell_pair 8 rfl rfl] at hl
      have e8 : (signL 8).length = 1 := rfl
      have h1 := gx.len
      have h2 := gy.len
      have hnd : ndA (.bin p x y) = 1 + ndA x + ndA y := rfl
      refine ⟨?_, by rw [he, uC_not, hu, hnd]; omega, by rw [he]; exact wfC_not _ hw⟩
      rw [he, hnd]
      have := sq_add (ndA x) (ndA y) 20 (by decide)
      omega
    · refine gd_pair (op := p.op) ?_ gx gy (coreA x) (coreA y) (.inl ⟨rfl, rfl⟩) (by rw [coreA, if_neg (by simpa using h12), if_neg (by simpa using h13), if_neg (by simpa using h9)])
      have := hs.1
      unfold binB leafB unB
      simp only [Bool.and_eq_true, Bool.not_eq_true', Bool.or_eq_false_iff, beq_eq_false_iff_ne]
      omega
  | tri p x y z ihx ihy ihz =>
    intro hs hb hn hq hc
    obtain ⟨c, hc⟩ := hc
    have hc : clsOf p.op p.place [clsA x, clsA y, clsA z] = .ok c := hc
    rw [hs.1] at hc
    have hc : demR 1 p.place 3 [clsA x, clsA y, clsA z] = .ok c := hc
    obtain ⟨d1, x1, x2⟩ := demR_ok hc (clsA x) (by simp)
    obtain ⟨d2, y1, y2⟩ := demR_ok hc (clsA y) (by simp)
    obtain ⟨d3, z1, z2⟩ := demR_ok hc (clsA z) (by simp)
    have hx := ihx hs.2.1 hb.2.1 hn.2.1 hq.2.1 ⟨_, x1⟩
    have hy := ihy hs.2.2.1 hb.2.2.1 hn.2.2.1 hq.2.2.1 ⟨_, y1⟩
    have hz := ihz hs.2.2.2 hb.2.2.2 hn.2.2.2 hq.2.2.2 ⟨_, z1⟩
    refine ⟨?_, hx, hy, hz⟩
    have ax := ar_len x (ar_of_cls x d1 hs.2.1 x1 x2) hb.2.1 hn.2.1
    have ay := ar_len y (ar_of_cls y d2 hs.2.2.1 y1 y2) hb.2.2.1 hn.2.2.1
    have az := ar_len z (ar_of_cls z d3 hs.2.2.2 z1 z2) hb.2.2.2 hn.2.2.2
    have gx := hx.gd.wf
    have gy := hy.gd.wf
    have gz := hz.gd.wf
    have he : coreA (.tri p x y z) = pairC 6 (pairC 11 (coreA y) (coreA x)) (pairC 11 (coreA x) (coreA z)) := rfl
    have hnd : ndA (.tri p x y z) = 1 + ndA x + ndA y + ndA z := rfl
    have px := nd_pos x
    refine ⟨?_, by rw [he, uC_pair, uC_pair, uC_pair, hnd]; show 1 + 1 ≤ _; omega, by rw [he]; exact wfC_pair rfl (wfC_pair rfl gy gx) (wfC_pair rfl gx gz)⟩
    rw [he, spell_pair 6 rfl rfl, spell_pair 11 rfl rfl, spell_pair 11 rfl rfl, hnd]
    have e6 : (signL 6).length = 3 := rfl
    have e11 : (signL 11).length = 2 := rfl
    have hsq : (1 + ndA x + ndA y + ndA z) * 1 ≤ (1 + ndA x + ndA y + ndA z) * (1 + ndA x + ndA y + ndA z) := Nat.mul_le_mul_left _ (by omega)
    omega

/-- The cores of a selector. -/
theorem gd_of_read {s : ByteArray} {t : Ast} (h : readR s = .ok t) : GdA t ∧ ndA t ≤ 200 ∧ ShA t ∧ NumA t ∧ BndA t ∧ BqA t := by
  have hsh := shape_of_read h
  have hcls : ∃ c, clsA t = .ok c ∧ NumA t ∧ BndA t ∧ BqA t := by
    unfold readR at h
    by_cases hs : s.size ≤ 200
    · rw [if_pos hs] at h
      cases he : (lvl s 12).E (stepSt s st0) with
      | err en pl => rw [he] at h; cases h
      | ok t1 st =>
        rw [he] at h
        change endR t1 st = _ at h
        unfold endR at h
        split at h
        · split at h
          · rename_i hk
            injection h with h
            subst h
            cases hc : clsA t1 with
            | err q => rw [hc] at hk; cases hk
            | ok c => exact ⟨c, rfl, ((lvl_num s 12).E _ _ _ (stepSt_tk s st0) he).1, ((lvl_bnd s hs 12).E _ _ _ (stepSt_ln hs st0) he).1, ((lvl_bq s hs 12).E _ _ _ (stepSt_ln hs st0) he).1⟩
          · cases h
        · cases h
    · rw [if_neg hs] at h; cases h
  obtain ⟨c, hc, hn, hb, hq⟩ := hcls
  exact ⟨gd_every t hsh.1 hb hn hq ⟨c, hc⟩, hsh.2, hsh.1, hn, hb, hq⟩
end

end Go.Proofs.YtfkcaldjphakpaaGreatDoor
