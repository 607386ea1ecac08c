/- How many terms a program has: as many as there are different terms in its selectors. Subscribe: a subscription begins. Subscribe of a number that is there, and to a broker that is full; Canon; Compile of too many. Publish: what it keeps in memory. -/
import Derived.Test.YtfkcaldjphakpabGreatDoorT39
import Derived.Test.YtfkcaldjphakpabGreatDoorT32
import Derived.Test.YtfkcaldjphakpabGreatDoorT34
import Derived.Test.YtfkcaldjphakpabGreatDoorT28
import Derived.Test.YtfkcaldjphakpabGreatDoorT30
namespace Go.Proofs.YtfkcaldjphakpabGreatDoor
open Go.RowKit
section
def Rep (ts : List Tm) : Nat → Co → Prop
  | i, .leaf p => ts[i]? = some (qy3 p 0 0)
  | i, .un p x => ∃ l, Rep ts l x ∧ ts[i]? = some (qy3 p l 0)
  | i, .bin p x y => ∃ l r, Rep ts l x ∧ Rep ts r y ∧ ts[i]? = some (qy3 p l r)
def SubC : Co → Co → Prop
  | .leaf p, d => d = .leaf p
  | .un p x, d => d = .un p x ∨ SubC x d
  | .bin p x y, d => d = .bin p x y ∨ SubC x d ∨ SubC y d
theorem jf5 {ts us : List Tm} {i : Nat} {t : Tm} (h : ts[i]? = some t) : (ts ++ us)[i]? = some t := by
  rw [List.getElem?_append_left (List.getElem?_eq_some_iff.1 h).1]
  exact h
theorem Rep.more {ts us : List Tm} : ∀ {c : Co} {i : Nat}, Rep ts i c → Rep (ts ++ us) i c := by
  intro c
  induction c with
  | leaf p => intro i h; exact jf5 h
  | un p x ih => rintro i ⟨l, h1, h2⟩; exact ⟨l, ih h1, jf5 h2⟩
  | bin p x y ihx ihy => rintro i ⟨l, r, h1, h2, h3⟩; exact ⟨l, r, ihx h1, ihy h2, jf5 h3⟩
theorem Rep.lt {ts : List Tm} {c : Co} {i : Nat} (h : Rep ts i c) : i < ts.length := by
  cases c with
  | leaf p => exact (List.getElem?_eq_some_iff.1 h).1
  | un p x => obtain ⟨_, _, h⟩ := h; exact (List.getElem?_eq_some_iff.1 h).1
  | bin p x y => obtain ⟨_, _, _, _, h⟩ := h; exact (List.getElem?_eq_some_iff.1 h).1
theorem Rep.sub {ts : List Tm} : ∀ {c d : Co} {i : Nat}, Rep ts i c → SubC c d → ∃ j, Rep ts j d := by
  intro c
  induction c with
  | leaf p => rintro d i h rfl; exact ⟨i, h⟩
  | un p x ih =>
    intro d i h hs
    rcases hs with rfl | hs
    · exact ⟨i, h⟩
    · obtain ⟨l, h1, _⟩ := h
      exact ih h1 hs
  | bin p x y ihx ihy =>
    intro d i h hs
    rcases hs with rfl | hs | hs
    · exact ⟨i, h⟩
    · obtain ⟨l, r, h1, h2, _⟩ := h
      exact ihx h1 hs
    · obtain ⟨l, r, h1, h2, _⟩ := h
      exact ihy h2 hs
theorem vt9 {ts : List Tm} (h : ts.Nodup) {i j : Nat} {t : Tm} (hi : ts[i]? = some t) (hj : ts[j]? = some t) : i = j := by
  obtain ⟨il, ie⟩ := List.getElem?_eq_some_iff.1 hi
  obtain ⟨jl, je⟩ := List.getElem?_eq_some_iff.1 hj
  have hp := List.pairwise_iff_getElem.1 h
  rcases Nat.lt_trichotomy i j with hlt | rfl | hlt
  · exact absurd (ie.trans je.symm) (hp i j il jl hlt)
  · rfl
  · exact absurd (je.trans ie.symm) (hp j i jl il hlt)
theorem Rep.inj {ts : List Tm} (hn : ts.Nodup) : ∀ {c : Co} {i j : Nat}, Rep ts i c → Rep ts j c → i = j := by
  intro c
  induction c with
  | leaf p => intro i j h1 h2; exact vt9 hn h1 h2
  | un p x ih =>
    rintro i j ⟨l, a1, a2⟩ ⟨l', b1, b2⟩
    obtain rfl := ih a1 b1
    exact vt9 hn a2 b2
  | bin p x y ihx ihy =>
    rintro i j ⟨l, r, a1, a2, a3⟩ ⟨l', r', b1, b2, b3⟩
    obtain rfl := ihx a1 b1
    obtain rfl := ihy a2 b2
    exact vt9 hn a3 b3
theorem qp3 {p q : CP} (hp : FldP p) (hq : FldP q) {l r l' r' : Nat} (h : qy3 p l r = qy3 q l' r') : p = q ∧ l = l' ∧ r = r' := by
  obtain ⟨po, pn, ps, pe⟩ := p
  obtain ⟨qo, qn, qs, qe⟩ := q
  simp only [qy3, Tm.mk.injEq] at h
  obtain ⟨h1, h2, h3, h4, h5, h6⟩ := h
  have e : po = qo := by
    have a : 0 ≤ po := hp.1.1
    have b : 0 ≤ qo := hq.1.1
    omega
  subst e h4 h5 h6
  exact ⟨rfl, h2, h3⟩
theorem ju2 {op : Int} : (qi3 op = true → unB op = false ∧ binB op = false) ∧ (unB op = true → qi3 op = false ∧ binB op = false) := by
  unfold binB
  refine ⟨fun h => ?_, fun h => ?_⟩
  · refine ⟨?_, by rw [h]; rfl⟩
    unfold qi3 at h
    unfold unB
    simp only [Bool.or_eq_true, beq_iff_eq] at h
    rcases h with (((h | h) | h) | h) | h <;> rw [h] <;> decide
  · refine ⟨?_, by rw [h]; simp⟩
    unfold unB at h
    unfold qi3
    simp only [Bool.or_eq_true, beq_iff_eq] at h
    rcases h with (h | h) | h <;> rw [h] <;> decide
theorem Rep.func {ts : List Tm} : ∀ {c d : Co} {i : Nat}, vg0 c → WfC c → vg0 d → WfC d → Rep ts i c → Rep ts i d → c = d := by
  intro c
  induction c with
  | leaf p =>
    intro d i fc wc fd wd h1 h2
    cases d with
    | leaf q =>
      have e := qp3 fc fd (Option.some.inj (h1.symm.trans h2))
      rw [e.1]
    | un q y =>
      obtain ⟨l, _, h2⟩ := h2
      have e := qp3 fc fd.1 (Option.some.inj (h1.symm.trans h2))
      have := (ju2.1 wc).1
      rw [e.1] at this
      rw [wd.1] at this
      cases this
    | bin q y z =>
      obtain ⟨l, r, _, _, h2⟩ := h2
      have e := qp3 fc fd.1 (Option.some.inj (h1.symm.trans h2))
      have := (ju2.1 wc).2
      rw [e.1] at this
      rw [wd.1] at this
      cases this
  | un p x ih =>
    intro d i fc wc fd wd h1 h2
    obtain ⟨l, a1, a2⟩ := h1
    cases d with
    | leaf q =>
      have e := qp3 fc.1 fd (Option.some.inj (a2.symm.trans h2))
      have := (ju2.1 wd).1
      rw [← e.1, wc.1] at this
      cases this
    | un q y =>
      obtain ⟨l', b1, b2⟩ := h2
      have e := qp3 fc.1 fd.1 (Option.some.inj (a2.symm.trans b2))
      obtain ⟨rfl, rfl, _⟩ := e
      rw [ih fc.2 wc.2 fd.2 wd.2 a1 b1]
    | bin q y z =>
      obtain ⟨l', r', _, _, b2⟩ := h2
      have e := qp3 fc.1 fd.1 (Option.some.inj (a2.symm.trans b2))
      have := (ju2.2 wc.1).2
      rw [e.1, wd.1] at this
      cases this
  | bin p x y ihx ihy =>
    intro d i fc wc fd wd h1 h2
    obtain ⟨l, r, a1, a2, a3⟩ := h1
    cases d with
    | leaf q =>
      have e := qp3 fc.1 fd (Option.some.inj (a3.symm.trans h2))
      have := (ju2.1 wd).2
      rw [← e.1, wc.1] at this
      cases this
    | un q z =>
      obtain ⟨l', _, b2⟩ := h2
      have e := qp3 fc.1 fd.1 (Option.some.inj (a3.symm.trans b2))
      have := (ju2.2 wd.1).2
      rw [← e.1, wc.1] at this
      cases this
    | bin q z u =>
      obtain ⟨l', r', b1, b2, b3⟩ := h2
      have e := qp3 fc.1 fd.1 (Option.some.inj (a3.symm.trans b3))
      obtain ⟨rfl, rfl, rfl⟩ := e
      rw [ihx fc.2.1 wc.2.1 fd.2.1 wd.2.1 a1 b1, ihy fc.2.2 wc.2.2 fd.2.2 wd.2.2 a2 b2]
theorem inj_le : ∀ (m n : Nat) (f : Nat → Nat), (∀ i, i < n → f i < m) → (∀ i j, i < n → j < n → f i = f j → i = j) → n ≤ m := by
  intro m
  induction m with
  | zero =>
    intro n f h _
    cases n with
    | zero => exact Nat.le_refl _
    | succ n => exact absurd (h 0 (by omega)) (by omega)
  | succ m ih =>
    intro n f h hinj
    cases n with
    | zero => omega
    | succ k =>
      have hk := h k (by omega)
      have := ih k (fun i => if f i = m then f k else f i) (fun i hi => by
        by_cases e : f i = m
        · simp only [e, if_true]
          have : f k ≠ m := fun e' => by have := hinj i k (by omega) (by omega) (e.trans e'.symm); omega
          omega
        · simp only [e, if_false]
          have := h i (by omega)
          omega) (fun i j hi hj e => by
        by_cases e1 : f i = m <;> by_cases e2 : f j = m
        · exact hinj i j (by omega) (by omega) (e1.trans e2.symm)
        · simp only [e1, e2, if_true, if_false] at e
          have := hinj k j (by omega) (by omega) e
          omega
        · simp only [e1, e2, if_true, if_false] at e
          have := hinj i k (by omega) (by omega) e
          omega
        · simp only [e1, e2, if_false] at e
          exact hinj i j (by omega) (by omega) e)
      omega
structure Full (ts : List Tm) (P : Co → Prop) : Prop where
  nodup : ts.Nodup
  all : ∀ i, i < ts.length → ∃ d, P d ∧ Rep ts i d
theorem vu8 {ts : List Tm} {P : Co → Prop} (h : Full ts P) {t : Tm} {d : Co} (hd : Rep (vc7 ts t).1 (vc7 ts t).2 d) : Full (vc7 ts t).1 (fun c => P c ∨ c = d) := by
  unfold vc7 at hd ⊢
  cases hw : qh8 ts t with
  | some i => exact ⟨h.nodup, fun i hi => by obtain ⟨e, h1, h2⟩ := h.all i hi; exact ⟨e, .inl h1, h2⟩⟩
  | none =>
    rw [hw] at hd
    have hno : ∀ x ∈ ts, x ≠ t := by
      unfold qh8 at hw
      rw [List.findIdx?_eq_none_iff] at hw
      intro x hx e
      have := hw x hx
      rw [e, (vb6 t t).2 rfl] at this
      cases this
    refine ⟨?_, fun i hi => ?_⟩
    · show (ts ++ [t]).Nodup
      unfold List.Nodup
      rw [List.pairwise_append]
      exact ⟨h.nodup, List.pairwise_singleton _ _, fun a ha b hb => by simp at hb; subst hb; exact hno a ha⟩
    · by_cases hl : i < ts.length
      · obtain ⟨e, h1, h2⟩ := h.all i hl
        exact ⟨e, .inl h1, h2.more⟩
      · have e : i = ts.length := by
          have : i < (ts ++ [t]).length := hi
          simp at this
          omega
        subst e
        exact ⟨d, .inr rfl, hd⟩
theorem ji1 (ts : List Tm) (t : Tm) : (vc7 ts t).1[(vc7 ts t).2]? = some t ∧ ∃ us, (vc7 ts t).1 = ts ++ us := by
  unfold vc7
  cases hw : qh8 ts t with
  | some i =>
    refine ⟨?_, [], by simp⟩
    unfold qh8 at hw
    obtain ⟨h1, h2, _⟩ := List.findIdx?_eq_some_iff_getElem.1 hw
    rw [List.getElem?_eq_some_iff]
    exact ⟨h1, (vb6 _ _).1 h2⟩
  | none => exact ⟨by simp, [t], rfl⟩
theorem vb0 : ∀ (c : Co) (ts : List Tm), Rep (j9 ts c).1 (j9 ts c).2 c ∧ ∃ us, (j9 ts c).1 = ts ++ us := by
  intro c
  induction c with
  | leaf p => intro ts; exact ji1 ts (qy3 p 0 0)
  | un p x ih =>
    intro ts
    obtain ⟨h1, us, h2⟩ := ih ts
    obtain ⟨h3, vs, h4⟩ := ji1 (j9 ts x).1 (qy3 p (j9 ts x).2 0)
    refine ⟨⟨(j9 ts x).2, ?_, h3⟩, us ++ vs, ?_⟩
    · show Rep (vc7 (j9 ts x).1 (qy3 p (j9 ts x).2 0)).1 _ _
      rw [h4]
      exact h1.more
    · show (vc7 (j9 ts x).1 (qy3 p (j9 ts x).2 0)).1 = _
      rw [h4, h2, List.append_assoc]
  | bin p x y ihx ihy =>
    intro ts
    obtain ⟨h1, us, h2⟩ := ihx ts
    obtain ⟨k1, vs, k2⟩ := ihy (j9 ts x).1
    obtain ⟨h3, ws, h4⟩ := ji1 (j9 (j9 ts x).1 y).1 (qy3 p (j9 ts x).2 (j9 (j9 ts x).1 y).2)
    refine ⟨⟨(j9 ts x).2, (j9 (j9 ts x).1 y).2, ?_, ?_, h3⟩, us ++ vs ++ ws, ?_⟩
    · show Rep (vc7 (j9 (j9 ts x).1 y).1 (qy3 p (j9 ts x).2 (j9 (j9 ts x).1 y).2)).1 _ _
      rw [h4]
      refine Rep.more ?_
      rw [k2]
      exact h1.more
    · show Rep (vc7 (j9 (j9 ts x).1 y).1 (qy3 p (j9 ts x).2 (j9 (j9 ts x).1 y).2)).1 _ _
      rw [h4]
      exact k1.more
    · show (vc7 (j9 (j9 ts x).1 y).1 (qy3 p (j9 ts x).2 (j9 (j9 ts x).1 y).2)).1 = _
      rw [h4, k2, h2]
      simp [List.append_assoc]
theorem Full.weak {ts : List Tm} {P Q : Co → Prop} (h : Full ts P) (hPQ : ∀ c, P c → Q c) : Full ts Q := ⟨h.nodup, fun i hi => by obtain ⟨d, h1, h2⟩ := h.all i hi; exact ⟨d, hPQ d h1, h2⟩⟩
theorem jv6 : ∀ (c : Co) (ts : List Tm) (P : Co → Prop), Full ts P → Full (j9 ts c).1 (fun d => P d ∨ SubC c d) := by
  intro c
  induction c with
  | leaf p =>
    intro ts P h
    exact (vu8 h (t := qy3 p 0 0) (d := .leaf p) (vb0 (.leaf p) ts).1).weak fun d hd => hd
  | un p x ih =>
    intro ts P h
    have h1 := ih ts P h
    refine (vu8 h1 (t := qy3 p (j9 ts x).2 0) (d := .un p x) (vb0 (.un p x) ts).1).weak fun d hd => ?_
    rcases hd with (hd | hd) | hd
    · exact .inl hd
    · exact .inr (.inr hd)
    · exact .inr (.inl hd)
  | bin p x y ihx ihy =>
    intro ts P h
    have h1 := ihy _ _ (ihx ts P h)
    refine (vu8 h1 (t := qy3 p (j9 ts x).2 (j9 (j9 ts x).1 y).2) (d := .bin p x y) (vb0 (.bin p x y) ts).1).weak fun d hd => ?_
    rcases hd with ((hd | hd) | hd) | hd
    · exact .inl hd
    · exact .inr (.inr (.inl hd))
    · exact .inr (.inr (.inr hd))
    · exact .inr (.inl hd)
theorem vx0 (cs : List Co) : ∀ k, k ≤ cs.length → Full (qh0 cs k).1 (fun d => ∃ j c, j < k ∧ cs[j]? = some c ∧ SubC c d) ∧ ∀ j c, j < k → cs[j]? = some c → ∃ i, Rep (qh0 cs k).1 i c := by
  intro k
  induction k with
  | zero => intro _; exact ⟨⟨List.Pairwise.nil, fun i hi => by simp [qh0] at hi⟩, fun j c hj => by omega⟩
  | succ k ih =>
    intro hk
    obtain ⟨h1, h2⟩ := ih (by omega)
    obtain ⟨c, hc⟩ : ∃ c, cs[k]? = some c := ⟨_, List.getElem?_eq_getElem (by omega)⟩
    have e : (qh0 cs (k + 1)).1 = (j9 (qh0 cs k).1 c).1 := by rw [qh0, List.getD_eq_getElem?_getD, hc]; rfl
    rw [e]
    obtain ⟨h3, us, h4⟩ := vb0 c (qh0 cs k).1
    refine ⟨(jv6 c _ _ h1).weak fun d hd => ?_, fun j x hj hx => ?_⟩
    · rcases hd with ⟨j, x, hj, hx, hs⟩ | hd
      · exact ⟨j, x, by omega, hx, hs⟩
      · exact ⟨k, c, by omega, hc, hd⟩
    · by_cases ej : j = k
      · subst ej
        rw [hc] at hx
        obtain rfl := Option.some.inj hx
        exact ⟨_, h3⟩
      · obtain ⟨i, hi⟩ := h2 j x (by omega) hx
        rw [h4]
        exact ⟨i, hi.more⟩
theorem SubC.fld : ∀ {c d : Co}, vg0 c → WfC c → SubC c d → vg0 d ∧ WfC d := by
  intro c
  induction c with
  | leaf p => rintro d h1 h2 rfl; exact ⟨h1, h2⟩
  | un p x ih =>
    intro d h1 h2 hs
    rcases hs with rfl | hs
    · exact ⟨h1, h2⟩
    · exact ih h1.2 h2.2 hs
  | bin p x y ihx ihy =>
    intro d h1 h2 hs
    rcases hs with rfl | hs | hs
    · exact ⟨h1, h2⟩
    · exact ihx h1.2.1 h2.2.1 hs
    · exact ihy h1.2.2 h2.2.2 hs
theorem terms_le {cs cs' : List Co} (hg : ∀ c ∈ cs, CoreOk c) (hs : ∀ c ∈ cs', c ∈ cs) : (qh0 cs' cs'.length).1.length ≤ (qh0 cs cs.length).1.length := by
  obtain ⟨f1, _⟩ := vx0 cs' cs'.length (Nat.le_refl _)
  obtain ⟨g1, g2⟩ := vx0 cs cs.length (Nat.le_refl _)
  have key : ∀ i, ∃ j, i < (qh0 cs' cs'.length).1.length → ∃ d, Rep (qh0 cs' cs'.length).1 i d ∧ Rep (qh0 cs cs.length).1 j d ∧ vg0 d ∧ WfC d := by
    intro i
    by_cases hi : i < (qh0 cs' cs'.length).1.length
    · obtain ⟨d, ⟨k, c, hk, hc, hsub⟩, hr⟩ := f1.all i hi
      have hm := hs c (List.mem_of_getElem? hc)
      obtain ⟨k2, hk2⟩ := List.getElem?_of_mem hm
      obtain ⟨i2, hi2⟩ := g2 k2 c (List.getElem?_eq_some_iff.1 hk2).1 hk2
      obtain ⟨j, hj⟩ := hi2.sub hsub
      have ho := hg c hm
      exact ⟨j, fun _ => ⟨d, hr, hj, hsub.fld ho.fld ho.wf⟩⟩
    · exact ⟨0, fun h => absurd h hi⟩
  have hf := fun i => Classical.choose_spec (key i)
  refine inj_le _ _ (fun i => Classical.choose (key i)) (fun i hi => ?_) (fun i j hi hj e => ?_)
  · obtain ⟨d, _, h2, _⟩ := hf i hi
    exact h2.lt
  · obtain ⟨d, a1, a2, a3, a4⟩ := hf i hi
    obtain ⟨d', b1, b2, b3, b4⟩ := hf j hj
    have e' : Classical.choose (key i) = Classical.choose (key j) := e
    rw [e'] at a2
    obtain rfl := Rep.func a3 a4 b3 b4 a2 b2
    exact Rep.inj f1.nodup a1 b1
theorem addK_fits {cs : List Co} (hg : ∀ c ∈ cs, CoreOk c) : ∀ k, k ≤ cs.length → FitsL (qh0 cs k).1 := by
  intro k
  induction k with
  | zero => intro _ i t h; simp [qh0] at h
  | succ k ih =>
    intro hk
    obtain ⟨c, hc⟩ : ∃ c, cs[k]? = some c := ⟨_, List.getElem?_eq_getElem (by omega)⟩
    have e : (qh0 cs (k + 1)).1 = (j9 (qh0 cs k).1 c).1 := by rw [qh0, List.getD_eq_getElem?_getD, hc]; rfl
    rw [e]
    have ho := hg c (List.mem_of_getElem? hc)
    exact js7 c _ ho.fld ho.wf (ih (by omega))
theorem jn3 {L : List Su} (hg : ∀ x ∈ L, CoreOk x.co) (h8 : L.length ≤ 8) (h80 : (qn5 L).1.length ≤ 80) : PrgS L := by
  have hl : (L.map Su.co).length = L.length := List.length_map _
  have hg' : ∀ c ∈ L.map Su.co, CoreOk c := fun c hc => by
    obtain ⟨x, hx, rfl⟩ := List.mem_map.1 hc
    exact hg x hx
  have hr := qp5 (L.map Su.co) L.length
  refine ⟨h80, ?_, addK_fits hg' L.length (by rw [hl]; exact Nat.le_refl _), hr.2⟩
  show (qh0 (L.map Su.co) L.length).2.length ≤ 8
  rw [hr.1]
  exact h8
theorem progS_le {L L' : List Su} (hg : ∀ x ∈ L, CoreOk x.co) (hs : ∀ x ∈ L', ∃ y ∈ L, x.co = y.co) : (qn5 L').1.length ≤ (qn5 L).1.length := by
  have := terms_le (cs := L.map Su.co) (cs' := L'.map Su.co) (fun c hc => by
    obtain ⟨x, hx, rfl⟩ := List.mem_map.1 hc
    exact hg x hx) (fun c hc => by
    obtain ⟨x, hx, rfl⟩ := List.mem_map.1 hc
    obtain ⟨y, hy, e⟩ := hs x hx
    rw [e]
    exact List.mem_map_of_mem hy)
  rw [List.length_map, List.length_map] at this
  exact this
end
section
def qt7 (l : List Sx) (k : Nat) (x : Sx) : List Sx := l.take k ++ x :: l.drop k
def jc3 (L : List Su) (k : Nat) (x : Su) : List Su := L.take k ++ x :: L.drop k
def qs8 (L : List Su) (id : Int) : Nat := L.countP fun s => decide (s.id < id)
theorem vt6 (l : List Sx) (k : Nat) (x : Sx) : (qt7 l k x).map Sx.sb = qv8 (l.map Sx.sb) k x.sb := by simp [qt7, qv8, List.map_append, List.map_take, List.map_drop]
theorem insX_su (l : List Sx) (k : Nat) (x : Sx) : (qt7 l k x).map Sx.su = jc3 (l.map Sx.su) k x.su := by simp [qt7, jc3, List.map_append, List.map_take, List.map_drop]
theorem qq3 (l : List Sx) (k : Nat) (x : Sx) : (qt7 l k x).length = l.length + 1 := by simp [qt7]; omega
theorem qn9 {l : List Sx} {k : Nat} {x y : Sx} (h : y ∈ qt7 l k x) : y = x ∨ y ∈ l := by
  unfold qt7 at h
  rcases List.mem_append.1 h with h | h
  · exact .inr (List.mem_of_mem_take h)
  · rcases List.mem_cons.1 h with h | h
    · exact .inl h
    · exact .inr (List.mem_of_mem_drop h)
theorem vz9 (l : List Sx) (id : Int) : qb7 (l.map Sx.sb) id = qs8 (l.map Sx.su) id := by
  unfold qb7 qs8
  rw [List.countP_map, List.countP_map]
  rfl
theorem qc5 {w : World} {base size n : Nat} {e : TypeId} {v : Value} {xs : List Value} (h : w.ownsRow base e size v n xs) : ∃ a c, v = .slice a n c := by
  rcases qd6 h with ⟨rfl, rfl⟩ | ⟨g, c, rfl⟩
  · exact ⟨_, _, rfl⟩
  · exact ⟨_, _, rfl⟩
theorem vq6 (l : List Sb) (id : Int) : qb7 l id ≤ l.length := List.countP_le_length
theorem jw6 {l : List Sb} (h : qn1 l) (s : Sb) (hno : ∀ t ∈ l, t.id ≠ s.id) : qn1 (qv8 l (qb7 l s.id) s) := by
  have hc := qt3 h s.id
  unfold qn1 qv8
  have h1 : ∀ t ∈ l.take (qb7 l s.id), t.id < s.id := by
    intro t ht
    obtain ⟨i, hi⟩ := List.getElem?_of_mem ht
    rw [List.getElem?_take] at hi
    split at hi
    · rename_i hlt
      exact (hc i t hi).2 hlt
    · cases hi
  have h2 : ∀ t ∈ l.drop (qb7 l s.id), s.id < t.id := by
    intro t ht
    obtain ⟨i, hi⟩ := List.getElem?_of_mem ht
    rw [List.getElem?_drop] at hi
    have := hc _ t hi
    have h3 := hno t (List.mem_of_mem_drop ht)
    by_cases h4 : t.id < s.id
    · have := this.1 h4; omega
    · omega
  rw [List.pairwise_append]
  refine ⟨h.sublist (List.take_sublist _ _), List.pairwise_cons.2 ⟨h2, h.sublist (List.drop_sublist _ _)⟩, fun a ha b hb => ?_⟩
  rcases List.mem_cons.1 hb with rfl | hb
  · exact h1 a ha
  · exact Int.lt_trans (h1 a ha) (h2 b hb)
theorem BrAt.inserted {w W : World} {bb : Nat} {last : Int} {sv tv rv sv' tv' rv' : Value} {l : List Sx} (h : BrAt w bb last sv tv rv l) {k : Nat} {x : Sx} (hb : Below w.heap.size w W)
    (hrow : SbRow W w.heap.size sv' (qv8 (l.map Sx.sb) k x.sb)) (hr : RowsAt W w.heap.size tv' rv' (tsX (qt7 l k x)) (rsX (qt7 l k x)))
    (hx0 : x.row = none) (hx1 : x.cap = 0) (hx2 : x.ms = []) (hco : CoAt x.lo x.hi W (.pointer x.cp) x.co) (hlo : w.heap.size ≤ x.lo) (hhi : x.hi ≤ W.heap.size) (hgd : vf3 x.co) (hsz : qs1 x.co ≤ 250000000)
    (ho : ∀ k, sv'.ownBlock = some k ∨ tv'.ownBlock = some k ∨ rv'.ownBlock = some k → k < x.lo ∨ x.hi ≤ k)
    (hup : qn1 (qv8 (l.map Sx.sb) k x.sb)) (h8 : l.length < 8) (hp : Prg (tsX (qt7 l k x)) (rsX (qt7 l k x))) :
    BrAt (((W.setCell ⟨bb, 1, none⟩ sv').setCell ⟨bb, 2, none⟩ tv').setCell ⟨bb, 3, none⟩ rv') bb last sv' tv' rv' (qt7 l k x) := by
  have hz := hb.size
  have hlt := h.lt
  have blk3 := jk1 (jk0 (vs3 ((hb.block bb hlt).trans h.blk) sv') tv') rv'
  have late : ∀ k, k ≠ bb → (((W.setCell ⟨bb, 1, none⟩ sv').setCell ⟨bb, 2, none⟩ tv').setCell ⟨bb, 3, none⟩ rv').heap[k]? = W.heap[k]? := fun k h2 => by
    rw [Below.heap_setCell _ ⟨bb, 3, none⟩ _ k (by show k ≠ bb; exact h2), Below.heap_setCell _ ⟨bb, 2, none⟩ _ k (by show k ≠ bb; exact h2), Below.heap_setCell _ ⟨bb, 1, none⟩ _ k (by show k ≠ bb; exact h2)]
  have hxv : x.hv = .slice none 0 0 := by unfold Sx.hv; rw [hx0, hx1, hx2]; rfl
  have hxo : ∀ k, x.hv.ownBlock ≠ some k := fun k => by rw [hxv]; simp [Value.ownBlock]
  refine ⟨blk3, ?_, ⟨?_, ?_, hr.ne⟩, fun y hy => ?_, ?_, fun y hy => ?_, fun y hy k' hk => ?_, ?_, by rw [qq3]; omega, fun y hy => ?_, hp⟩
  · show World.ownsRow _ 0 _ 3 _ ((qt7 l k x).map Sx.sb).length (j4 ((qt7 l k x).map Sx.sb))
    rw [vt6]
    exact y9 (v9 hrow fun j hj => late j (fun e => by have := (hrow.lt j hj).1; omega)) (Nat.zero_le _)
  · exact y9 (v9 hr.ats fun j hj => late j (fun e => by have := (hr.ats.lt j hj).1; omega)) (Nat.zero_le _)
  · exact y9 (v9 hr.ars fun j hj => late j (fun e => by have := (hr.ars.lt j hj).1; omega)) (Nat.zero_le _)
  · rcases qn9 hy with rfl | hy
    · rw [hxv, hx2]
      exact World.ownsRow_nil _ _ _ _
    · have hq := h.hps y hy
      exact v9 hq fun j hj => by
        have hj1 := (hq.lt j hj).2
        rw [late j (fun e => by subst e; exact qm6 hq h.blk (by decide) hj), hb.block j hj1]
  · unfold qt7
    rw [List.pairwise_append]
    refine ⟨h.dis.sublist (List.take_sublist _ _), List.pairwise_cons.2 ⟨fun y _ j hj => absurd hj (hxo j), h.dis.sublist (List.drop_sublist _ _)⟩, fun a ha b hb' => ?_⟩
    rcases List.mem_cons.1 hb' with rfl | hb'
    · exact fun j _ => hxo j
    · have hd := h.dis
      rw [← List.take_append_drop k l, List.pairwise_append] at hd
      exact hd.2.2 a ha b hb'
  · rcases qn9 hy with rfl | hy
    · refine ⟨CoAt.keep (Nat.le_refl _) (fun j j1 j2 => late j (by omega)) (by simp) hco, by simp; omega, hgd, hsz⟩
    · obtain ⟨h1, h2, h3⟩ := h.cos y hy
      refine ⟨CoAt.keep (Nat.le_refl _) (fun j j1 j2 => ?_) (by simp; omega) h1, by simp; omega, h3⟩
      rw [late j (fun e => by have := h.out y hy j (.inl e); omega), hb.block j (by omega)]
  · have hk2 : k' = bb ∨ (∃ z ∈ l, z.hv.ownBlock = some k') ∨ (w.heap.size ≤ k' ∧ (sv'.ownBlock = some k' ∨ tv'.ownBlock = some k' ∨ rv'.ownBlock = some k')) := by
      rcases hk with e | e | e | e | ⟨z, hz', e⟩
      · exact .inl e
      · exact .inr (.inr ⟨(hrow.lt k' e).1, .inl e⟩)
      · exact .inr (.inr ⟨(hr.ats.lt k' e).1, .inr (.inl e)⟩)
      · exact .inr (.inr ⟨(hr.ars.lt k' e).1, .inr (.inr e)⟩)
      · rcases qn9 hz' with rfl | hz'
        · exact absurd e (hxo k')
        · exact .inr (.inl ⟨z, hz', e⟩)
    rcases qn9 hy with rfl | hy
    · rcases hk2 with e | ⟨z, hz', e⟩ | ⟨_, e⟩
      · left; omega
      · have := ((h.hps z hz').lt k' e).2
        left; omega
      · exact ho k' e
    · have h2 := (h.cos y hy).2.1
      rcases hk2 with e | ⟨z, hz', e⟩ | ⟨e, _⟩
      · exact h.out y hy k' (.inl e)
      · exact h.out y hy k' (.inr (.inr (.inr (.inr ⟨z, hz', e⟩))))
      · right; omega
  · rw [vt6]
    exact hup
  · rcases qn9 hy with rfl | hy
    · rw [hx2]; exact Nat.zero_le _
    · exact h.m6 y hy
structure SbReady (w : World) (ls : List Sb) (P n : Nat) (id : Int) (c : Co) (W : World) (g cap : Nat) (x : Sx) : Prop where
  below : Below w.heap.size w W
  row : SbRow W w.heap.size (.slice (some ⟨g, 0, none⟩) (n + 1) cap) (qv8 ls P x.sb)
  core : CoAt x.lo x.hi W (.pointer x.cp) c
  lo : w.heap.size ≤ x.lo
  hi : x.hi ≤ W.heap.size
  out : g < x.lo ∨ x.hi ≤ g
  eid : x.id = id
  eco : x.co = c
  e0 : x.row = none
  e1 : x.cap = 0
  e2 : x.ms = []
theorem SbReady.more {w : World} {ls : List Sb} {P n : Nat} {id : Int} {c : Co} {W W' : World} {g cap : Nat} {x : Sx} (h : SbReady w ls P n id c W g cap x) (hb : Below W.heap.size W W') : SbReady w ls P n id c W' g cap x :=
  ⟨v7 h.below hb, v9 h.row fun k hk => hb.block k (h.row.lt k hk).2, CoAt.keep (Nat.le_refl _) (fun k _ k2 => hb.block k (by have := h.hi; omega)) hb.size h.core, h.lo, Nat.le_trans h.hi hb.size, h.out, h.eid, h.eco, h.e0, h.e1, h.e2⟩
set_option maxHeartbeats 4000000 in
set_option maxRecDepth 100000 in
theorem sub_ok (w : World) (F : Nat → Prop) (bb : Nat) (last : Int) (L : List Su) (h : Br w F bb last L) (id : Int) (hno : ∀ x ∈ L, x.id ≠ id) (s : List UInt8) (c : Co) (htx : TxOk s c) (h8 : L.length < 8) (hL : LibOk w)
    (h80 : (qn5 (jc3 L (qs8 L id) ⟨id, c, []⟩)).1.length ≤ 80) (hprg : PrgS (jc3 L (qs8 L id) ⟨id, c, []⟩))
    (Q : Ending → World → Prop) (hQ : ∀ w', Br w' (upF F w w') bb last (jc3 L (qs8 L id) ⟨id, c, []⟩) → Grow F w w' → Q (.returned (.tuple #[.int .i64 0, .int .i64 0])) w') :
    Calls Tryz.prog 12 #[.pointer (some ⟨bb, 0, none⟩), .int .i64 id, .string (BS s)] w Q := by
  obtain ⟨hF, sv, tv, rv, l, hB, hLl, hfoot⟩ := h
  obtain ⟨t, hrd, hcore, hin, hgood, hsize, hslen⟩ := htx
  have hnl : ∀ x ∈ l, x.id ≠ id := fun x hx => by have := hno x.su (by rw [← hLl]; exact List.mem_map_of_mem hx); exact this
  have hll : l.length = L.length := by rw [← hLl, List.length_map]
  have FD := v6 (vd0 hB hnl)
  obtain ⟨P, hP⟩ : ∃ P, qb7 (l.map Sx.sb) id = P := ⟨_, rfl⟩
  have hPS : qs8 L id = P := by rw [← hP, ← hLl, vz9]
  have hPle : P ≤ l.length := by have := vq6 (l.map Sx.sb) id; rw [List.length_map, hP] at this; exact this
  rw [hP] at FD
  rw [hPS] at h80 hprg hQ
  obtain ⟨a, cp, rfl⟩ : ∃ a cp, sv = .slice a l.length cp := by
    obtain ⟨a, cp, e⟩ := qc5 hB.row
    exact ⟨a, cp, by rw [e, List.length_map]⟩
  obtain ⟨n, hn⟩ : ∃ n, l.length = n := ⟨_, rfl⟩
  have hn8 : n < 8 := by omega
  have RD : Hid (∀ w', Below w.heap.size w w' → Calls Tryz.prog 31 #[.string (BS s)] w' (qt2 w' (.ok t))) := v6 fun w' hb => hrd ▸ qr1 (BS s) w' (hL.below hb (Nat.le_refl _)).err (by rw [qc0]; exact hslen)
  have CELLS : Hid (∀ w', Below w.heap.size w w' → w'.cell? ⟨bb, 1, none⟩ = some (.slice a n cp)) := v6 fun w' hb => by rw [← hn]; exact (hB.below hb).cells.2.1
  have CL : Hid (∀ w', Below w.heap.size w w' → Calls Tryz.prog 33 #[.slice a n cp] w' fun e w'' => ∃ a3 c3, e = .returned (.slice a3 n c3) ∧ Hid (SbRow w'' w'.heap.size (.slice a3 n c3) (l.map Sx.sb)) ∧ Hid (Below w'.heap.size w' w'')) := v6 (by
    intro w' hb
    have hr := (hB.below hb).row
    rw [hn] at hr
    refine (vh3 (l.map Sx.sb) (by rw [List.length_map]; omega) _ 0 w' hr).mono ?_
    rintro e w'' ⟨v', rfl, h1, h2⟩
    obtain ⟨a3, c3, e3⟩ := qc5 h1
    rw [List.length_map, hn] at e3
    subst e3
    exact ⟨a3, c3, rfl, v6 h1, v6 h2⟩)
  have CO : Hid (∀ (lo : Nat) (U U' : World) (v : Value), Below w.heap.size w U → Below U.heap.size U U' → IsNode lo U v t → Calls Tryz.prog 34 #[v] U' (qv5 U'.heap.size U' c)) := v6 fun lo U U' v hU hU' hnd => hcore ▸ vh5 lo t hin (vd4 hrd) U'.heap.size U' v (Nat.le_refl _) (hL.below (v7 hU hU') (Nat.le_refl _)) (hnd.above ⟨hU'.size, fun k _ h2 => hU'.block k h2⟩)
  have INS : Hid (∀ (w2 w3 w4 : World) (a3 : Option Addr) (c3 b4 : Nat), Below w.heap.size w w2 → Below w2.heap.size w2 w3 → SbRow w3 w2.heap.size (.slice a3 n c3) (l.map Sx.sb) → Below w3.heap.size w3 w4 → CoAt w3.heap.size w4.heap.size w4 (.pointer (some ⟨b4, 0, none⟩)) c →
      Calls Tryz.prog 32 #[.slice a3 n c3, .int .i64 P, .slice (some ⟨w4.heap.size, 0, none⟩) 1 1] (w4.alloc (.cells #[.int .i64 id, .pointer (some ⟨b4, 0, none⟩), .slice none 0 0] 83)) fun e W => ∃ g cap x, e = .returned (.slice (some ⟨g, 0, none⟩) (n + 1) cap) ∧ Hid (SbReady w (l.map Sx.sb) P n id c W g cap x)) := v6 (by
    intro w2 w3 w4 a3 c3 b4 hb2 hb3 hr3 hb4 hc4
    obtain ⟨x, hx⟩ : ∃ x : Sx, x = ⟨id, some ⟨b4, 0, none⟩, w3.heap.size, w4.heap.size, c, none, 0, []⟩ := ⟨_, rfl⟩
    have hz2 := hb2.size
    have hz3 := hb3.size
    have hz4 := hb4.size
    obtain ⟨w5, hw5⟩ : ∃ w5, w5 = w4.alloc (.cells #[.int .i64 id, .pointer (some ⟨b4, 0, none⟩), .slice none 0 0] 83) := ⟨_, rfl⟩
    have hz5 : w5.heap.size = w4.heap.size + 1 := by rw [hw5]; simp
    have hb5 : Below w4.heap.size w4 w5 := by rw [hw5]; exact (Below.refl _ _).alloc (Nat.le_refl _) _
    have hr5 : SbRow w5 w2.heap.size (.slice a3 n c3) (l.map Sx.sb) := v9 hr3 fun k hk => by
      have := (hr3.lt k hk).2
      rw [hb5.block k (by omega), hb4.block k (by omega)]
    have hne5 : (Value.slice a3 n c3).ownBlock ≠ some w4.heap.size := fun e => by have := (hr3.lt _ e).2; omega
    rw [← hw5]
    refine (vq2 (l.map Sx.sb) x.sb P (by rw [List.length_map]; exact hPle) (by rw [List.length_map]; omega) _ w2.heap.size w4.heap.size w5 hr5 hne5 (by rw [hw5, hx]; exact heap_alloc_new w4 _) (by omega)).mono ?_
    rintro e W ⟨g, cap, rfl, h1, h2, h3⟩
    rw [qh1, List.length_map, hn] at h1 ⊢
    have hzW := h2.size
    have keep : ∀ k, w3.heap.size ≤ k → k < w4.heap.size → W.heap[k]? = w4.heap[k]? := fun k k1 k2 => by
      rw [h2.block k (by omega) (fun e => by have := (hr3.lt _ e.symm).2; omega), hb5.block k k2]
    refine ⟨g, cap, x, rfl, v6 ⟨⟨?_, ?_, ?_, by omega, fun k hk => ?_⟩, y9 h1 (by omega), ?_, ?_, ?_, ?_, by rw [hx], by rw [hx], by rw [hx], by rw [hx], by rw [hx]⟩⟩
    · exact h2.os.trans (hb5.os.trans (hb4.os.trans (hb3.os.trans hb2.os)))
    · exact h2.tape.trans (hb5.tape.trans (hb4.tape.trans (hb3.tape.trans hb2.tape)))
    · exact h2.output.trans (hb5.output.trans (hb4.output.trans (hb3.output.trans hb2.output)))
    · rw [h2.block k (by omega) (fun e => by have := (hr3.lt _ e.symm).1; omega), hb5.block k (by omega), hb4.block k (by omega), hb3.block k (by omega), hb2.block k hk]
    · rw [hx]
      exact CoAt.keep (Nat.le_refl _) keep (by omega) hc4
    · rw [hx]; exact Nat.le_trans hz2 hz3
    · rw [hx]; show w4.heap.size ≤ _; omega
    · rw [hx]
      show g < w3.heap.size ∨ w4.heap.size ≤ g
      rcases h3 with e | e
      · left; exact (hr3.lt _ e).2
      · right; omega)
  have TG : Hid (∀ (W : World) (g cap : Nat) (x : Sx), SbReady w (l.map Sx.sb) P n id c W g cap x → Calls Tryz.prog 35 #[.slice (some ⟨g, 0, none⟩) (n + 1) cap] W fun e W' => ∃ a7 n7 c7 a8 n8 c8, e = .returned (.agg #[.slice a7 n7 c7, .slice a8 n8 c8]) ∧ n7 ≤ 80 ∧ Hid (∀ U, Below W'.heap.size W' U → U.cell? ⟨bb, 1, none⟩ = some (.slice a n cp) ∧ (∃ u2 u3, U.cell? ⟨bb, 2, none⟩ = some u2 ∧ U.cell? ⟨bb, 3, none⟩ = some u3) ∧ (∀ j, U.frozen? ⟨bb, j, none⟩ = false) ∧ bb < U.heap.size ∧ Hid (Q (.returned (.tuple #[.int .i64 0, .int .i64 0])) (((U.setCell ⟨bb, 1, none⟩ (.slice (some ⟨g, 0, none⟩) (n + 1) cap)).setCell ⟨bb, 2, none⟩ (.slice a7 n7 c7)).setCell ⟨bb, 3, none⟩ (.slice a8 n8 c8))))) := v6 (by
    intro W g cap x hR
    have hlen : (qv8 (l.map Sx.sb) P x.sb).length = n + 1 := by rw [qh1, List.length_map, hn]
    have hcl : (qj8 (qt7 l P x)).length = n + 1 := by unfold qj8; rw [List.length_map, qq3, hn]
    have hzW := hR.below.size
    have T := qx0 (qv8 (l.map Sx.sb) P x.sb) (qj8 (qt7 l P x)) (by rw [hcl, hlen]) (by rw [hlen]; omega) (.slice (some ⟨g, 0, none⟩) (n + 1) cap) W (SbRow.subs hR.row) (by
      intro k s' cc hs hc
      rw [← vt6, List.getElem?_map] at hs
      unfold qj8 at hc
      rw [List.getElem?_map] at hc
      cases hz : (qt7 l P x)[k]? with
      | none => rw [hz] at hs; cases hs
      | some z =>
        rw [hz] at hs hc
        simp at hs hc
        subst hs hc
        rcases qn9 (List.mem_of_getElem? hz) with rfl | hzm
        · refine ⟨?_, by rw [hR.eco]; exact hgood, by rw [hR.eco]; exact hsize⟩
          have q := hR.core
          rw [← hR.eco] at q
          exact CoAt.low (Nat.zero_le _) (CoAt.keep hR.hi (fun _ _ _ => rfl) (Nat.le_refl _) q)
        · obtain ⟨q1, q2, q3, q4⟩ := (hB.below hR.below).cos z hzm
          exact ⟨CoAt.low (Nat.zero_le _) (CoAt.keep q2 (fun _ _ _ => rfl) (Nat.le_refl _) q1), q3, q4⟩)
    refine T.mono ?_
    rintro e W' ⟨tv', rv', rfl, hr, hb'⟩
    rw [hlen] at hr
    have hSu : (qt7 l P x).map Sx.su = jc3 L P ⟨id, c, []⟩ := by
      rw [insX_su, hLl]
      congr 1
      unfold Sx.su
      rw [hR.eid, hR.eco, hR.e2]
    have hpS := qx6 (qt7 l P x)
    rw [hSu] at hpS
    have hp' : Prg (tsX (qt7 l P x)) (rsX (qt7 l P x)) := PrgS.at (by rw [hSu]; exact hprg)
    have hr' : RowsAt W' W.heap.size tv' rv' (tsX (qt7 l P x)) (rsX (qt7 l P x)) := by
      unfold tsX rsX
      rw [qq3, hn]
      exact hr
    have h80' : (tsX (qt7 l P x)).length ≤ 80 := by rw [hpS] at h80; exact h80
    obtain ⟨a7, c7, e7⟩ := qc5 hr'.ats
    obtain ⟨a8, c8, e8⟩ := qc5 hr'.ars
    subst e7 e8
    refine ⟨a7, _, c7, a8, _, c8, rfl, h80', v6 fun U hU => ?_⟩
    have hRU := (hR.more hb').more hU
    have hz' := hb'.size
    have hzU := hU.size
    have hBU := hB.below hRU.below
    obtain ⟨d0, d1, d2, d3, d4⟩ := hBU.cells
    rw [hn] at d1
    have hrU : RowsAt U w.heap.size (.slice a7 (tsX (qt7 l P x)).length c7) (.slice a8 (rsX (qt7 l P x)).length c8) (tsX (qt7 l P x)) (rsX (qt7 l P x)) := ⟨y9 (v9 hr'.ats fun k hk => hU.block k (hr'.ats.lt k hk).2) hzW, y9 (v9 hr'.ars fun k hk => hU.block k (hr'.ars.lt k hk).2) hzW, hr'.ne⟩
    have hrow := hRU.row
    have up := jw6 hB.up x.sb (fun t ht => by
      obtain ⟨z, hz, rfl⟩ := List.mem_map.1 ht
      have := hnl z hz
      show z.id ≠ x.id
      rw [hR.eid]
      exact this)
    have exid : x.sb.id = id := hR.eid
    rw [exid, hP] at up
    have hBi := hB.inserted hRU.below hrow hrU hR.e0 hR.e1 hR.e2 (by rw [hR.eco]; exact hRU.core) hR.lo hRU.hi (by rw [hR.eco]; exact hgood) (by rw [hR.eco]; exact hsize) (by
      intro k hk
      rcases hk with e | e | e
      · have e' : g = k := by simpa [Value.ownBlock] using e
        rw [← e']; exact hR.out
      · have := (hr'.ats.lt k e).1; have := hR.hi; right; omega
      · have := (hr'.ars.lt k e).1; have := hR.hi; right; omega) up (by omega) hp'
    refine ⟨d1, ⟨_, _, d2, d3⟩, d4, hBU.lt, v6 (hQ _ ⟨?_, _, _, _, qt7 l P x, hBi, hSu, ?_⟩ ?_)⟩
    · intro k hk
      rcases hk with hk | hk
      · have := hF k hk; simp; omega
      · exact hk.2
    · intro k hk
      have hlt := hBi.foot_lt hk
      by_cases hkw : w.heap.size ≤ k
      · exact .inr ⟨hkw, hlt⟩
      · left
        apply hfoot
        rcases hk with (e | e | e | e | ⟨z, hz, e⟩) | ⟨z, hz, e⟩
        · exact .inl (.inl e)
        · have := (hrow.lt k e).1; omega
        · have := (hrU.ats.lt k e).1; omega
        · have := (hrU.ars.lt k e).1; omega
        · rcases qn9 hz with rfl | hz
          · unfold Sx.hv at e; rw [hR.e0] at e; simp [Value.ownBlock] at e
          · exact .inl (.inr (.inr (.inr (.inr ⟨z, hz, e⟩))))
        · rcases qn9 hz with rfl | hz
          · have := hR.lo; omega
          · exact .inr ⟨z, hz, e⟩
    · refine ⟨hRU.below.os, hRU.below.tape, hRU.below.output, by simp; omega, fun k h1 h2 => ?_⟩
      have hkb : k ≠ bb := fun e => h2 (hfoot k (.inl (.inl e)))
      rw [Below.heap_setCell _ ⟨bb, 3, none⟩ _ k (by show k ≠ bb; exact hkb), Below.heap_setCell _ ⟨bb, 2, none⟩ _ k (by show k ≠ bb; exact hkb), Below.heap_setCell _ ⟨bb, 1, none⟩ _ k (by show k ≠ bb; exact hkb)]
      exact hRU.below.block k h1)
  have hd8 : decide ((n : Int) = 8) = false := decide_eq_false (by omega)
  clear hB hLl hfoot hQ hn hF hprg hin hrd hcore hgood hsize hslen hnl hll hPle hL h80 hPS hP hno
  go_enter Tryz.func12, Tryz.ntmps12
  go_wp2_with (first | (go_at_call 30; refine (q9 FD).mono ?_; rintro e w1 ⟨rfl, hb1⟩; have B1 := v6 hb1; clear hb1) | (go_at_call 31; refine (q9 RD _ (q9 B1)).mono ?_; rintro e w2 ⟨hb2, v2, rfl, hn2⟩; obtain ⟨vb, rfl⟩ := hn2.ptr; have N2 := v6 hn2; have B2 := v6 (v7 (q9 B1) hb2); have c2 := q9 CELLS w2 (q9 B2); clear hn2 hb2) | (go_at_call 33; refine (q9 CL _ (q9 B2)).mono ?_; rintro e w3 ⟨a3, c3, rfl, R3, B3⟩) | (go_at_call 34; refine (q9 CO _ _ _ _ (q9 B2) (q9 B3) (q9 N2)).mono ?_; rintro e w4 ⟨b4, rfl, hc4, hb4⟩; have C4 := v6 hc4; have B4 := v6 hb4; clear hc4 hb4) | (go_at_call 32; refine (q9 INS _ _ _ _ _ _ (q9 B2) (q9 B3) (q9 R3) (q9 B4) (q9 C4)).mono ?_; rintro e w6 ⟨g6, cap6, x6, rfl, R6⟩) | (go_at_call 35; refine (q9 TG _ _ _ _ (q9 R6)).mono ?_; rintro e w7 ⟨a7, n7, c7, a8, n8, c8, rfl, h80, E7⟩) | (go_at_call 36; obtain ⟨U, hU⟩ : ∃ U, U = w7.alloc (.cells #[.slice a7 n7 c7, .slice a8 n8 c8] 65) := ⟨_, rfl⟩; rw [← hU]; have t0 : U.cell? ⟨w7.heap.size, 0, none⟩ = some (.slice a7 n7 c7) := (by rw [hU]; simp [go_sem]); have t1 : U.cell? ⟨w7.heap.size, 1, none⟩ = some (.slice a8 n8 c8) := (by rw [hU]; simp [go_sem]); obtain ⟨d1, ⟨u2, u3, d2, d3⟩, d4, dl, E8⟩ := q9 E7 U (by rw [hU]; exact qq0 _ _); clear hU; refine (vm4 _ 0 n7 a7 c7 U t0).mono ?_; rintro e w8 ⟨rfl, rfl⟩))
  exact q9 E8
end
section
set_option maxHeartbeats 2000000 in
theorem sub_twice (w : World) (F : Nat → Prop) (bb : Nat) (last : Int) (L : List Su) (h : Br w F bb last L) (i : Nat) (x : Su) (hx : L[i]? = some x) (s : ByteArray) :
    Calls Tryz.prog 12 #[.pointer (some ⟨bb, 0, none⟩), .int .i64 x.id, .string s] w fun e w' => e = .returned (.tuple #[.int .i64 6, .int .i64 0]) ∧ Below w.heap.size w w' := by
  obtain ⟨hF, sv, tv, rv, l, hB, hL, hfoot⟩ := h
  obtain ⟨y, hy, hyx⟩ := getX hL hx
  have hpl := vu5 hB.up (i := i) (s := y.sb) (by rw [List.getElem?_map, hy]; rfl)
  have hyid : y.sb.id = x.id := by rw [← hyx]; rfl
  rw [hyid] at hpl
  have FD := v6 (va1 bb (l.map Sx.sb) x.id _ w hB.cells.2.1 (SbRow.subs hB.row) hB.up (by rw [List.length_map]; exact hB.n8))
  rw [hpl.1, hpl.2] at FD
  clear hB hL hfoot hF hpl hyid hx hy hyx
  go_enter Tryz.func12, Tryz.ntmps12
  go_wp2_with (go_at_call 30; refine (q9 FD).mono ?_; rintro e w1 ⟨rfl, hb1⟩; have B1 := v6 hb1; clear hb1)
  go_ret2
  exact ⟨rfl, q9 B1⟩
set_option maxHeartbeats 2000000 in
set_option maxRecDepth 100000 in
theorem sub_full8 (w : World) (F : Nat → Prop) (bb : Nat) (last : Int) (L : List Su) (h : Br w F bb last L) (id : Int) (hno : ∀ x ∈ L, x.id ≠ id) (s : ByteArray) (hs : s.size ≤ 140737488355328) (t : Ast) (hrd : qm5 s = .ok t) (h8 : L.length = 8) (hE : ErrOk w) :
    Calls Tryz.prog 12 #[.pointer (some ⟨bb, 0, none⟩), .int .i64 id, .string s] w fun e w' => e = .returned (.tuple #[.int .i64 8, .int .i64 0]) ∧ Below w.heap.size w w' := by
  obtain ⟨hF, sv, tv, rv, l, hB, hL, hfoot⟩ := h
  have hnl : ∀ x ∈ l, x.id ≠ id := fun x hx => by have := hno x.su (by rw [← hL]; exact List.mem_map_of_mem hx); exact this
  have hll : l.length = 8 := by rw [← h8, ← hL, List.length_map]
  have FD := v6 (vd0 hB hnl)
  generalize qb7 (l.map Sx.sb) id = P at *
  obtain ⟨a, cp, rfl⟩ : ∃ a cp, sv = .slice a 8 cp := by
    obtain ⟨a, cp, e⟩ := qc5 hB.row
    exact ⟨a, cp, by rw [e, List.length_map, hll]⟩
  have RD : Hid (∀ w', Below w.heap.size w w' → Calls Tryz.prog 31 #[.string s] w' (qt2 w' (.ok t))) := v6 fun w' hb => hrd ▸ qr1 s w' (hE.below hb (Nat.le_refl _)) hs
  have CELLS : Hid (∀ w', Below w.heap.size w w' → w'.cell? ⟨bb, 1, none⟩ = some (.slice a 8 cp)) := v6 fun w' hb => (hB.below hb).cells.2.1
  clear hB hL hfoot hF hnl hll hno hrd h8 hE
  go_enter Tryz.func12, Tryz.ntmps12
  go_wp2_with (first | (go_at_call 30; refine (q9 FD).mono ?_; rintro e w1 ⟨rfl, hb1⟩; have B1 := v6 hb1; clear hb1) | (go_at_call 31; refine (q9 RD _ (q9 B1)).mono ?_; rintro e w2 ⟨hb2, v2, rfl, hn2⟩; obtain ⟨vb, rfl⟩ := hn2.ptr; have B2 := v6 (v7 (q9 B1) hb2); have c2 := q9 CELLS w2 (q9 B2); clear hn2 hb2))
  go_ret2
  exact ⟨rfl, q9 B2⟩
end
section
def jq3 (l : List Int) : List Value := l.map fun x => .int .i64 x
def ZsAt (w : World) (base : Nat) (v : Value) (l : List Int) : Prop := w.ownsRow base 3 1 v l.length (jq3 l)
theorem ZsAt.nil (w : World) (base : Nat) : ZsAt w base (.slice none 0 0) [] := ⟨rfl, .inl ⟨rfl, rfl⟩⟩
theorem ZsAt.form {w : World} {base : Nat} {v : Value} {l : List Int} (h : ZsAt w base v l) : ∃ a c, v = .slice a l.length c := by
  rcases h.2 with ⟨rfl, hn⟩ | ⟨g, cap, cur, rfl, _⟩
  · exact ⟨none, 0, by rw [hn]⟩
  · exact ⟨_, _, rfl⟩
theorem ZsAt.app {W W' : World} {base : Nat} {v : Value} {l : List Int} (h : ZsAt W base v l) (hb : base ≤ W.heap.size) (x : Int) (hn : l.length ≤ 1000) (ty : TypeId) (H : Nat) (hH : W.heap.size = H) (hW : W' = W.alloc (.cells #[.int .i64 x] 3)) :
    ∃ g cap w5, (qm1 #[29, 29] ty #[v, .slice (some ⟨H, 0, none⟩) 1 1]).run Tryz.prog W' = .ok (.slice (some ⟨g, 0, none⟩) (l.length + 1) cap) w5 ∧
      Hid (ZsAt w5 base (.slice (some ⟨g, 0, none⟩) (l.length + 1) cap) (l ++ [x])) ∧ Hid (W.grownBy w5 v.ownBlock) ∧ Hid (v.ownBlock = some g ∨ W.heap.size ≤ g) := by
  subst hH hW
  obtain ⟨i0, hi, hz0, hz1, hz2⟩ := info_parts qs5
  have ha := World.ownsRow.alloc h (.cells #[.int .i64 x] 3)
  obtain ⟨g, cap, w5, hr, hown, hgrow, hat, _⟩ := run_append_lies (P := Tryz.prog) (W.alloc (.cells #[.int .i64 x] 3)) 29 ty base 3 i0 _ 1 8 Tryz.underlying29 hi hz0 hz1 hz2 rfl (by omega) v l.length (jq3 l) ha
    ⟨W.heap.size, 0, none⟩ 1 1 [.int .i64 x] rfl (World.news_of_block (cs := #[.int .i64 x]) (t := 3) (fr := (0, 0)) (heap_alloc_new W _)) (by simp [Value.oneCell']) (by omega) (by unfold maxLen; omega) (by omega) (by simp; omega) _ rfl
  have hal := qq0 W (.cells #[.int .i64 x] 3)
  refine ⟨g, cap, w5, hr, v6 ?_, v6 ⟨hgrow.os, hgrow.tape, hgrow.output, ?_, fun k h1 h2 => ?_⟩, v6 ?_⟩
  · show World.ownsRow _ _ _ _ _ _ _
    rw [List.length_append, List.length_singleton, jq3, List.map_append]
    exact hown
  · have := hgrow.size
    simp at this
    omega
  · rw [hgrow.block k (by simp; omega) h2, hal.block k h1]
  · rcases hat with e | e
    · exact .inl e
    · right; simp at e; omega
def qg7 (m : Mg) (st : List Su × List Int × List Int) (p : Nat) : List Su × List Int × List Int := match st.1[p]? with
  | none => st
  | some x => if x.ms.length = 6 then (st.1, st.2.1 ++ [x.id], st.2.2 ++ [x.id]) else (st.1.set p { x with ms := vn8 x.ms m }, st.2.1 ++ [x.id], st.2.2)
def vc6 (m : Mg) (L : List Su) (pos : List Nat) (k : Nat) : List Su × List Int × List Int := (pos.take k).foldl (qg7 m) (L, [], [])
def pubR (m : Mg) (L : List Su) (pos : List Nat) : List Su × List Int × List Int := pos.foldl (qg7 m) (L, [], [])
theorem vj6 (m : Mg) (L : List Su) (pos : List Nat) (k p : Nat) (h : pos[k]? = some p) : vc6 m L pos (k + 1) = qg7 m (vc6 m L pos k) p := by
  unfold vc6
  rw [List.take_add_one, h, List.foldl_append]
  rfl
theorem vn7 (m : Mg) (st : List Su × List Int × List Int) (p : Nat) : (qg7 m st p).1.length = st.1.length := by
  unfold qg7
  split
  · rfl
  · split
    · rfl
    · simp
theorem jh9 (m : Mg) (L : List Su) (pos : List Nat) (k : Nat) : (vc6 m L pos k).1.length = L.length := by
  induction k with
  | zero => rfl
  | succ k ih =>
    cases h : pos[k]? with
    | none =>
      have : pos.take (k + 1) = pos.take k := by rw [List.take_add_one, h]; simp
      unfold vc6 at ih ⊢
      rw [this, ih]
    | some p => rw [vj6 m L pos k p h, vn7, ih]
theorem jv9 (m : Mg) (L : List Su) (pos : List Nat) (k : Nat) : (vc6 m L pos k).2.1.length ≤ k ∧ (vc6 m L pos k).2.2.length ≤ k := by
  induction k with
  | zero => exact ⟨Nat.le_refl _, Nat.le_refl _⟩
  | succ k ih =>
    cases h : pos[k]? with
    | none =>
      have : pos.take (k + 1) = pos.take k := by rw [List.take_add_one, h]; simp
      unfold vc6 at ih ⊢
      rw [this]
      omega
    | some p =>
      rw [vj6 m L pos k p h, qg7]
      split
      · omega
      · split <;> simp <;> omega
theorem BrAt.grown {w w' : World} {bb : Nat} {last : Int} {sv tv rv : Value} {l : List Sx} {r : Option Nat} (h : BrAt w bb last sv tv rv l) (hg : w.grownBy w' r) (hr : ∀ k, r = some k → ¬ vg8 bb sv tv rv l k) : BrAt w' bb last sv tv rv l :=
  h.same hg.size fun k hk => hg.block k (h.foot_lt hk) fun e => hr k e.symm hk
structure PubAt (w w2 : World) (F : Nat → Prop) (bb : Nat) (last : Int) (sv : Value) (tv rv posv : Value) (pos : List Nat) (st : List Su × List Int × List Int) (mv fv : Value) (wr : World) : Prop where
  ex : ∃ l, BrAt wr bb last sv tv rv l ∧ l.map Sx.su = st.1 ∧ ∀ k, vg8 bb sv tv rv l k → F k ∨ (w.heap.size ≤ k ∧ ∃ x ∈ l, x.hv.ownBlock = some k)
  grow : Grow F w wr
  hF : ∀ k, F k → k < w.heap.size
  zw : w.heap.size ≤ w2.heap.size
  z : w2.heap.size ≤ wr.heap.size
  pos : IsAt wr w.heap.size posv pos
  posb : ∀ k, posv.ownBlock = some k → k < w2.heap.size
  met : ZsAt wr w2.heap.size mv st.2.1
  full : ZsAt wr w2.heap.size fv st.2.2
  ne : ∀ k, mv.ownBlock = some k → fv.ownBlock ≠ some k
theorem PubAt.below {w w2 : World} {F : Nat → Prop} {bb : Nat} {last : Int} {sv : Value} {tv rv posv : Value} {pos : List Nat} {st : List Su × List Int × List Int} {mv fv : Value} {wr wr' : World} (h : PubAt w w2 F bb last sv tv rv posv pos st mv fv wr) (hb : Below wr.heap.size wr wr') : PubAt w w2 F bb last sv tv rv posv pos st mv fv wr' := by
  obtain ⟨l, h1, h2, h3⟩ := h.ex
  exact ⟨⟨l, h1.below hb, h2, h3⟩, h.grow.trans' (Grow.of_below hb), h.hF, h.zw, Nat.le_trans h.z hb.size, v9 h.pos fun k hk => hb.block k (h.pos.lt k hk).2, h.posb, v9 h.met fun k hk => hb.block k (h.met.lt k hk).2, v9 h.full fun k hk => hb.block k (h.full.lt k hk).2, h.ne⟩
theorem PubAt.not_foot {w w2 : World} {F : Nat → Prop} {bb : Nat} {last : Int} {sv : Value} {tv rv : Value} {wr : World} (hF : ∀ k, F k → k < w.heap.size) (zw : w.heap.size ≤ w2.heap.size) {l : List Sx} (h1 : BrAt wr bb last sv tv rv l) (h3 : ∀ k, vg8 bb sv tv rv l k → F k ∨ (w.heap.size ≤ k ∧ ∃ x ∈ l, x.hv.ownBlock = some k)) {v : Value} {z : List Int} (hv : ZsAt wr w2.heap.size v z) {k : Nat} (hk : v.ownBlock = some k) : ¬ vg8 bb sv tv rv l k := by
  intro hf
  have hlt := (hv.lt k hk).1
  rcases h3 k hf with e | ⟨_, x, hx, e⟩
  · have := hF k e; omega
  · exact qv1 hv (h1.hps x hx) (by decide) hk e
theorem PubAt.more_met {w w2 : World} {F : Nat → Prop} {bb : Nat} {last : Int} {sv : Value} {tv rv posv : Value} {pos : List Nat} {st : List Su × List Int × List Int} {mv fv mv' : Value} {wr wr' : World} (h : PubAt w w2 F bb last sv tv rv posv pos st mv fv wr) {z : List Int}
    (hz : ZsAt wr' w2.heap.size mv' z) (hg : wr.grownBy wr' mv.ownBlock) (hn : ∀ k, mv'.ownBlock = some k → mv.ownBlock = some k ∨ wr.heap.size ≤ k) : PubAt w w2 F bb last sv tv rv posv pos (st.1, z, st.2.2) mv' fv wr' := by
  obtain ⟨l, h1, h2, h3⟩ := h.ex
  have nf : ∀ k, mv.ownBlock = some k → ¬ vg8 bb sv tv rv l k := fun k hk => PubAt.not_foot h.hF h.zw h1 h3 h.met hk
  refine ⟨⟨l, h1.grown hg nf, h2, h3⟩, ?_, h.hF, h.zw, Nat.le_trans h.z hg.size, v9 h.pos fun k hk => hg.block k (h.pos.lt k hk).2 ?_, h.posb, hz, v9 h.full fun k hk => hg.block k (h.full.lt k hk).2 (fun e => h.ne k e.symm hk), fun k hk e => ?_⟩
  · have := h.zw
    have := h.grow.size
    exact ⟨hg.os.trans h.grow.os, hg.tape.trans h.grow.tape, hg.output.trans h.grow.output, Nat.le_trans h.grow.size hg.size, fun k h4 h5 => (hg.block k (by omega) (fun e => by have := (h.met.lt k e.symm).1; omega)).trans (h.grow.block k h4 h5)⟩
  · intro e
    have := (h.met.lt k e.symm).1
    have := h.posb k hk
    omega
  · rcases hn k hk with e' | e'
    · exact h.ne k e' e
    · have := (h.full.lt k e).2; omega
theorem PubAt.more_full {w w2 : World} {F : Nat → Prop} {bb : Nat} {last : Int} {sv : Value} {tv rv posv : Value} {pos : List Nat} {st : List Su × List Int × List Int} {mv fv fv' : Value} {wr wr' : World} (h : PubAt w w2 F bb last sv tv rv posv pos st mv fv wr) {z : List Int}
    (hz : ZsAt wr' w2.heap.size fv' z) (hg : wr.grownBy wr' fv.ownBlock) (hn : ∀ k, fv'.ownBlock = some k → fv.ownBlock = some k ∨ wr.heap.size ≤ k) : PubAt w w2 F bb last sv tv rv posv pos (st.1, st.2.1, z) mv fv' wr' := by
  obtain ⟨l, h1, h2, h3⟩ := h.ex
  have nf : ∀ k, fv.ownBlock = some k → ¬ vg8 bb sv tv rv l k := fun k hk => PubAt.not_foot h.hF h.zw h1 h3 h.full hk
  refine ⟨⟨l, h1.grown hg nf, h2, h3⟩, ?_, h.hF, h.zw, Nat.le_trans h.z hg.size, v9 h.pos fun k hk => hg.block k (h.pos.lt k hk).2 ?_, h.posb, v9 h.met fun k hk => hg.block k (h.met.lt k hk).2 (fun e => h.ne k hk e.symm), hz, fun k hk e => ?_⟩
  · have := h.zw
    have := h.grow.size
    exact ⟨hg.os.trans h.grow.os, hg.tape.trans h.grow.tape, hg.output.trans h.grow.output, Nat.le_trans h.grow.size hg.size, fun k h4 h5 => (hg.block k (by omega) (fun e => by have := (h.full.lt k e.symm).1; omega)).trans (h.grow.block k h4 h5)⟩
  · intro e
    have := (h.full.lt k e.symm).1
    have := h.posb k hk
    omega
  · rcases hn k e with e' | e'
    · exact h.ne k hk e'
    · have := (h.met.lt k hk).2; omega
theorem PubAt.form {w w2 : World} {F : Nat → Prop} {bb : Nat} {last : Int} {sv tv rv posv : Value} {pos : List Nat} {st : List Su × List Int × List Int} {mv fv : Value} {wr : World} (h : PubAt w w2 F bb last sv tv rv posv pos st mv fv wr) {p : Nat} {x : Su} (hx : st.1[p]? = some x) : ∃ g n c, sv = .slice (some ⟨g, 0, none⟩) n c := by
  obtain ⟨l, h1, h2, h3⟩ := h.ex
  obtain ⟨y, hy, hyx⟩ := getX h2 hx
  rcases qd6 h1.row with ⟨_, h0⟩ | ⟨g, c, hv⟩
  · have := (List.getElem?_eq_some_iff.1 hy).1
    simp at h0
    subst h0
    simp at this
  · exact ⟨g, _, c, hv⟩
theorem PubAt.facts {w w2 : World} {F : Nat → Prop} {bb : Nat} {last : Int} {g n c : Nat} {tv rv posv : Value} {pos : List Nat} {st : List Su × List Int × List Int} {mv fv : Value} {wr : World} (h : PubAt w w2 F bb last (.slice (some ⟨g, 0, none⟩) n c) tv rv posv pos st mv fv wr) {p : Nat} {x : Su} (hx : st.1[p]? = some x) :
    wr.cell? ⟨bb, 1, none⟩ = some (.slice (some ⟨g, 0, none⟩) n c) ∧ wr.cell? ⟨bb, 0, none⟩ = some (.int .i64 last) ∧ wr.cell? ⟨g, p * 3, none⟩ = some (.int .i64 x.id) ∧ p < n ∧ x.ms.length ≤ 6 ∧ ∃ hv, HqAt wr g (p * 3 + 2) hv 0 x.ms := by
  obtain ⟨l, h1, h2, h3⟩ := h.ex
  obtain ⟨y, hy, hyx⟩ := getX h2 hx
  obtain ⟨a, c', hv, hs⟩ := SbRow.subs h1.row
  obtain ⟨g', ha, hlt, e0, _, _⟩ := hs p y.sb (by rw [List.getElem?_map, hy]; rfl)
  have hg : g = g' := by
    rw [ha] at hv
    simp at hv
    exact hv.1
  have hn : n = l.length := by
    simp at hv
    exact hv.2.1
  subst hg
  have hid : y.sb.id = x.id := by rw [← hyx]; rfl
  have hms : y.ms = x.ms := by rw [← hyx]; rfl
  rw [hid] at e0
  refine ⟨h1.cells.2.1, h1.cells.1, e0, ?_, ?_, y.hv, ?_⟩
  · rw [hn]; exact (List.getElem?_eq_some_iff.1 hy).1
  · rw [← hms]; exact h1.m6 y (List.mem_of_getElem? hy)
  · rw [← hms]; exact h1.heap hy
theorem PubAt.pushed {w w2 : World} {F : Nat → Prop} {bb : Nat} {last : Int} {g n c : Nat} {tv rv posv : Value} {pos : List Nat} {st : List Su × List Int × List Int} {mv fv : Value} {wr : World} (h : PubAt w w2 F bb last (.slice (some ⟨g, 0, none⟩) n c) tv rv posv pos st mv fv wr) {p : Nat} {x : Su} (hx : st.1[p]? = some x) {hv hv' : Value} {wr' : World} {ms' : List Mg} (hq0 : HqAt wr g (p * 3 + 2) hv 0 x.ms) (hq : HqAt wr' g (p * 3 + 2) hv' 0 ms') (hk : PqKept g (p * 3 + 2) hv hv' wr wr') (h6 : ms'.length ≤ 6) :
    PubAt w w2 F bb last (.slice (some ⟨g, 0, none⟩) n c) tv rv posv pos (st.1.set p { x with ms := ms' }, st.2.1, st.2.2) mv fv wr' := by
  obtain ⟨l, h1, h2, h3⟩ := h.ex
  obtain ⟨y, hy, hyx⟩ := getX h2 hx
  have hym := List.mem_of_getElem? hy
  have ehv : hv = y.hv := by
    have a1 := hq0.c
    have a2 := (h1.heap hy).c
    rw [a1] at a2
    simpa using a2
  subst ehv
  obtain ⟨x', a1, a2, a3, a4, a5, a6, hB2⟩ := h1.turned hy hq hk h6
  have keepZ : ∀ {b : Nat} {v : Value} {m : Nat} {xs : List Value}, wr.ownsRow b 3 1 v m xs → ∀ k, v.ownBlock = some k → wr'.heap[k]? = wr.heap[k]? := fun ho k hk' => hk.block k (ho.lt k hk').2 (fun e => by subst e; exact qv1 ho h1.row (by decide) hk' rfl) (fun e => qv1 ho (h1.hps y hym) (by decide) hk' e)
  have hgF : F g := by
    rcases h3 g (.inl (.inr (.inl rfl))) with e | ⟨_, z, hz, e⟩
    · exact e
    · exact absurd rfl (qv1 (h1.hps z hz) h1.row (by decide) e)
  have hzr := h.grow.size
  refine ⟨⟨l.set p x', hB2, ?_, fun k hf => ?_⟩, ?_, h.hF, h.zw, Nat.le_trans h.z hk.size, v9 h.pos (keepZ h.pos), h.posb, v9 h.met (keepZ h.met), v9 h.full (keepZ h.full), h.ne⟩
  · show (l.set p x').map Sx.su = st.1.set p { x with ms := ms' }
    rw [List.map_set, h2]
    congr 1
    rw [← hyx]
    simp [Sx.su, a2, a3, a4]
  · have two : ∀ k, vg8 bb (.slice (some ⟨g, 0, none⟩) n c) tv rv l k → (∀ z ∈ l, z.hv.ownBlock ≠ some k) → F k := fun k hf' hno => by
      rcases h3 k hf' with e | ⟨_, z, hz, e⟩
      · exact e
      · exact absurd e (hno z hz)
    have core : ∀ z ∈ l, z.lo ≤ k → k < z.hi → F k := fun z hz e1 e2 => two k (.inr ⟨z, hz, e1, e2⟩) fun z' hz' e' => by
      have := h1.out z hz k (.inr (.inr (.inr (.inr ⟨z', hz', e'⟩))))
      omega
    rcases hf with (e | e | e | e | ⟨z, hz, e⟩) | ⟨z, hz, e⟩
    · exact .inl (two k (.inl (.inl e)) fun z hz e' => by rw [e] at e'; exact qm6 (h1.hps z hz) h1.blk (by decide) e')
    · exact .inl (two k (.inl (.inr (.inl e))) fun z hz e' => qv1 (h1.hps z hz) h1.row (by decide) e' e)
    · exact .inl (two k (.inl (.inr (.inr (.inl e)))) fun z hz e' => qv1 (h1.hps z hz) h1.rows.ats (by decide) e' e)
    · exact .inl (two k (.inl (.inr (.inr (.inr (.inl e))))) fun z hz e' => qv1 (h1.hps z hz) h1.rows.ars (by decide) e' e)
    · by_cases hkw : w.heap.size ≤ k
      · exact .inr ⟨hkw, z, hz, e⟩
      · left
        have old : ∀ z ∈ l, z.hv.ownBlock = some k → F k := fun z hz e => by
          rcases h3 k (.inl (.inr (.inr (.inr (.inr ⟨z, hz, e⟩))))) with e' | ⟨e', _⟩
          · exact e'
          · omega
        rcases List.mem_or_eq_of_mem_set hz with hz | rfl
        · exact old z hz e
        · rw [a1] at e
          rcases hk.row k e with e' | e'
          · exact old y hym e'
          · omega
    · left
      rcases List.mem_or_eq_of_mem_set hz with hz | rfl
      · exact core z hz e.1 e.2
      · rw [a5, a6] at e
        exact core y hym e.1 e.2
  · refine ⟨hk.os.trans h.grow.os, hk.tape.trans h.grow.tape, hk.output.trans h.grow.output, Nat.le_trans hzr hk.size, fun k h4 h5 => ?_⟩
    rw [hk.block k (by omega) (fun e => h5 (by rw [e]; exact hgF)) (fun e => ?_)]
    · exact h.grow.block k h4 h5
    · rcases h3 k (.inl (.inr (.inr (.inr (.inr ⟨y, hym, e⟩))))) with e' | ⟨e', _⟩
      · exact h5 e'
      · omega
end
end Go.Proofs.YtfkcaldjphakpabGreatDoor
