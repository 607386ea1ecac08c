/- An error's number is never 0. Eval of any text and any list of properties. A heap in memory: Len, Push. A heap in memory: first, sink. -/
import Derived.Test.YtfkcaldjphakpabGreatDoorT22
import Derived.Test.YtfkcaldjphakpabGreatDoorT16
import Derived.Test.YtfkcaldjphakpabGreatDoorT33
import Derived.Test.YtfkcaldjphakpabGreatDoorT21
import Derived.Test.YtfkcaldjphakpabGreatDoorT27
namespace Go.Proofs.YtfkcaldjphakpabGreatDoor
open Go.RowKit
section
def En (r : TRes) : Prop := ∀ en, r = .err en → en = 2 ∨ en = 3
def Nz (o : Nat) (f : TS → TRes) : Prop := ∀ ts, ts.op = o → En (f ts) ∧ ∀ t ts', f ts = .ok t ts' → ts'.op = o
theorem En.ok {t : Ast} {ts : TS} : En (.ok t ts) := fun _ h => by cases h
theorem En.two : En (.err 2) := fun _ h => by injection h with h; exact .inl h.symm
theorem En.three : En (.err 3) := fun _ h => by injection h with h; exact .inr h.symm
theorem Nz.join {o : Nat} {f : TS → TRes} (h : Nz o f) (ts : TS) (l : Ast) (ho : ts.op = o) : En (qw6 f ts l) ∧ ∀ t ts', qw6 f ts l = .ok t ts' → ts'.op = o := by
  obtain ⟨h1, h2⟩ := h ts.next ho
  unfold qw6
  cases hf : f ts.next with
  | err en => rw [hf] at h1; exact ⟨h1, fun _ _ h => by cases h⟩
  | ok t ts' => exact ⟨En.ok, fun _ _ h => by injection h with _ e; rw [← e]; exact h2 _ _ hf⟩
theorem Nz.loop {o : Nat} {f : TS → TRes} (h : Nz o f) (ks : List Int) : ∀ n l ts, ts.op = o → En (qs2 f ks n l ts) ∧ ∀ t ts', qs2 f ks n l ts = .ok t ts' → ts'.op = o := by
  intro n
  induction n with
  | zero => intro l ts ho; rw [qs2]; exact ⟨En.ok, fun _ _ h => by injection h with _ e; rw [← e]; exact ho⟩
  | succ n ih =>
    intro l ts ho
    rw [qs2]
    split
    · obtain ⟨h1, h2⟩ := h.join ts l ho
      cases hf : qw6 f ts l with
      | err en => rw [hf] at h1; exact ⟨h1, fun _ _ h => by cases h⟩
      | ok t ts' => exact ih t ts' (h2 _ _ hf)
    · exact ⟨En.ok, fun _ _ h => by injection h with _ e; rw [← e]; exact ho⟩
theorem Nz.row {o : Nat} {f : TS → TRes} (h : Nz o f) (ks : List Int) : Nz o (vp1 f ks) := by
  intro ts ho
  obtain ⟨h1, h2⟩ := h ts ho
  unfold vp1
  cases hf : f ts with
  | err en => rw [hf] at h1; exact ⟨h1, fun _ _ h => by cases h⟩
  | ok t ts' => exact h.loop ks _ t ts' (h2 _ _ hf)
theorem Nz.sign {o : Nat} (hk : o ≤ 12) {f : TS → TRes} (h : o < 12 → Nz (o + 1) f) (n : Int) (ts : TS) (ho : ts.op = o) : En (qw7 f n ts) ∧ ∀ t ts', qw7 f n ts = .ok t ts' → ts'.op = o := by
  unfold qw7
  by_cases h12 : ts.op = 12
  · rw [if_pos h12]; exact ⟨En.three, fun _ _ h => by cases h⟩
  · rw [if_neg h12]
    obtain ⟨h1, h2⟩ := h (by omega) (tIn ts) (by show ts.op + 1 = _; omega)
    cases hf : f (tIn ts) with
    | err en => rw [hf] at h1; exact ⟨h1, fun _ _ h => by cases h⟩
    | ok t ts' => exact ⟨En.ok, fun _ _ h => by injection h with _ e; rw [← e]; exact ho⟩
theorem Nz.group {o : Nat} (hk : o ≤ 12) {f : TS → TRes} (h : o < 12 → Nz (o + 1) f) (ts : TS) (ho : ts.op = o) : En (qq7 f ts) ∧ ∀ t ts', qq7 f ts = .ok t ts' → ts'.op = o := by
  unfold qq7
  by_cases h12 : ts.op = 12
  · rw [if_pos h12]; exact ⟨En.three, fun _ _ h => by cases h⟩
  · rw [if_neg h12]
    obtain ⟨h1, h2⟩ := h (by omega) (tIn ts) (by show ts.op + 1 = _; omega)
    cases hf : f (tIn ts) with
    | err en => rw [hf] at h1; exact ⟨h1, fun _ _ h => by cases h⟩
    | ok t ts' =>
      show En (if ts'.tk.kind = 27 then _ else _) ∧ ∀ t2 ts2, (if ts'.tk.kind = 27 then _ else _) = TRes.ok t2 ts2 → _
      split
      · exact ⟨En.ok, fun _ _ h => by injection h with _ e; rw [← e]; exact ho⟩
      · exact ⟨En.two, fun _ _ h => by cases h⟩
theorem Nz.signed {o : Nat} (hk : o ≤ 12) {f g : TS → TRes} (hS : o < 12 → Nz (o + 1) f) (hE : o < 12 → Nz (o + 1) g) : Nz o (qg8 f g) := by
  intro ts ho
  unfold qg8
  split
  · exact Nz.sign hk hS 14 ts ho
  split
  · exact Nz.sign hk hS 15 ts ho
  split
  · exact Nz.group hk hE ts ho
  split
  · exact ⟨En.ok, fun _ _ h => by injection h with _ e; rw [← e]; exact ho⟩
  split
  · exact ⟨En.ok, fun _ _ h => by injection h with _ e; rw [← e]; exact ho⟩
  split
  · exact ⟨En.ok, fun _ _ h => by injection h with _ e; rw [← e]; exact ho⟩
  split
  · exact ⟨En.ok, fun _ _ h => by injection h with _ e; rw [← e]; exact ho⟩
  split
  · exact ⟨En.ok, fun _ _ h => by injection h with _ e; rw [← e]; exact ho⟩
  · exact ⟨En.two, fun _ _ h => by cases h⟩
theorem nz_isNull {o : Nat} (l : Ast) (ts : TS) (ho : ts.op = o) : En (tIsNull l ts) ∧ ∀ t ts', tIsNull l ts = .ok t ts' → ts'.op = o := by
  unfold tIsNull
  split
  · split
    · exact ⟨En.ok, fun _ _ h => by injection h with _ e; rw [← e]; exact ho⟩
    · exact ⟨En.two, fun _ _ h => by cases h⟩
  · split
    · exact ⟨En.ok, fun _ _ h => by injection h with _ e; rw [← e]; exact ho⟩
    · exact ⟨En.two, fun _ _ h => by cases h⟩
theorem nz_inLoop {o : Nat} (l : Ast) : ∀ n xs ts, ts.op = o → ts.toks.length < n → En (qf4 l n xs ts) ∧ ∀ t ts', qf4 l n xs ts = .ok t ts' → ts'.op = o := by
  intro n
  induction n with
  | zero => intro xs ts _ h; omega
  | succ n ih =>
    intro xs ts ho hl
    rw [qf4]
    by_cases h28 : ts.tk.kind = 28
    · rw [if_pos h28]
      have hne := j7 (by decide) h28
      have hlt : ts.next.toks.length < ts.toks.length := by
        cases ht : ts.toks with
        | nil => exact absurd ht hne
        | cons a r => show (ts.toks.tail).length < _; rw [ht]; simp
      split
      · have := x9 ts.next
        exact ih _ ts.next.next ho (by omega)
      · exact ⟨En.two, fun _ _ h => by cases h⟩
    · rw [if_neg h28]
      split
      · exact ⟨En.ok, fun _ _ h => by injection h with _ e; rw [← e]; exact ho⟩
      · exact ⟨En.two, fun _ _ h => by cases h⟩
theorem nz_in {o : Nat} (l : Ast) (ts : TS) (ho : ts.op = o) : En (tInRes l ts) ∧ ∀ t ts', tInRes l ts = .ok t ts' → ts'.op = o := by
  unfold tInRes
  split
  · split
    · have l1 := x9 ts
      have l2 := x9 ts.next
      have l3 := x9 ts.next.next
      exact nz_inLoop l _ _ ts.next.next.next ho (by omega)
    · exact ⟨En.two, fun _ _ h => by cases h⟩
  · exact ⟨En.two, fun _ _ h => by cases h⟩
theorem nz_like {o : Nat} (l : Ast) (ts : TS) (ho : ts.op = o) : En (tLike l ts) ∧ ∀ t ts', tLike l ts = .ok t ts' → ts'.op = o := by
  unfold tLike
  split
  · split
    · split
      · exact ⟨En.ok, fun _ _ h => by injection h with _ e; rw [← e]; exact ho⟩
      · exact ⟨En.two, fun _ _ h => by cases h⟩
    · exact ⟨En.ok, fun _ _ h => by injection h with _ e; rw [← e]; exact ho⟩
  · exact ⟨En.two, fun _ _ h => by cases h⟩
theorem Nz.between {o : Nat} {f : TS → TRes} (h : Nz o f) (l : Ast) (ts : TS) (ho : ts.op = o) : En (qg1 f l ts) ∧ ∀ t ts', qg1 f l ts = .ok t ts' → ts'.op = o := by
  unfold qg1
  split
  · obtain ⟨h1, h2⟩ := h ts.next ho
    cases hf : f ts.next with
    | err en => rw [hf] at h1; exact ⟨h1, fun _ _ h => by cases h⟩
    | ok t ts1 =>
      show En (if ts1.tk.kind = 5 then _ else _) ∧ ∀ t2 ts2, (if ts1.tk.kind = 5 then _ else _) = TRes.ok t2 ts2 → _
      split
      · have ho1 : ts1.op = o := h2 _ _ hf
        obtain ⟨h3, h4⟩ := h ts1.next ho1
        cases hg : f ts1.next with
        | err en => rw [hg] at h3; exact ⟨h3, fun _ _ h => by cases h⟩
        | ok t2 ts2 => exact ⟨En.ok, fun _ _ h => by injection h with _ e; rw [← e]; exact h4 _ _ hg⟩
      · exact ⟨En.two, fun _ _ h => by cases h⟩
  · exact ⟨En.two, fun _ _ h => by cases h⟩
theorem Nz.keyword {o : Nat} {f : TS → TRes} (h : Nz o f) (bare : Bool) (l : Ast) (ts : TS) (ho : ts.op = o) : En (qe7 f bare l ts) ∧ ∀ t ts', qe7 f bare l ts = .ok t ts' → ts'.op = o := by
  unfold qe7
  split
  · exact nz_in l ts ho
  split
  · exact nz_like l ts ho
  · exact h.between l ts ho
theorem Nz.test {o : Nat} {f : TS → TRes} (h : Nz o f) : Nz o (qz8 f) := by
  intro ts ho
  obtain ⟨h1, h2⟩ := h ts ho
  unfold qz8
  cases hf : f ts with
  | err en => rw [hf] at h1; exact ⟨h1, fun _ _ h => by cases h⟩
  | ok l ts1 =>
    have ho1 := h2 _ _ hf
    show En (vc0 f _ l ts1) ∧ ∀ t2 ts2, vc0 f _ l ts1 = TRes.ok t2 ts2 → _
    unfold vc0
    split
    · exact h.join ts1 l ho1
    split
    · split
      · exact nz_isNull l ts1 ho1
      · exact ⟨En.ok, fun _ _ h => by injection h with _ e; rw [← e]; exact ho1⟩
    split
    · obtain ⟨h3, h4⟩ := h.keyword (ts.tk.kind == 2 && opA l == 0) l ts1.next ho1
      cases hg : qe7 f (ts.tk.kind == 2 && opA l == 0) l ts1.next with
      | err en => rw [hg] at h3; exact ⟨h3, fun _ _ h => by cases h⟩
      | ok t2 ts2 => exact ⟨En.ok, fun _ _ h => by injection h with _ e; rw [← e]; exact h4 _ _ hg⟩
    split
    · exact h.keyword _ l ts1 ho1
    · exact ⟨En.ok, fun _ _ h => by injection h with _ e; rw [← e]; exact ho1⟩
theorem Nz.denied {o : Nat} (hk : o ≤ 12) {f g : TS → TRes} (hD : o < 12 → Nz (o + 1) f) (hT : Nz o g) : Nz o (qi8 f g) := by
  intro ts ho
  unfold qi8
  split
  · exact Nz.sign hk hD 5 ts ho
  · exact hT ts ho
structure Nz3 (o : Nat) (L : T3) : Prop where
  S : Nz o L.S
  D : Nz o L.D
  E : Nz o L.E
theorem nz_up {o : Nat} (hk : o ≤ 12) {L : T3} (h : o < 12 → Nz3 (o + 1) L) : Nz3 o (tUp L) := by
  have hS := Nz.signed hk (fun e => (h e).S) (fun e => (h e).E)
  have hT := ((hS.row [24, 25]).row [22, 23]).test
  have hD := Nz.denied hk (fun e => (h e).D) hT
  exact ⟨hS, hD, (hD.row [5]).row [6]⟩
theorem nz_lvl : ∀ d o, o + d = 12 → Nz3 o (tLvl d) := by
  intro d
  induction d with
  | zero => intro o h; exact nz_up (by omega) (fun e => absurd e (by omega))
  | succ d ih => intro o h; exact nz_up (by omega) (fun e => ih (o + 1) (by omega))
theorem qw5 {s : ByteArray} {en pl : Int} (h : qm5 s = .err en pl) : en = 1 ∨ en = 2 ∨ en = 3 ∨ en = 4 := by
  unfold qm5 at h
  by_cases hs : s.size ≤ 200
  · rw [if_pos hs] at h
    obtain ⟨L, hL⟩ := jm7 _ s.data.toList (Nat.le_refl _)
    have hst : Str s (v8 s st0) L := jb0 hL st0 (Nat.zero_le _) (List.drop_zero)
    have hfi := qk4 s st0 (Nat.zero_le _)
    have hsim := (vk5 s 12).E (v8 s st0) ⟨L, 0⟩ hfi hst rfl
    rcases hsim.cases with ⟨t1, st, ts, e1, e2, e3, e4, e5⟩ | ⟨en', pl', e1, e2⟩
    · rw [e1] at h
      change endR t1 st = _ at h
      unfold endR at h
      by_cases hk : st.tk.kind = 0
      · rw [if_pos hk] at h
        cases hc : chkR (qa1 t1) with
        | some q => rw [hc] at h; injection h with h1 _; exact .inr (.inr (.inr h1.symm))
        | none => rw [hc] at h; cases h
      · rw [if_neg hk] at h; injection h with h1 _; exact .inr (.inl h1.symm)
    · rw [e1] at h
      injection h with h1 _
      subst h1
      rcases ((nz_lvl 12 0 rfl).E ⟨L, 0⟩ rfl).1 _ e2 with e | e
      · exact .inr (.inl e)
      · exact .inr (.inr (.inl e))
  · rw [if_neg hs] at h
    injection h with h1 _
    exact .inl h1.symm
end
section
def EvIn (w : World) (ev : Value) (ps : List Pr) : Prop :=
  (ps = [] ∧ ∃ a cap, ev = .slice a 0 cap) ∨ ∃ b off cap, ev = .slice (some ⟨b, off, none⟩) ps.length cap ∧ ps.length ≤ cap ∧ EvAt w b off ps ∧ b < w.heap.size
theorem EvIn.below {w w' : World} {ev : Value} {ps : List Pr} (h : EvIn w ev ps) (hb : Below w.heap.size w w') : EvIn w' ev ps := by
  rcases h with h | ⟨b, off, cap, rfl, hc, he, hlt⟩
  · exact .inl h
  · exact .inr ⟨b, off, cap, rfl, hc, he.below hb hlt, Nat.lt_of_lt_of_le hlt hb.size⟩
theorem EvIn.slice {w : World} {ev : Value} {ps : List Pr} (h : EvIn w ev ps) : ∃ a n c, ev = .slice a n c := by
  rcases h with ⟨_, a, cap, rfl⟩ | ⟨b, off, cap, rfl, _⟩
  · exact ⟨_, _, _, rfl⟩
  · exact ⟨_, _, _, rfl⟩
theorem EvIn.arg {w : World} {ev : Value} {ps : List Pr} (h : EvIn w ev ps) (h8 : ps.length ≤ 8) : EvArg w ev ps := by
  refine ⟨h8, ?_⟩
  rcases h with h | ⟨b, off, cap, rfl, hc, he, hlt⟩
  · exact .inl h
  · exact .inr ⟨b, off, cap, rfl, he, hlt⟩
structure EvGood (ps : List Pr) : Prop where
  short : Short ps
  rng : vw5 ps
  len : ps.length ≤ 140737488355328
theorem vc4 {w : World} {ev : Value} {ps : List Pr} (h : EvIn w ev ps) (hg : EvGood ps) :
    Calls Tryz.prog 40 #[ev] w fun e w' => e = .returned (.bool (ve6 ps)) ∧ Below w.heap.size w w' := by
  rcases h with ⟨rfl, a, cap, rfl⟩ | ⟨b, off, cap, rfl, hc, he, hlt⟩
  · exact jj6 a cap w
  · exact je2 b off cap ps w hc hg.len hg.short he hlt
theorem evOk_8 {ps : List Pr} (h : ve6 ps = true) : ps.length ≤ 8 := by
  apply Decidable.byContradiction
  intro hn
  rw [evOk_long hn] at h
  cases h
theorem evOk_at {ps : List Pr} (h : ve6 ps = true) {p : Pr} (hp : p ∈ ps) : qv0 p.name = true ∧ vv7 p.val = true := by
  obtain ⟨k, hk⟩ := List.getElem?_of_mem hp
  unfold ve6 at h
  rw [Bool.and_eq_true, List.all_eq_true] at h
  obtain ⟨hlt, _⟩ := List.getElem?_eq_some_iff.1 hk
  have := h.2 k (List.mem_range.2 hlt)
  unfold jz0 at this
  rw [hk] at this
  simp only [Bool.and_eq_true] at this
  exact this.1
theorem valOk_str {v : V} (h : vv7 v = true) : v.str.length ≤ 20 := by
  apply Decidable.byContradiction
  intro hn
  have he : v.str.isEmpty = false := by cases hs : v.str with
    | nil => rw [hs] at hn; simp at hn
    | cons c t => rfl
  have hd : decide (v.str.length ≤ 20) = false := decide_eq_false hn
  simp only [vv7, he, hd, Bool.and_false, Bool.false_eq_true, ite_self] at h
theorem vt3 {ps : List Pr} (h : ve6 ps = true) : EvSh ps := fun p hp => Nat.le_trans (valOk_str (evOk_at h hp).2) (by decide)
theorem vk1 {s : ByteArray} {t : Ast} (h : qm5 s = .ok t) : vf5 t ∧ vf2 t := by
  unfold qm5 at h
  by_cases hs : s.size ≤ 200
  · rw [if_pos hs] at h
    cases he : (lvl s 12).E (v8 s st0) with
    | err en pl => rw [he] at h; cases h
    | ok t1 st =>
      rw [he] at h
      change endR t1 st = _ at h
      have : t1 = t := by
        unfold endR at h
        split at h
        · split at h
          · injection h
          · cases h
        · cases h
      subst this
      exact ⟨((lvl_num s 12).E _ _ _ (qb9 s st0) he).1, ((lvl_bnd s hs 12).E _ _ _ (j8 hs st0) he).1⟩
  · rw [if_neg hs] at h; cases h
set_option maxHeartbeats 1000000 in
set_option maxRecDepth 100000 in
theorem js3 (s : ByteArray) (hs : s.size ≤ 140737488355328) (t : Ast) (hrd : qm5 s = .ok t) (ps : List Pr) (ev : Value) (w : World) (hE : ErrOk w)
    (hev : EvIn w ev ps) (hg : EvGood ps) (hok : ve6 ps = true) :
    Calls Tryz.prog 112 #[.string s, ev] w fun e w' => e = .returned (.tuple #[vV (ofA ps t), .int .i64 0, .int .i64 0]) ∧ Below w.heap.size w w' := by
  have hof : ∀ lo, OfOk lo ps ev t := fun lo => of_every lo ps ev hg.rng (vt3 hok) t (vk1 hrd).2 (vk1 hrd).1
  have hlen : (ofA ps t).str.length ≤ 281474976710656 := Nat.le_trans (vk3 (vt3 hok) t (vk1 hrd).2) (by decide)
  have RD := v6 (qr1 s (w.alloc (.cells #[.int .i64 0, .int .i64 0, .string ⟨#[]⟩] 118)) (hE.alloc _) hs)
  rw [hrd] at RD
  have hbl := (Below.refl w.heap.size w).alloc (Nat.le_refl _) (.cells #[.int .i64 0, .int .i64 0, .string ⟨#[]⟩] 118)
  have EVA := v6 (hev.below hbl)
  obtain ⟨a, n, c, rfl⟩ := hev.slice
  have HV := v6 (fun w1 (h : EvIn w1 (.slice a n c) ps) => vc4 h hg)
  rw [hok] at HV
  have HOF := v6 hof
  have HB8 := v6 (evOk_8 hok)
  obtain ⟨r, hr⟩ : ∃ r, ofA ps t = r := ⟨_, rfl⟩
  rw [hr] at hlen ⊢
  have HR := v6 hr
  have hzs := qc0 r.str
  have hcl : (BS r.str).size ≤ 281474976710656 := by omega
  clear hrd hE hg hev hok hof hr hlen hzs
  go_enter Tryz.func112, Tryz.ntmps112
  go_wp2_with (first | (go_at_call 31; refine (q9 RD).mono ?_; rintro e w1 ⟨hb1, v1, rfl, hn1⟩; obtain ⟨vb, rfl⟩ := hn1.ptr; have hz1 : w.heap.size < w1.heap.size := (by have := hb1.size; simp at this; omega); have EV1 := v6 ((q9 EVA).below hb1); have g0 : w1.cell? ⟨w.heap.size, 0, none⟩ = some (.int .i64 0) := ((j5 hb1).1 _ 0 (by simp)).trans (by simp); have g1 : w1.cell? ⟨w.heap.size, 1, none⟩ = some (.int .i64 0) := ((j5 hb1).1 _ 1 (by simp)).trans (by simp); have g2 : w1.cell? ⟨w.heap.size, 2, none⟩ = some (.string ⟨#[]⟩) := ((j5 hb1).1 _ 2 (by simp)).trans (by simp); have z0 : ∀ j, w1.frozen? ⟨w.heap.size, j, none⟩ = false := (fun j => ((j5 hb1).2 _ j (by simp)).trans (by simp)); have hB1 := v6 (v7 hbl hb1); have hN1 := v6 hn1; clear hb1 hn1) | (go_at_call 40; refine (q9 HV _ (q9 EV1)).mono ?_; rintro e w2 ⟨rfl, hb2⟩; have hz2 : w.heap.size < w2.heap.size := (by have := hb2.size; omega); have EV2 := v6 ((q9 EV1).below hb2); have k0 : w2.cell? ⟨w.heap.size, 0, none⟩ = some (.int .i64 0) := ((j5 hb2).1 _ 0 hz1).trans g0; have k1 : w2.cell? ⟨w.heap.size, 1, none⟩ = some (.int .i64 0) := ((j5 hb2).1 _ 1 hz1).trans g1; have k2 : w2.cell? ⟨w.heap.size, 2, none⟩ = some (.string ⟨#[]⟩) := ((j5 hb2).1 _ 2 hz1).trans g2; have z2 : ∀ j, w2.frozen? ⟨w.heap.size, j, none⟩ = false := (fun j => ((j5 hb2).2 _ j hz1).trans (z0 j)); have hN2 := v6 ((q9 hN1).kept (Kept.of_below hb2)); have hB2 := v6 (v7 (q9 hB1) hb2); clear hb2 g0 g1 g2 z0) | (go_at_call 161; refine (q9 HOF _ _ _ (q9 hN2) ((q9 EV2).arg (q9 HB8))).mono ?_; rw [q9 HR]; rintro e w3 ⟨rfl, hb3⟩; have hz3 : w.heap.size < w3.heap.size := (by have := hb3.size; omega); have m0 : w3.cell? ⟨w.heap.size, 0, none⟩ = some (.int .i64 0) := ((j5 hb3).1 _ 0 hz2).trans k0; have m1 : w3.cell? ⟨w.heap.size, 1, none⟩ = some (.int .i64 0) := ((j5 hb3).1 _ 1 hz2).trans k1; have m2 : w3.cell? ⟨w.heap.size, 2, none⟩ = some (.string ⟨#[]⟩) := ((j5 hb3).1 _ 2 hz2).trans k2; have z3 : ∀ j, w3.frozen? ⟨w.heap.size, j, none⟩ = false := (fun j => ((j5 hb3).2 _ j hz2).trans (z2 j)); have hB3 := v6 (v7 (q9 hB2) hb3); clear hb3 k0 k1 k2 z2; simp only [vV]) | (go_at_call 162; refine (vx8 (BS r.str) _ hcl).mono ?_; rintro e w4 ⟨rfl, hb4⟩; have hz4 : w3.heap.size < w4.heap.size := (by have := hb4.size; simp at this; omega); have n0 : w4.cell? ⟨w.heap.size, 0, none⟩ = some (.int .i64 0) := ((j5 hb4).1 _ 0 (by simp; omega)).trans (by rw [World.cell?_alloc_past _ _ _ hz3]; exact m0); have n1 : w4.cell? ⟨w.heap.size, 1, none⟩ = some (.int .i64 0) := ((j5 hb4).1 _ 1 (by simp; omega)).trans (by rw [World.cell?_alloc_past _ _ _ hz3]; exact m1); have n2 : w4.cell? ⟨w.heap.size, 2, none⟩ = some (.string ⟨#[]⟩) := ((j5 hb4).1 _ 2 (by simp; omega)).trans (by rw [World.cell?_alloc_past _ _ _ hz3]; exact m2); have z4 : ∀ j, w4.frozen? ⟨w.heap.size, j, none⟩ = false := (fun j => ((j5 hb4).2 _ j (by simp; omega)).trans (by rw [World.frozen?_alloc_past _ _ _ hz3]; exact z3 j)); have a0 : w4.cell? ⟨w3.heap.size, 0, none⟩ = some (.int .i64 r.kind) := ((j5 hb4).1 _ 0 (by simp)).trans (by simp); have a1 : w4.cell? ⟨w3.heap.size, 1, none⟩ = some (.int .i64 r.num) := ((j5 hb4).1 _ 1 (by simp)).trans (by simp); have a2 : w4.cell? ⟨w3.heap.size, 2, none⟩ = some (.string (BS r.str)) := ((j5 hb4).1 _ 2 (by simp)).trans (by simp); have z5 : ∀ j, w4.frozen? ⟨w3.heap.size, j, none⟩ = false := (fun j => ((j5 hb4).2 _ j (by simp)).trans (by simp)); have hne : ¬ w3.heap.size = w.heap.size := (by omega); have hB4 := v6 (v7 (z9 (q9 hB3) _) hb4); clear hb4 m0 m1 m2 z3))
  refine bodyPost_ret (by simp [results, Tryz.results112, go_sem, n0, n1, n2] <;> rfl) rfl ⟨rfl, ?_⟩
  exact ((((q9 hB4).setCell (by simp; omega) _).setCell (by simp) _).setCell (by simp) _).setCell (by simp) _
set_option maxHeartbeats 1000000 in
set_option maxRecDepth 100000 in
theorem je4 (s : ByteArray) (hs : s.size ≤ 140737488355328) (t : Ast) (hrd : qm5 s = .ok t) (ps : List Pr) (ev : Value) (w : World) (hE : ErrOk w)
    (hev : EvIn w ev ps) (hg : EvGood ps) (hok : ve6 ps = false) :
    Calls Tryz.prog 112 #[.string s, ev] w fun e w' => e = .returned (.tuple #[vV nV, .int .i64 7, .int .i64 0]) ∧ Below w.heap.size w w' := by
  have RD := v6 (qr1 s (w.alloc (.cells #[.int .i64 0, .int .i64 0, .string ⟨#[]⟩] 118)) (hE.alloc _) hs)
  rw [hrd] at RD
  have hbl := (Below.refl w.heap.size w).alloc (Nat.le_refl _) (.cells #[.int .i64 0, .int .i64 0, .string ⟨#[]⟩] 118)
  have EVA := v6 (hev.below hbl)
  obtain ⟨a, n, c, rfl⟩ := hev.slice
  have HV := v6 (fun w1 (h : EvIn w1 (.slice a n c) ps) => vc4 h hg)
  rw [hok] at HV
  clear hrd hE hg hev hok
  go_enter Tryz.func112, Tryz.ntmps112
  go_wp2_with (first | (go_at_call 31; refine (q9 RD).mono ?_; rintro e w1 ⟨hb1, v1, rfl, hn1⟩; obtain ⟨vb, rfl⟩ := hn1.ptr; have hz1 : w.heap.size < w1.heap.size := (by have := hb1.size; simp at this; omega); have EV1 := v6 ((q9 EVA).below hb1); have g0 : w1.cell? ⟨w.heap.size, 0, none⟩ = some (.int .i64 0) := ((j5 hb1).1 _ 0 (by simp)).trans (by simp); have g1 : w1.cell? ⟨w.heap.size, 1, none⟩ = some (.int .i64 0) := ((j5 hb1).1 _ 1 (by simp)).trans (by simp); have g2 : w1.cell? ⟨w.heap.size, 2, none⟩ = some (.string ⟨#[]⟩) := ((j5 hb1).1 _ 2 (by simp)).trans (by simp); have z0 : ∀ j, w1.frozen? ⟨w.heap.size, j, none⟩ = false := (fun j => ((j5 hb1).2 _ j (by simp)).trans (by simp)); have hB1 := v6 (v7 hbl hb1); clear hb1 hn1) | (go_at_call 40; refine (q9 HV _ (q9 EV1)).mono ?_; rintro e w2 ⟨rfl, hb2⟩; have hz2 : w.heap.size < w2.heap.size := (by have := hb2.size; omega); have k0 : w2.cell? ⟨w.heap.size, 0, none⟩ = some (.int .i64 0) := ((j5 hb2).1 _ 0 hz1).trans g0; have k1 : w2.cell? ⟨w.heap.size, 1, none⟩ = some (.int .i64 0) := ((j5 hb2).1 _ 1 hz1).trans g1; have k2 : w2.cell? ⟨w.heap.size, 2, none⟩ = some (.string ⟨#[]⟩) := ((j5 hb2).1 _ 2 hz1).trans g2; have z2 : ∀ j, w2.frozen? ⟨w.heap.size, j, none⟩ = false := (fun j => ((j5 hb2).2 _ j hz1).trans (z0 j)); have hB2 := v6 (v7 (q9 hB1) hb2); clear hb2 g0 g1 g2 z0))
  refine bodyPost_ret (by simp [results, Tryz.results112, go_sem, k0, k1, k2] <;> rfl) rfl ⟨rfl, ?_⟩
  exact (((q9 hB2).setCell (by simp) _).setCell (by simp) _).setCell (by simp) _
set_option maxHeartbeats 1000000 in
set_option maxRecDepth 100000 in
theorem je5 (s : ByteArray) (hs : s.size ≤ 140737488355328) (en pl : Int) (hrd : qm5 s = .err en pl) (ev : Value) (w : World) (hE : ErrOk w) (hev : ∃ a n c, ev = .slice a n c) :
    Calls Tryz.prog 112 #[.string s, ev] w fun e w' => e = .returned (.tuple #[vV nV, .int .i64 en, .int .i64 pl]) ∧ Below w.heap.size w w' := by
  have RD := v6 (qr1 s (w.alloc (.cells #[.int .i64 0, .int .i64 0, .string ⟨#[]⟩] 118)) (hE.alloc _) hs)
  rw [hrd] at RD
  have hbl := (Below.refl w.heap.size w).alloc (Nat.le_refl _) (.cells #[.int .i64 0, .int .i64 0, .string ⟨#[]⟩] 118)
  obtain ⟨a, n, c, rfl⟩ := hev
  have hen : (en != 0) = true := by rcases qw5 hrd with h | h | h | h <;> rw [h] <;> rfl
  have hen' : (en == 0) = false := by rcases qw5 hrd with h | h | h | h <;> rw [h] <;> rfl
  clear hrd hE
  go_enter Tryz.func112, Tryz.ntmps112
  go_wp2_with (first | (go_at_call 31; refine (q9 RD).mono ?_; rintro e w1 ⟨hb1, rfl⟩; have hz1 : w.heap.size < w1.heap.size := (by have := hb1.size; simp at this; omega); have g0 : w1.cell? ⟨w.heap.size, 0, none⟩ = some (.int .i64 0) := ((j5 hb1).1 _ 0 (by simp)).trans (by simp); have g1 : w1.cell? ⟨w.heap.size, 1, none⟩ = some (.int .i64 0) := ((j5 hb1).1 _ 1 (by simp)).trans (by simp); have g2 : w1.cell? ⟨w.heap.size, 2, none⟩ = some (.string ⟨#[]⟩) := ((j5 hb1).1 _ 2 (by simp)).trans (by simp); have z0 : ∀ j, w1.frozen? ⟨w.heap.size, j, none⟩ = false := (fun j => ((j5 hb1).2 _ j (by simp)).trans (by simp)); have hB1 := v6 (v7 hbl hb1); clear hb1))
  refine bodyPost_ret (by simp [results, Tryz.results112, go_sem, g0, g1, g2] <;> rfl) rfl ⟨rfl, ?_⟩
  exact (((q9 hB1).setCell (by simp) _).setCell (by simp) _).setCell (by simp) _
structure Ans where
  val : V
  errno : Int
  place : Int
def je3 (s : ByteArray) (ps : List Pr) : Ans := match qm5 s with
  | .err en pl => ⟨nV, en, pl⟩
  | .ok t => if ve6 ps then ⟨ofA ps t, 0, 0⟩ else ⟨nV, 7, 0⟩
theorem eval_any (s : ByteArray) (hs : s.size ≤ 140737488355328) (ps : List Pr) (ev : Value) (w : World) (hE : ErrOk w) (hev : EvIn w ev ps) (hg : EvGood ps) :
    Calls Tryz.prog 112 #[.string s, ev] w fun e w' => e = .returned (.tuple #[vV (je3 s ps).val, .int .i64 (je3 s ps).errno, .int .i64 (je3 s ps).place]) ∧ Below w.heap.size w w' := by
  unfold je3
  cases hrd : qm5 s with
  | err en pl => exact je5 s hs en pl hrd ev w hE hev.slice
  | ok t =>
    cases hok : ve6 ps with
    | true => exact js3 s hs t hrd ps ev w hE hev hg hok
    | false => exact je4 s hs t hrd ps ev w hE hev hg hok
end
section
attribute [local go_sem ↓] qc8
def qn3 (ms : List Mg) : List Value := ms.flatMap fun m => [.int .i64 m.pri, .int .i64 m.num]
theorem qz0 (ms : List Mg) : (qn3 ms).length = ms.length * 2 := by
  induction ms with
  | nil => rfl
  | cons t ts ih => rw [qn3, List.flatMap_cons, List.length_append, ← qn3, ih]; simp; omega
theorem qz3 {ms : List Mg} {i : Nat} {m : Mg} (h : ms[i]? = some m) : (qn3 ms)[i * 2]? = some (.int .i64 m.pri) ∧ (qn3 ms)[i * 2 + 1]? = some (.int .i64 m.num) := by
  induction ms generalizing i with
  | nil => simp at h
  | cons t ts ih =>
    rw [qn3, List.flatMap_cons, ← qn3]
    cases i with
    | zero =>
      simp at h
      subst h
      exact ⟨rfl, rfl⟩
    | succ i =>
      have := ih (by simpa using h)
      rw [List.getElem?_append_right (by show 2 ≤ _; omega), List.getElem?_append_right (by show 2 ≤ _; omega), show (i + 1) * 2 - [Value.int .i64 t.pri, Value.int .i64 t.num].length = i * 2 by show _ - 2 = _; omega, show (i + 1) * 2 + 1 - [Value.int .i64 t.pri, Value.int .i64 t.num].length = i * 2 + 1 by show _ - 2 = _; omega]
      exact this
theorem info_mg : (Tryz.prog.info? 102).map (fun i => (i.zero, i.size, i.bytes)) = some (some (.agg #[.int .i64 0, .int .i64 0]), 2, 16) := by kernel_rfl
structure HqAt (w : World) (hb ho : Nat) (v : Value) (base : Nat) (ms : List Mg) : Prop where
  c : w.cell? ⟨hb, ho, none⟩ = some v
  fz : w.frozen? ⟨hb, ho, none⟩ = false
  lt : hb < w.heap.size
  own : w.ownsRow base 102 2 v ms.length (qn3 ms)
  ne : v.ownBlock ≠ some hb
theorem HqAt.form {w : World} {hb ho : Nat} {v : Value} {base : Nat} {ms : List Mg} (h : HqAt w hb ho v base ms) : ∃ a c, v = .slice a ms.length c := by
  rcases h.own.2 with ⟨rfl, hn⟩ | ⟨g, cap, cur, rfl, _⟩
  · exact ⟨none, 0, by rw [hn]⟩
  · exact ⟨_, _, rfl⟩
theorem HqAt.hp {w : World} {hb ho base g cap n : Nat} {ms : List Mg} (h : HqAt w hb ho (.slice (some ⟨g, 0, none⟩) n cap) base ms) : HpAt w hb ho g cap ms ∧ base ≤ g ∧ n = ms.length := by
  have h0 := h.own
  rcases h.own.2 with ⟨hv, _⟩ | ⟨g', cap', cur, hv, hbg, hgg, hnc, hcm, hcs, _⟩
  · simp at hv
  · simp at hv
    obtain ⟨rfl, rfl, rfl⟩ := hv
    have hadd : ∀ j, (⟨g, 0, none⟩ : Addr).add j = ⟨g, j, none⟩ := fun j => by unfold Addr.add; split <;> simp_all
    refine ⟨⟨h.c, h.fz, fun e => h.ne (by rw [e]; rfl), h.lt, (Array.getElem?_eq_some_iff.1 hgg).1, fun i m hm => ?_, fun j => by simp [World.frozen?, hgg], ⟨hcm, cur, hgg, hcs⟩, hnc⟩, hbg, rfl⟩
    have h1 := World.ownsRow.cells h0 (g := g) rfl (i * 2) _ (qz3 hm).1
    have h2 := World.ownsRow.cells h0 (g := g) rfl (i * 2 + 1) _ (qz3 hm).2
    rw [hadd] at h1 h2
    exact ⟨h1, h2⟩
theorem HpAt.hq {w : World} {hb ho g cap base : Nat} {ms : List Mg} (h : HpAt w hb ho g cap ms) (hg : base ≤ g) : HqAt w hb ho (.slice (some ⟨g, 0, none⟩) ms.length cap) base ms := by
  obtain ⟨hm, cur, hh, hsz⟩ := h.blk
  have hroom := h.room
  refine ⟨h.c, h.fz, h.lt, ⟨qz0 ms, .inr ⟨g, cap, cur, rfl, hg, hh, hroom, hm, hsz, ?_⟩⟩, fun e => h.ne (by simpa [Value.ownBlock] using e)⟩
  apply List.ext_getElem?
  intro j
  have hcell : ∀ j, w.cell? ⟨g, j, none⟩ = cur[j]? := fun j => cell_of_row w g j cur _ _ hh
  rw [List.getElem?_take]
  by_cases hj : j < ms.length * 2
  · rw [if_pos hj]
    obtain ⟨m, hm⟩ : ∃ m, ms[j / 2]? = some m := ⟨_, List.getElem?_eq_getElem (by omega)⟩
    obtain ⟨h1, h2⟩ := h.pri _ m hm
    obtain ⟨k1, k2⟩ := qz3 hm
    rw [hcell] at h1 h2
    rcases Nat.mod_two_eq_zero_or_one j with h0 | h0
    · have e : j / 2 * 2 = j := by omega
      rw [e] at h1 k1
      rw [k1, ← h1]
      simp
    · have e : j / 2 * 2 + 1 = j := by omega
      rw [e] at h2 k2
      rw [k2, ← h2]
      simp
  · rw [if_neg hj, List.getElem?_eq_none (by rw [qz0]; omega)]
structure PqKept (hb ho : Nat) (v v' : Value) (w w' : World) : Prop where
  os : w'.os = w.os
  tape : w'.tape = w.tape
  output : w'.output = w.output
  size : w.heap.size ≤ w'.heap.size
  block : ∀ k, k < w.heap.size → k ≠ hb → v.ownBlock ≠ some k → w'.heap[k]? = w.heap[k]?
  hdr : w'.heap[hb]? = (w.setCell ⟨hb, ho, none⟩ v').heap[hb]?
  row : ∀ k, v'.ownBlock = some k → v.ownBlock = some k ∨ w.heap.size ≤ k
theorem PqKept.next {hb ho g : Nat} {v v' : Value} {w W w' : World} (h : PqKept hb ho v v' w W) (hk : Kept g W w') (hg : v.ownBlock = some g ∨ w.heap.size ≤ g) (hne : g ≠ hb) (hlt : hb < w.heap.size) : PqKept hb ho v v' w w' := by
  have hz := h.size
  refine ⟨hk.os.trans h.os, hk.tape.trans h.tape, hk.output.trans h.output, Nat.le_trans h.size hk.size, fun k h1 h2 h3 => (hk.block k (by omega) (fun e => ?_)).trans (h.block k h1 h2 h3), (hk.block hb (by omega) (fun e => hne e.symm)).trans h.hdr, h.row⟩
  rcases hg with hg | hg
  · exact h3 (by rw [hg, e])
  · omega
set_option maxHeartbeats 400000 in
theorem hlen_any (hb ho base : Nat) (v : Value) (ms : List Mg) (w : World) (h : HqAt w hb ho v base ms) : Calls Tryz.prog 43 #[.pointer (some ⟨hb, ho, none⟩)] w fun e w' => e = .returned (.int .i64 ms.length) ∧ w' = w := by
  have c := h.c
  obtain ⟨a, cp, rfl⟩ := h.form
  clear h
  go_enter Tryz.func43, Tryz.ntmps43
  go_wp2_with fail
  go_ret
  exact ⟨rfl, rfl⟩
theorem HqAt.app {w : World} {hb ho base : Nat} {v : Value} {ms : List Mg} (h : HqAt w hb ho v base ms) (hbase : base ≤ w.heap.size) (hn : ms.length ≤ 1000) (m : Mg) (o : Obj) :
    ∃ g cap w5, (qm1 #[79, 79] 79 #[v, .slice (some ⟨w.heap.size + 1, 0, none⟩) 1 1]).run Tryz.prog ((w.alloc o).alloc (.cells #[.int .i64 m.pri, .int .i64 m.num] 102)).drew = .ok (.slice (some ⟨g, 0, none⟩) (ms.length + 1) cap) w5 ∧
      w5.cell? ⟨hb, ho, none⟩ = some v ∧ w5.frozen? ⟨hb, ho, none⟩ = false ∧ hb < w5.heap.size ∧
      Hid (HpAt (w5.setCell ⟨hb, ho, none⟩ (.slice (some ⟨g, 0, none⟩) (ms.length + 1) cap)) hb ho g cap (ms ++ [m])) ∧ Hid (base ≤ g) ∧
      Hid (PqKept hb ho v (.slice (some ⟨g, 0, none⟩) (ms.length + 1) cap) w (w5.setCell ⟨hb, ho, none⟩ (.slice (some ⟨g, 0, none⟩) (ms.length + 1) cap))) := by
  obtain ⟨i0, hi, hz0, hz1, hz2⟩ := info_parts info_mg
  have hlt := h.lt
  have hB : Below w.heap.size w (w.alloc o) := (Below.refl _ _).alloc (Nat.le_refl _) o
  obtain ⟨g, cap, w5, hr, hown, hgrow, hat, hlt5⟩ := run_append_lies (P := Tryz.prog) ((w.alloc o).alloc (.cells #[.int .i64 m.pri, .int .i64 m.num] 102)).drew 79 79 base 102 i0 _ 2 16 Tryz.underlying79 hi hz0 hz1 hz2 rfl (by omega) v ms.length (qn3 ms) (World.ownsRow.alloc (World.ownsRow.alloc h.own o) _)
    ⟨w.heap.size + 1, 0, none⟩ 1 1 [.int .i64 m.pri, .int .i64 m.num] rfl (World.news_of_block (cs := #[.int .i64 m.pri, .int .i64 m.num]) (t := 102) (fr := (0, 0)) (by have := heap_alloc_new (w.alloc o) (.cells #[.int .i64 m.pri, .int .i64 m.num] 102); rw [show (w.alloc o).heap.size = w.heap.size + 1 by simp] at this; exact this)) (by simp [Value.oneCell']) (by omega) (by unfold maxLen; omega) (by omega) (by simp; omega) _ rfl
  have hz := hgrow.size
  simp at hz hat
  have hold : ∀ k, k < w.heap.size → v.ownBlock ≠ some k → w5.heap[k]? = w.heap[k]? := fun k hk hne =>
    (hgrow.block k (by simp; omega) (fun e => hne e.symm)).trans ((Below.heap_alloc (w.alloc o) _ k (by simp; omega)).trans (Below.heap_alloc w o k hk))
  have hhb := hold hb hlt h.ne
  have c5 : w5.cell? ⟨hb, ho, none⟩ = some v := (World.cell?_of_block (w := w) (w' := w5) (a := ⟨hb, ho, none⟩) hhb).trans h.c
  have f5 : w5.frozen? ⟨hb, ho, none⟩ = false := (World.frozen?_of_block (w := w) (w' := w5) (a := ⟨hb, ho, none⟩) hhb).trans h.fz
  have hgne : g ≠ hb := by
    rcases hat with hat | hat
    · intro e; rw [e] at hat; exact h.ne hat
    · omega
  have hown' : (w5.setCell ⟨hb, ho, none⟩ (.slice (some ⟨g, 0, none⟩) (ms.length + 1) cap)).ownsRow base 102 2 (.slice (some ⟨g, 0, none⟩) (ms.length + 1) cap) (ms ++ [m]).length (qn3 (ms ++ [m])) := by
    rw [List.length_append, List.length_singleton, qn3, List.flatMap_append, List.flatMap_singleton]
    exact ownsRow_setCell_other hown (fun e => hgne (by simpa [Value.ownBlock] using e)) _
  have hq : HqAt (w5.setCell ⟨hb, ho, none⟩ (.slice (some ⟨g, 0, none⟩) (ms.length + 1) cap)) hb ho (.slice (some ⟨g, 0, none⟩) (ms.length + 1) cap) base (ms ++ [m]) :=
    ⟨by simp [go_sem, c5], by simp [go_sem, f5], by simp; omega, hown', fun e => hgne (by simpa [Value.ownBlock] using e)⟩
  obtain ⟨hp, hbg, _⟩ := hq.hp
  refine ⟨g, cap, w5, hr, c5, f5, by omega, v6 hp, v6 hbg, v6 ⟨hgrow.os, hgrow.tape, hgrow.output, by simp; omega, fun k hk h1 h2 => ?_, ?_, fun k hk => ?_⟩⟩
  · exact (Below.heap_setCell w5 ⟨hb, ho, none⟩ _ k (by show k ≠ hb; exact h1)).trans (hold k hk h2)
  · simp only [World.setCell, Array.getElem?_modify]
    rw [hhb]
  · have e : g = k := by simpa [Value.ownBlock] using hk
    subst e
    rcases hat with hat | hat
    · exact .inl hat
    · exact .inr (by omega)
def vn8 (ms : List Mg) (m : Mg) : List Mg := ji2 (ms ++ [m]) ms.length
theorem vf0 (n : Nat) : ∀ (ms : List Mg) (k : Nat), (vf7 n ms k).length = ms.length := by
  induction n with
  | zero => intro ms k; rfl
  | succ n ih =>
    intro ms k
    cases k with
    | zero => rfl
    | succ k =>
      rw [vf7]
      split
      · split
        · rw [ih]; simp
        · rfl
      · rfl
theorem ja2 (ms : List Mg) (m : Mg) : (vn8 ms m).length = ms.length + 1 := by
  rw [vn8, ji2, vf0]; simp
set_option maxHeartbeats 1000000 in
theorem push_any (hb ho base : Nat) (v : Value) (ms : List Mg) (m : Mg) (hn : ms.length ≤ 90) (w : World) (h : HqAt w hb ho v base ms) (hbase : base ≤ w.heap.size) :
    Calls Tryz.prog 44 #[.pointer (some ⟨hb, ho, none⟩), mgV m] w fun e w' => ∃ v', e = .returned (.tuple #[]) ∧ HqAt w' hb ho v' base (vn8 ms m) ∧ PqKept hb ho v v' w w' := by
  obtain ⟨g, cap, w5, hap, c5, f5, lt5, HP, HG, HK⟩ := h.app hbase (by omega) m (.cells #[.int .i64 m.pri, .int .i64 m.num] 102)
  have c := h.c
  have fz := h.fz
  have lt := h.lt
  have hlt1 : hb < w.heap.size + 1 := by omega
  have RI : Hid _ := v6 (rise_any hb ho g cap (ms ++ [m]) ms.length (by simp) (by simp; omega) _ (q9 HP))
  have HLT := v6 h.lt
  have HGS : Hid (v.ownBlock = some g ∨ w.heap.size ≤ g) := v6 ((q9 HK).row g rfl)
  have HNE : Hid (g ≠ hb) := v6 (q9 HP).ne
  obtain ⟨a, cp, rfl⟩ := h.form
  obtain ⟨n, hnl⟩ : ∃ n, ms.length = n := ⟨_, rfl⟩
  rw [hnl] at hap RI c HP HK HGS c5 ⊢
  have HN := v6 hnl
  rw [hnl] at hn
  have hw : IntKind.i64.wrap (((n + 1 : Nat) : Int) - 1) = (n : Int) := by rw [IntKind.wrap_i64]; omega
  have hw' : (((n + 1 : Nat) : Int) - 1) = (n : Int) := by omega
  unfold mgV
  clear h hnl
  go_enter Tryz.func44, Tryz.ntmps44
  go_wp2_with fail
  go_region
  all_goals go_wp2_with (go_at_call 71; refine (q9 RI).mono ?_; rintro e w6 ⟨rfl, h6, k6⟩; have H6 := v6 h6; have K6 := v6 k6; clear h6 k6)
  all_goals
    refine bodyPost_end (results_none rfl _ _ _) rfl ⟨.slice (some ⟨g, 0, none⟩) (n + 1) cap, rfl, ?_, (q9 HK).next (q9 K6) (q9 HGS) (q9 HNE) (q9 HLT)⟩
    have hq := (q9 H6).hq (q9 HG)
    have hl : (ji2 (ms ++ [m]) n).length = n + 1 := by rw [ji2, vf0]; simp [q9 HN]
    rw [hl] at hq
    have e : vn8 ms m = ji2 (ms ++ [m]) n := by rw [vn8, q9 HN]
    rw [e]
    exact hq
end
section
def jh5 (ms : List Mg) (b f : Nat) : Nat := match ms[b]?, ms[f]? with
  | some x, some y => if bef x y then b else f
  | _, _ => f
def qm3 (ms : List Mg) : Nat → Nat → Nat → Nat
  | 0, _, f => f
  | n + 1, b, f => if b < ms.length then qm3 ms n (b + 1) (jh5 ms b f) else f
def qu8 (ms : List Mg) (k : Nat) : Nat := qm3 ms 2 (2 * k + 1) k
theorem pickM_or (ms : List Mg) (b f : Nat) : jh5 ms b f = b ∨ jh5 ms b f = f := by
  unfold jh5
  split
  · split <;> simp
  · exact .inr rfl
theorem firstG_or (ms : List Mg) (n : Nat) : ∀ (b f : Nat), qm3 ms n b f = f ∨ (b ≤ qm3 ms n b f ∧ qm3 ms n b f < b + n ∧ qm3 ms n b f < ms.length) := by
  induction n with
  | zero => intro b f; exact .inl rfl
  | succ n ih =>
    intro b f
    rw [qm3]
    by_cases hb : b < ms.length
    · rw [if_pos hb]
      rcases ih (b + 1) (jh5 ms b f) with h | h
      · rw [h]
        rcases pickM_or ms b f with hp | hp
        · rw [hp]; exact .inr ⟨Nat.le_refl _, by omega, hb⟩
        · rw [hp]; exact .inl rfl
      · exact .inr ⟨by omega, by omega, h.2.2⟩
    · rw [if_neg hb]
      exact .inl rfl
theorem firstL_or (ms : List Mg) (k : Nat) : qu8 ms k = k ∨ (k < qu8 ms k ∧ qu8 ms k < ms.length) := by
  rcases firstG_or ms 2 (2 * k + 1) k with h | h
  · exact .inl h
  · exact .inr ⟨by unfold qu8; omega, h.2.2⟩
set_option maxHeartbeats 1000000 in
set_option maxRecDepth 100000 in
theorem vq1 (hb ho g cap : Nat) (ms : List Mg) (k : Nat) (hk : k ≤ 200) (hn : ms.length ≤ 100) (w : World) (h : HpAt w hb ho g cap ms) :
    Calls Tryz.prog 110 #[.pointer (some ⟨hb, ho, none⟩), .int .i64 k] w fun e w' => e = .returned (.int .i64 (qu8 ms k : Nat)) ∧ Below w.heap.size w w' := by
  obtain ⟨R, hR⟩ : ∃ R, qu8 ms k = R := ⟨_, rfl⟩
  rw [hR]
  have HR : Hid (R = qm3 ms 2 (2 * k + 1) k) := v6 hR.symm
  have H0 := v6 h
  clear hR h
  go_enter Tryz.func110, Tryz.ntmps110
  go_wp2_with fail
  go_loopw [5, 6] (fun f i wr => ∃ (b n f' : Nat), i = .int .i64 b ∧ f = .int .i64 f' ∧ b + n = 2 * k + 3 ∧ f' < b ∧ Hid (R = qm3 ms n b f') ∧ Hid (Below w.heap.size w wr)) (fun _ i _ => 2 * k + 3 - (intOf i).toNat)
  case atStart => exact ⟨2 * k + 1, 2, k, by simp, rfl, by omega, by omega, HR, v6 (Below.refl _ _)⟩
  case round =>
    obtain ⟨b, n, f, rfl, rfl, hbn, hfb, HR', HB⟩ := hrel
    have HH := v6 ((q9 H0).below (q9 HB))
    have c := (q9 HH).c
    obtain ⟨m, hm⟩ : ∃ m, ms.length = m := ⟨_, rfl⟩
    rw [hm] at c hn
    have HM := v6 hm
    clear hm
    cases n with
    | zero =>
      have hd : decide ((b : Int) ≤ 2 * (k : Int) + 2) = false := decide_eq_false (by omega)
      go_wp2_with fail
      go_ret
      exact ⟨by rw [q9 HR']; rfl, q9 HB⟩
    | succ n =>
      have hd : decide ((b : Int) ≤ 2 * (k : Int) + 2) = true := decide_eq_true (by omega)
      by_cases hbm : b < m
      · obtain ⟨x, hx⟩ : ∃ x, ms[b]? = some x := ⟨_, List.getElem?_eq_getElem (by have := q9 HM; omega)⟩
        obtain ⟨y, hy⟩ : ∃ y, ms[f]? = some y := ⟨_, List.getElem?_eq_getElem (by have := q9 HM; omega)⟩
        have hd2 : decide ((b : Int) < (m : Int)) = true := decide_eq_true (by omega)
        have BE := v6 (vp5 hb ho g cap ms b f x y hx hy wr (q9 HH))
        cases hbef : bef x y with
        | true =>
          rw [hbef] at BE
          have hS : Hid (qm3 ms (n + 1) b f = qm3 ms n (b + 1) b) := v6 (by rw [qm3, if_pos (by have := q9 HM; omega)]; congr 1; unfold jh5; rw [hx, hy]; simp [hbef])
          clear hx hy
          go_wp2_with (go_at_call 107; refine (q9 BE).mono ?_; rintro e w2 ⟨rfl, hb2⟩; have B2 := v6 (v7 (q9 HB) hb2); clear hb2)
          exact ⟨⟨b + 1, n, b, by simp, rfl, by omega, by omega, v6 (by rw [q9 HR', q9 hS]), B2⟩, by simp [intOf]; omega⟩
        | false =>
          rw [hbef] at BE
          have hS : Hid (qm3 ms (n + 1) b f = qm3 ms n (b + 1) f) := v6 (by rw [qm3, if_pos (by have := q9 HM; omega)]; congr 1; unfold jh5; rw [hx, hy]; simp [hbef])
          clear hx hy
          go_wp2_with (go_at_call 107; refine (q9 BE).mono ?_; rintro e w2 ⟨rfl, hb2⟩; have B2 := v6 (v7 (q9 HB) hb2); clear hb2)
          exact ⟨⟨b + 1, n, f, by simp, rfl, by omega, by omega, v6 (by rw [q9 HR', q9 hS]), B2⟩, by simp [intOf]; omega⟩
      · have hd2 : decide ((b : Int) < (m : Int)) = false := decide_eq_false (by omega)
        have hS : Hid (qm3 ms (n + 1) b f = f) := v6 (by rw [qm3, if_neg (by have := q9 HM; omega)])
        go_wp2_with fail
        go_ret
        exact ⟨by rw [q9 HR', q9 hS]; rfl, q9 HB⟩
def vk6 : Nat → List Mg → Nat → List Mg
  | 0, ms, _ => ms
  | n + 1, ms, k => if qu8 ms k = k then ms else match ms[k]?, ms[qu8 ms k]? with
    | some x, some y => vk6 n ((ms.set k y).set (qu8 ms k) x) (qu8 ms k)
    | _, _ => ms
def ja7 (ms : List Mg) (k : Nat) : List Mg := vk6 (ms.length + 1) ms k
set_option maxHeartbeats 1000000 in
set_option maxRecDepth 100000 in
theorem sink_any (hb ho g cap : Nat) (ms : List Mg) (hn : ms.length ≤ 100) (w : World) (h : HpAt w hb ho g cap ms) :
    Calls Tryz.prog 72 #[.pointer (some ⟨hb, ho, none⟩), .int .i64 0] w fun e w' => e = .returned (.tuple #[]) ∧ HpAt w' hb ho g cap (ja7 ms 0) ∧ Kept g w w' := by
  obtain ⟨R, hR⟩ : ∃ R, ja7 ms 0 = R := ⟨_, rfl⟩
  rw [hR]
  have HR : Hid (R = vk6 (ms.length + 1) ms 0) := v6 hR.symm
  have H0 := v6 h
  have F0 := v6 (vq1 hb ho g cap ms 0 (by omega) hn w h)
  have HN0 : Hid (ms.length ≤ 100) := v6 hn
  clear hR h hn
  go_enter Tryz.func72, Tryz.ntmps72
  go_wp2_with (go_at_call 110; refine (q9 F0).mono ?_; rintro e w1 ⟨rfl, hb1⟩; have B1 := v6 hb1; clear hb1)
  go_loopw [1, 4] (fun i nx wr => ∃ (k n : Nat) (ms' : List Mg), i = .int .i64 k ∧ nx = .int .i64 (qu8 ms' k : Nat) ∧ k ≤ 100 ∧ Hid (R = vk6 n ms' k) ∧ Hid (k = 0 ∨ k < ms'.length) ∧ Hid (ms'.length < k + n) ∧ Hid (ms'.length ≤ 100) ∧ Hid (HpAt wr hb ho g cap ms') ∧ Hid (Kept g w wr)) (fun i _ _ => 200 - (intOf i).toNat)
  case atStart => exact ⟨0, ms.length + 1, ms, rfl, rfl, by omega, HR, v6 (.inl rfl), v6 (by omega), HN0, v6 ((q9 H0).below (q9 B1)), v6 (Kept.of_below (q9 B1))⟩
  case round =>
    obtain ⟨k, n, ms', rfl, rfl, hk, HR', HK0, HKN, HN, HH, HK⟩ := hrel
    have hfo := firstL_or ms' k
    obtain ⟨f, hf⟩ : ∃ f, qu8 ms' k = f := ⟨_, rfl⟩
    rw [hf] at hfo ⊢
    by_cases hfk : f = k
    · subst hfk
      have hS : Hid (vk6 n ms' f = ms') := v6 (by cases n with
        | zero => rfl
        | succ n => rw [vk6, if_pos hf])
      clear hf hfo
      go_wp2_with fail
      exact bodyPost_end (results_none rfl _ _ _) rfl ⟨rfl, by rw [q9 HR', q9 hS]; exact q9 HH, q9 HK⟩
    · have hlt : k < f ∧ f < ms'.length := by omega
      obtain ⟨n', rfl⟩ : ∃ n', n = n' + 1 := ⟨n - 1, by have := q9 HKN; omega⟩
      obtain ⟨x, hx⟩ : ∃ x, ms'[k]? = some x := ⟨_, List.getElem?_eq_getElem (by omega)⟩
      obtain ⟨y, hy⟩ : ∃ y, ms'[f]? = some y := ⟨_, List.getElem?_eq_getElem hlt.2⟩
      have hS : Hid (vk6 (n' + 1) ms' k = vk6 n' ((ms'.set k y).set f x) f) := v6 (by rw [vk6, hf, if_neg hfk, hx, hy])
      have hlen : Hid (((ms'.set k y).set f x).length = ms'.length) := v6 (by simp)
      have SW := v6 (jp2 hb ho g cap ms' k f x y hx hy (by omega) wr (q9 HH))
      have hfl : f ≤ 100 := by have := q9 HN; omega
      have hne : ((f : Int) != (k : Int)) = true := by simp; omega
      have HLT := v6 hlt
      obtain ⟨ms2, hms2⟩ : ∃ ms2, (ms'.set k y).set f x = ms2 := ⟨_, rfl⟩
      rw [hms2] at SW hS hlen
      have FI : Hid (∀ w1, HpAt w1 hb ho g cap ms2 → _) := v6 fun w1 h1 => vq1 hb ho g cap ms2 f (by omega) (by have := q9 hlen; have := q9 HN; omega) w1 h1
      clear hf hfo hlt hx hy hms2
      go_wp2_with (first | (go_at_call 109; refine (q9 SW).mono ?_; rintro e w3 ⟨rfl, hh3, hk3⟩; have H3 := v6 hh3; have K3 := v6 ((q9 HK).trans hk3); clear hh3 hk3) | (go_at_call 110; refine (q9 FI _ (q9 H3)).mono ?_; rintro e w4 ⟨rfl, hb4⟩; have H4 := v6 ((q9 H3).below hb4); have K4 := v6 ((q9 K3).trans (Kept.of_below hb4)); clear hb4))
      exact ⟨⟨f, n', ms2, rfl, rfl, hfl, v6 (by rw [q9 HR', q9 hS]), v6 (.inr (by have := q9 HLT; rw [q9 hlen]; omega)), v6 (by have := q9 HKN; have := q9 HLT; rw [q9 hlen]; omega), v6 (by rw [q9 hlen]; exact q9 HN), H4, K4⟩, by have := q9 HLT; simp [intOf]; omega⟩
end
end Go.Proofs.YtfkcaldjphakpabGreatDoor
