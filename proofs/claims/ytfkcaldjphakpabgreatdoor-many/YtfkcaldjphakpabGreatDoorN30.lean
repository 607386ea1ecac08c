/- A broker that was made since, and two rows beside it. Served: what its calls do to the broker. Many: what its calls do to the broker. Many: where it stands. Many of any number and any text. -/
import Derived.Test.YtfkcaldjphakpabGreatDoorN29
import Derived.Test.YtfkcaldjphakpabGreatDoorN24
namespace Go.Proofs.YtfkcaldjphakpabGreatDoor
open Go.RowKit

section
structure SvF (w0 : World) (F : Nat → Prop) (w : World) (bb : Nat) (last : Int) (L : List Su) (wv hv : Value) (ws ns : List Int) : Prop where
  br : Br w F bb last L
  new : ∀ k, F k → w0.heap.size ≤ k
  below : Below w0.heap.size w0 w
  ws : ZsAt w w0.heap.size wv ws
  ns : ZsAt w w0.heap.size hv ns
  wF : ∀ k, wv.ownBlock = some k → ¬ F k
  nF : ∀ k, hv.ownBlock = some k → ¬ F k
  ne : ∀ k, wv.ownBlock = some k → hv.ownBlock ≠ some k
def SvAt (w0 w : World) (bb : Nat) (last : Int) (L : List Su) (wv hv : Value) (ws ns : List Int) : Prop := ∃ F, SvF w0 F w bb last L wv hv ws ns

theorem SvF.op {w0 : World} {F F' : Nat → Prop} {w w' : World} {bb : Nat} {last last' : Int} {L L' : List Su} {wv hv : Value} {ws ns : List Int} (h : SvF w0 F w bb last L wv hv ws ns) (hg : Grow F w w') (hF' : ∀ k, F' k → upF F w w' k) (hb : Br w' F' bb last' L') : SvAt w0 w' bb last' L' wv hv ws ns := by
  have hz := h.below.size
  refine ⟨F', hb, fun k hk => ?_, ⟨hg.os.trans h.below.os, hg.tape.trans h.below.tape, hg.output.trans h.below.output, Nat.le_trans hz hg.size, fun k hk => (hg.block k (by omega) (fun e => by have := h.new k e; omega)).trans (h.below.block k hk)⟩, ownsRow_same h.ws fun k hk => hg.block k (h.ws.lt k hk).2 (h.wF k hk), ownsRow_same h.ns fun k hk => hg.block k (h.ns.lt k hk).2 (h.nF k hk), fun k hk e => ?_, fun k hk e => ?_, h.ne⟩
  · rcases hF' k hk with e | e
    · exact h.new k e
    · omega
  · rcases hF' k e with e | e
    · exact h.wF k hk e
    · have := (h.ws.lt k hk).2; omega
  · rcases hF' k e with e | e
    · exact h.nF k hk e
    · have := (h.ns.lt k hk).2; omega
theorem SvAt.keep {w0 w w' : World} {bb : Nat} {last : Int} {L : List Su} {wv hv : Value} {ws ns : List Int} (h : SvAt w0 w bb last L wv hv ws ns) (hb : Below w.heap.size w w') : SvAt w0 w' bb last L wv hv ws ns := by
  obtain ⟨F, hf⟩ := h
  exact hf.op (F' := F) (Grow.of_below hb) (fun k hk => .inl hk) (hf.br.below hb)
theorem ZsAt.cell {w : World} {base : Nat} {v : Value} {l : List Int} (h : ZsAt w base v l) {i : Nat} {x : Int} (hi : l[i]? = some x) : ∃ g c, v = .slice (some ⟨g, 0, none⟩) l.length c ∧ w.cell? ⟨g, i, none⟩ = some (.int .i64 x) := by
  rcases row_forms h with ⟨_, h0⟩ | ⟨g, c, rfl⟩
  · have := (List.getElem?_eq_some_iff.1 hi).1
    omega
  · refine ⟨g, c, rfl, ?_⟩
    have := World.ownsRow.cells h (g := g) rfl i (.int .i64 x) (by simp [zCells, hi])
    rwa [addr_off, Nat.zero_add] at this

/-- A broker that has just been made. -/
theorem br_new (w : World) : SvAt w (w.alloc (.cells #[.int .i64 0, .slice none 0 0, .slice none 0 0, .slice none 0 0] 67)) w.heap.size 0 [] (.slice none 0 0) (.slice none 0 0) [] [] := by
  refine ⟨fun k => k = w.heap.size, ⟨fun k hk => by simp; omega, .slice none 0 0, .slice none 0 0, .slice none 0 0, [], ⟨?_, World.ownsRow_nil _ _ _ _, ⟨TsAt.nil _ _, IsAt.nil _ _, fun g hg => by simp [Value.ownBlock] at hg⟩, fun x hx => by simp at hx, List.Pairwise.nil, fun x hx => by simp at hx, fun x hx => by simp at hx, List.Pairwise.nil, Nat.zero_le _, fun x hx => by simp at hx, ⟨Nat.zero_le _, Nat.zero_le _, fun i t h => by simp [tsX, addK] at h, fun r hr => by simp [rsX, addK] at hr⟩⟩, rfl, fun k hk => ?_⟩, fun k hk => by omega, below1 _ _, ZsAt.nil _ _, ZsAt.nil _ _, fun k hk => by simp [Value.ownBlock] at hk, fun k hk => by simp [Value.ownBlock] at hk, fun k hk => by simp [Value.ownBlock] at hk⟩
  · exact heap_alloc_new w _
  · rcases hk with (e | e | e | e | ⟨x, hx, _⟩) | ⟨x, hx, _⟩
    · exact e
    · simp [Value.ownBlock] at e
    · simp [Value.ownBlock] at e
    · simp [Value.ownBlock] at e
    · simp at hx
    · simp at hx
end

section
def trueT : List UInt8 := [84, 82, 85, 69]
def falseT : List UInt8 := [70, 65, 76, 83, 69]
def trueA : Ast := .leaf ⟨3, 0, 0, [], [], []⟩
def falseA : Ast := .leaf ⟨4, 0, 0, [], [], []⟩
def trueC : Co := .leaf ⟨3, 0, [], []⟩
def falseC : Co := .leaf ⟨4, 0, [], []⟩
set_option maxRecDepth 100000 in
theorem readTrue : readR (BS trueT) = .ok trueA := by kernel_rfl
set_option maxRecDepth 100000 in
theorem readFalse : readR (BS falseT) = .ok falseA := by kernel_rfl
theorem coreTrue : coreA trueA = trueC := by kernel_rfl
theorem coreFalse : coreA falseA = falseC := by kernel_rfl
theorem trueC_good : GoodC trueC := ⟨⟨by decide, by decide⟩, rng0, by decide, by decide⟩
theorem falseC_good : GoodC falseC := ⟨⟨by decide, by decide⟩, rng0, by decide, by decide⟩
theorem txTrue : TxOk trueT trueC := ⟨trueA, readTrue, coreTrue, fun h => absurd h (by simp [trueA, HasIn]), trueC_good, by decide, by decide⟩
theorem txFalse : TxOk falseT falseC := ⟨falseA, readFalse, coreFalse, fun h => absurd h (by simp [falseA, HasIn]), falseC_good, by decide, by decide⟩

/-- A subscription 7 with TRUE, one 9 with FALSE. -/
def s7 (ms : List Mg) : Su := ⟨7, trueC, ms⟩
def s9 : Su := ⟨9, falseC, []⟩
def L2 (ms : List Mg) : List Su := [s7 ms, s9]
section
variable {w0 w : World} {bb : Nat} {last : Int} {wv hv : Value} {ws ns : List Int}

end
end

section
/-- A term fits its place, to be reckoned. -/
def tfitB (i : Nat) (t : Tm) : Bool := decide (t.op ≤ 23) && decide (-9223372036854775808 ≤ t.num) && decide (t.num ≤ 9223372036854775807) && decide (t.str.length ≤ 200) && decide (t.esc.length ≤ 1) && (decide (t.op < 5) || (decide (t.left < i) && decide (t.right < i)))
def fitsAll : Nat → List Tm → Bool
  | _, [] => true
  | i, t :: r => tfitB i t && fitsAll (i + 1) r
theorem tfitB_fits {i : Nat} {t : Tm} (h : tfitB i t = true) : FitsT i t := by
  simp only [tfitB, Bool.and_eq_true, Bool.or_eq_true, decide_eq_true_eq] at h
  obtain ⟨⟨⟨⟨⟨h1, h2⟩, h3⟩, h4⟩, h5⟩, h6⟩ := h
  exact ⟨h1, ⟨h2, h3⟩, h4, h5, fun h7 => by rcases h6 with h6 | h6; omega; exact h6⟩
theorem fitsAll_fits : ∀ (ts : List Tm) (k : Nat), fitsAll k ts = true → ∀ i t, ts[i]? = some t → FitsT (k + i) t := by
  intro ts
  induction ts with
  | nil => intro k _ i t h; simp at h
  | cons a r ih =>
    intro k h i t hi
    simp only [fitsAll, Bool.and_eq_true] at h
    cases i with
    | zero => simp at hi; subst hi; exact tfitB_fits h.1
    | succ i =>
      have := ih (k + 1) h.2 i t (by simpa using hi)
      rwa [show k + (i + 1) = k + 1 + i by omega]
def prgB (p : List Tm × List Nat) : Bool := decide (p.1.length ≤ 80) && decide (p.2.length ≤ 8) && fitsAll 0 p.1 && p.2.all fun r => decide (r < p.1.length)
theorem prgB_prg {p : List Tm × List Nat} (h : prgB p = true) : Prg p.1 p.2 ∧ p.1.length ≤ 80 := by
  simp only [prgB, Bool.and_eq_true, decide_eq_true_eq, List.all_eq_true] at h
  obtain ⟨⟨⟨h1, h2⟩, h3⟩, h4⟩ := h
  refine ⟨⟨h1, h2, fun i t hi => ?_, h4⟩, h1⟩
  have := fitsAll_fits p.1 0 h3 i t hi
  rwa [Nat.zero_add] at this

theorem cores_rep {L : List Su} (h : ∀ x ∈ L, x.co = falseC) : L.map Su.co = List.replicate L.length falseC := by
  rw [List.eq_replicate_iff]
  refine ⟨List.length_map _, fun b hb => ?_⟩
  obtain ⟨x, hx, rfl⟩ := List.mem_map.1 hb
  exact h x hx
theorem false_all : (List.range 9).all (fun n => prgB (addK (List.replicate n falseC) n)) = true := by kernel_rfl
theorem false_prg {n : Nat} (h : n ≤ 8) : prgB (addK (List.replicate n falseC) n) = true := List.all_eq_true.1 false_all n (List.mem_range.2 (by omega))
theorem true_all : (List.range 8).all (fun p => prgB (addK (List.replicate p falseC ++ trueC :: List.replicate (7 - p) falseC) 8)) = true := by kernel_rfl
theorem true_prg {p : Nat} (h : p ≤ 7) : prgB (addK (List.replicate p falseC ++ trueC :: List.replicate (7 - p) falseC) 8) = true := List.all_eq_true.1 true_all p (List.mem_range.2 (by omega))

theorem insS_length (L : List Su) (k : Nat) (x : Su) : (insS L k x).length = L.length + 1 := by simp [insS]; omega
theorem insS_mem {L : List Su} {k : Nat} {x y : Su} : y ∈ insS L k x ↔ y = x ∨ y ∈ L := by
  unfold insS
  constructor
  · intro h
    rcases List.mem_append.1 h with h | h
    · exact .inr (List.mem_of_mem_take h)
    · rcases List.mem_cons.1 h with h | h
      · exact .inl h
      · exact .inr (List.mem_of_mem_drop h)
  · rintro (h | h)
    · exact List.mem_append.2 (.inr (List.mem_cons.2 (.inl h)))
    · rw [← List.take_append_drop k L] at h
      rcases List.mem_append.1 h with h | h
      · exact List.mem_append.2 (.inl h)
      · exact List.mem_append.2 (.inr (List.mem_cons.2 (.inr h)))
theorem placeS_le (L : List Su) (id : Int) : placeS L id ≤ L.length := List.countP_le_length

theorem ins_false {L : List Su} (h : ∀ x ∈ L, x.co = falseC) (hl : L.length < 8) (p : Nat) (id : Int) : PrgS (insS L p ⟨id, falseC, []⟩) ∧ (progS (insS L p ⟨id, falseC, []⟩)).1.length ≤ 80 := by
  have h' : ∀ x ∈ insS L p ⟨id, falseC, []⟩, x.co = falseC := fun x hx => by
    rcases insS_mem.1 hx with rfl | hx
    · rfl
    · exact h x hx
  unfold PrgS progS
  rw [cores_rep h']
  exact prgB_prg (false_prg (by rw [insS_length]; omega))
theorem del_false {L : List Su} (h : ∀ x ∈ L, x.co = falseC) (hl : L.length ≤ 8) : PrgS L := by
  unfold PrgS progS
  rw [cores_rep h]
  exact (prgB_prg (false_prg hl)).1
theorem ins_true {L : List Su} (h : ∀ x ∈ L, x.co = falseC) (hl : L.length = 7) {p : Nat} (hp : p ≤ 7) (id : Int) : PrgS (insS L p ⟨id, trueC, []⟩) ∧ (progS (insS L p ⟨id, trueC, []⟩)).1.length ≤ 80 := by
  have e : (insS L p ⟨id, trueC, []⟩).map Su.co = List.replicate p falseC ++ trueC :: List.replicate (7 - p) falseC := by
    unfold insS
    rw [List.map_append, List.map_cons]
    have h1 := cores_rep (L := L.take p) fun x hx => h x (List.mem_of_mem_take hx)
    have h2 := cores_rep (L := L.drop p) fun x hx => h x (List.mem_of_mem_drop hx)
    rw [h1, h2, List.length_take, List.length_drop, hl, Nat.min_eq_left hp]
  unfold PrgS progS
  rw [e, insS_length, hl]
  exact prgB_prg (true_prg hp)

/-- The numbers that Many hands in. -/
def idM (first : Int) (k : Nat) : Int := IntKind.i64.wrap (first + (k : Int) * 7)
theorem wrap_apart {x y : Int} (h1 : x ≠ y) (h2 : -1000 < x - y) (h3 : x - y < 1000) : IntKind.i64.wrap x ≠ IntKind.i64.wrap y := by
  rw [IntKind.wrap_i64, IntKind.wrap_i64]
  intro h
  have h4 : (x + 9223372036854775808) % 18446744073709551616 = (y + 9223372036854775808) % 18446744073709551616 := by omega
  have h5 := Int.emod_eq_emod_iff_emod_sub_eq_zero.1 h4
  rw [show x + 9223372036854775808 - (y + 9223372036854775808) = x - y by omega] at h5
  obtain ⟨d, hd⟩ : ∃ d, x - y = d := ⟨_, rfl⟩
  rw [hd] at h2 h3 h5
  have h6 : d ≠ 0 := by omega
  clear h4 h h1 hd
  omega
theorem idM_ne (first : Int) {i j : Nat} (hi : i < 8) (hj : j < 8) (h : i ≠ j) : idM first i ≠ idM first j := wrap_apart (by omega) (by omega) (by omega)
theorem idM_pre (first : Int) {j : Nat} (hj : j < 8) : idM first j ≠ IntKind.i64.wrap (first - 1) := wrap_apart (by omega) (by omega) (by omega)
theorem idM_3 (first : Int) : IntKind.i64.wrap (first + 21) = idM first 3 := by
  unfold idM
  rw [show ((3 : Nat) : Int) * 7 = 21 by decide]

structure FalseL (first : Int) (k : Nat) (L : List Su) : Prop where
  len : L.length = k
  co : ∀ x ∈ L, x.co = falseC
  ids : ∀ x ∈ L, ∃ j, j < k ∧ x.id = idM first j
  has : ∀ j, j < k → ∃ x ∈ L, x.id = idM first j
end

section
theorem TxRow.app {W W' : World} {base : Nat} {v : Value} {l : List (List UInt8)} (h : TxRow W base v l) (hb : base ≤ W.heap.size) (x : List UInt8) (hn : l.length ≤ 1000) (ty : TypeId) (H : Nat) (hH : W.heap.size = H) (hW : W' = W.alloc (.cells #[.string (BS x)] 9)) :
    ∃ g cap w5, (appSem #[30, 30] ty #[v, .slice (some ⟨H, 0, none⟩) 1 1]).run Tryz.prog W' = .ok (.slice (some ⟨g, 0, none⟩) (l.length + 1) cap) w5 ∧
      Hid (TxRow w5 base (.slice (some ⟨g, 0, none⟩) (l.length + 1) cap) (l ++ [x])) ∧ Hid (W.grownBy w5 v.ownBlock) ∧ Hid (v.ownBlock = some g ∨ W.heap.size ≤ g) := by
  subst hH hW
  obtain ⟨i0, hi, hz0, hz1, hz2⟩ := info_parts info_strg
  have ha := World.ownsRow.alloc h (.cells #[.string (BS x)] 9)
  obtain ⟨g, cap, w5, hr, hown, hgrow, hat, _⟩ := run_append_lies (P := Tryz.prog) (W.alloc (.cells #[.string (BS x)] 9)) 30 ty base 9 i0 _ 1 16 Tryz.underlying30 hi hz0 hz1 hz2 rfl (by omega) v l.length (tCells l) ha
    ⟨W.heap.size, 0, none⟩ 1 1 [.string (BS x)] rfl (World.news_of_block (cs := #[.string (BS x)]) (t := 9) (fr := (0, 0)) (heap_alloc_new W _)) (by simp [Value.oneCell']) (by omega) (by unfold maxLen; omega) (by omega) (by simp; omega) _ rfl
  have hal := below1 W (.cells #[.string (BS x)] 9)
  refine ⟨g, cap, w5, hr, hide ?_, hide ⟨hgrow.os, hgrow.tape, hgrow.output, ?_, fun k h1 h2 => ?_⟩, hide ?_⟩
  · show World.ownsRow _ _ _ _ _ _ _
    rw [List.length_append, List.length_singleton, tCells, List.map_append]
    exact hown
  · have := hgrow.size
    simp at this
    omega
  · rw [hgrow.block k (by simp; omega) h2, hal.block k h1]
  · rcases hat with e | e
    · exact .inl e
    · right; simp at e; omega

structure MnF (w0 : World) (F : Nat → Prop) (w : World) (bb : Nat) (L : List Su) (v : Value) (ss : List (List UInt8)) : Prop where
  br : Br w F bb 0 L
  new : ∀ k, F k → w0.heap.size ≤ k
  below : Below w0.heap.size w0 w
  ts : TxRow w w0.heap.size v ss
  tF : ∀ k, v.ownBlock = some k → ¬ F k
theorem MnF.op {w0 : World} {F : Nat → Prop} {w w' : World} {bb : Nat} {L L' : List Su} {v : Value} {ss : List (List UInt8)} (h : MnF w0 F w bb L v ss) (hg : Grow F w w') (hb : Br w' (upF F w w') bb 0 L') : MnF w0 (upF F w w') w' bb L' v ss := by
  have hz := h.below.size
  refine ⟨hb, fun k hk => ?_, ⟨hg.os.trans h.below.os, hg.tape.trans h.below.tape, hg.output.trans h.below.output, Nat.le_trans hz hg.size, fun k hk => (hg.block k (by omega) (fun e => by have := h.new k e; omega)).trans (h.below.block k hk)⟩, ownsRow_same h.ts fun k hk => hg.block k (h.ts.lt k hk).2 (h.tF k hk), fun k hk e => ?_⟩
  · rcases hk with e | e
    · exact h.new k e
    · omega
  · rcases e with e | e
    · exact h.tF k hk e
    · have := (h.ts.lt k hk).2; omega
theorem MnF.keep {w0 : World} {F : Nat → Prop} {w w' : World} {bb : Nat} {L : List Su} {v : Value} {ss : List (List UInt8)} (h : MnF w0 F w bb L v ss) (hb : Below w.heap.size w w') : MnF w0 F w' bb L v ss :=
  ⟨h.br.below hb, h.new, h.below.trans (hb.mono h.below.size), ownsRow_same h.ts fun k hk => hb.block k (h.ts.lt k hk).2, h.tF⟩
theorem MnF.app {w0 : World} {F : Nat → Prop} {w : World} {bb : Nat} {L : List Su} {v : Value} {ss : List (List UInt8)} (h : MnF w0 F w bb L v ss) (x : List UInt8) (hn : ss.length ≤ 1000) :
    ∃ g cap w5, (appSem #[30, 30] 30 #[v, .slice (some ⟨w.heap.size, 0, none⟩) 1 1]).run Tryz.prog (w.alloc (.cells #[.string (BS x)] 9)) = .ok (.slice (some ⟨g, 0, none⟩) (ss.length + 1) cap) w5 ∧ MnF w0 F w5 bb L (.slice (some ⟨g, 0, none⟩) (ss.length + 1) cap) (ss ++ [x]) := by
  obtain ⟨g, cap, w5, r, Z, G, N⟩ := h.ts.app h.below.size x hn 30 w.heap.size rfl rfl
  have hg := unhide G
  have hz := h.below.size
  refine ⟨g, cap, w5, r, h.br.frame hg.size fun k hk => hg.block k (h.br.1 k hk) (fun e => h.tF k e.symm hk), h.new, ⟨hg.os.trans h.below.os, hg.tape.trans h.below.tape, hg.output.trans h.below.output, Nat.le_trans hz hg.size, fun k hk => (hg.block k (by omega) (fun e => by have := (h.ts.lt k e.symm).1; omega)).trans (h.below.block k hk)⟩, unhide Z, fun k hk e => ?_⟩
  have e' : g = k := by simpa [Value.ownBlock] using hk
  rcases unhide N with n1 | n1
  · exact h.tF g n1 (by rw [e']; exact e)
  · have := h.br.1 k e; omega

def MnAt (w0 w : World) (first : Int) (k : Nat) (v : Value) (ss : List (List UInt8)) : Prop := ∃ F L, MnF w0 F w w0.heap.size L v ss ∧ FalseL first k L
def Mn7 (w0 w : World) (first : Int) (v : Value) (ss : List (List UInt8)) : Prop := ∃ F L, MnF w0 F w w0.heap.size L v ss ∧ L.length = 7 ∧ (∀ x ∈ L, x.co = falseC) ∧ (∀ x ∈ L, ∃ j, j < 8 ∧ j ≠ 3 ∧ x.id = idM first j)

theorem mn_new (w : World) (first : Int) : MnAt w (w.alloc (.cells #[.int .i64 0, .slice none 0 0, .slice none 0 0, .slice none 0 0] 67)) first 0 (.slice none 0 0) [] := by
  obtain ⟨F, hf⟩ := br_new w
  exact ⟨F, [], ⟨hf.br, hf.new, hf.below, World.ownsRow_nil _ _ _ _, fun k hk => by simp [Value.ownBlock] at hk⟩, ⟨rfl, fun x hx => by simp at hx, fun x hx => by simp at hx, fun j hj => by omega⟩⟩
theorem MnAt.app {w0 w : World} {first : Int} {k : Nat} {v : Value} {ss : List (List UInt8)} (h : MnAt w0 w first k v ss) (x : List UInt8) (hn : ss.length ≤ 1000) :
    ∃ g cap w5, (appSem #[30, 30] 30 #[v, .slice (some ⟨w.heap.size, 0, none⟩) 1 1]).run Tryz.prog (w.alloc (.cells #[.string (BS x)] 9)) = .ok (.slice (some ⟨g, 0, none⟩) (ss.length + 1) cap) w5 ∧ Hid (MnAt w0 w5 first k (.slice (some ⟨g, 0, none⟩) (ss.length + 1) cap) (ss ++ [x])) := by
  obtain ⟨F, L, hf, hl⟩ := h
  obtain ⟨g, cap, w5, r, h5⟩ := hf.app x hn
  exact ⟨g, cap, w5, r, hide ⟨F, L, h5, hl⟩⟩
theorem MnAt.keep {w0 w w' : World} {first : Int} {k : Nat} {v : Value} {ss : List (List UInt8)} (h : MnAt w0 w first k v ss) (hb : Below w.heap.size w w') : MnAt w0 w' first k v ss := by
  obtain ⟨F, L, hf, hl⟩ := h
  exact ⟨F, L, hf.keep hb, hl⟩
theorem MnAt.row {w0 w : World} {first : Int} {k : Nat} {v : Value} {ss : List (List UInt8)} (h : MnAt w0 w first k v ss) : TxRow w w0.heap.size v ss ∧ Below w0.heap.size w0 w := by
  obtain ⟨F, L, hf, hl⟩ := h
  exact ⟨hf.ts, hf.below⟩
theorem TxRow.cells {w : World} {base n : Nat} {a : Option Addr} {c : Nat} {ss : List (List UInt8)} (h : TxRow w base (.slice a n c) ss) (k : Nat) (s : List UInt8) (hs : ss[k]? = some s) : ∃ sb so, a = some ⟨sb, so, none⟩ ∧ sb < w.heap.size ∧ w.cell? ⟨sb, so + k, none⟩ = some (.string (BS s)) := by
  rcases row_forms h with ⟨_, h0⟩ | ⟨g, c', hv⟩
  · have := (List.getElem?_eq_some_iff.1 hs).1
    omega
  · have e : a = some ⟨g, 0, none⟩ := by simp at hv; exact hv.1
    refine ⟨g, 0, e, (h.lt g (by rw [e]; rfl)).2, ?_⟩
    have := World.ownsRow.cells h (g := g) (by rw [e]; rfl) k (.string (BS s)) (by simp [tCells, hs]; rfl)
    rwa [addr_off, Nat.zero_add, ← Nat.zero_add k] at this

section
variable {w0 w : World} {first : Int} {k : Nat} {v : Value} {ss : List (List UInt8)}

theorem mn_sub (hL : LibOk w0) (hk : k < 8) (h : MnAt w0 w first k v ss) : Calls Tryz.prog 12 #[.pointer (some ⟨w0.heap.size, 0, none⟩), .int .i64 (idM first k), .string (BS falseT)] w fun e w' => e = .returned (.tuple #[.int .i64 0, .int .i64 0]) ∧ MnAt w0 w' first (k + 1) v ss := by
  obtain ⟨F, L, hf, hl⟩ := h
  have hno : ∀ x ∈ L, x.id ≠ idM first k := fun x hx => by
    obtain ⟨j, hj, e⟩ := hl.ids x hx
    rw [e]
    exact idM_ne first (by omega) hk (by omega)
  obtain ⟨q1, q2⟩ := ins_false hl.co (by have := hl.len; omega) (placeS L (idM first k)) (idM first k)
  refine sub_ok w F w0.heap.size 0 L hf.br (idM first k) hno falseT falseC txFalse (by have := hl.len; omega) (hL.below hf.below (Nat.le_refl _)) q2 q1 _ fun w' h1 h2 => ⟨rfl, _, _, hf.op h2 h1, ⟨?_, ?_, ?_, ?_⟩⟩
  · rw [insS_length, hl.len]
  · intro x hx
    rcases insS_mem.1 hx with rfl | hx
    · rfl
    · exact hl.co x hx
  · intro x hx
    rcases insS_mem.1 hx with rfl | hx
    · exact ⟨k, by omega, rfl⟩
    · obtain ⟨j, hj, e⟩ := hl.ids x hx
      exact ⟨j, by omega, e⟩
  · intro j hj
    by_cases e : j = k
    · subst e
      exact ⟨_, insS_mem.2 (.inl rfl), rfl⟩
    · obtain ⟨x, hx, e'⟩ := hl.has j (by omega)
      exact ⟨x, insS_mem.2 (.inr hx), e'⟩
theorem mn_twice (h : MnAt w0 w first (k + 1) v ss) (s : ByteArray) : Calls Tryz.prog 12 #[.pointer (some ⟨w0.heap.size, 0, none⟩), .int .i64 (idM first k), .string s] w fun e w' => e = .returned (.tuple #[.int .i64 6, .int .i64 0]) ∧ MnAt w0 w' first (k + 1) v ss := by
  have h0 := h
  obtain ⟨F, L, hf, hl⟩ := h
  obtain ⟨x, hx, e⟩ := hl.has k (by omega)
  obtain ⟨i, hi⟩ := List.getElem?_of_mem hx
  have := sub_twice w F w0.heap.size 0 L hf.br i x hi s
  rw [e] at this
  refine this.mono ?_
  rintro e w' ⟨rfl, hb⟩
  exact ⟨rfl, h0.keep hb⟩
theorem mn_full (hE : ErrOk w0) (h : MnAt w0 w first 8 v ss) (s : ByteArray) (hs : s.size ≤ 140737488355328) (t : Ast) (hrd : readR s = .ok t) : Calls Tryz.prog 12 #[.pointer (some ⟨w0.heap.size, 0, none⟩), .int .i64 (IntKind.i64.wrap (first - 1)), .string s] w fun e w' => e = .returned (.tuple #[.int .i64 8, .int .i64 0]) ∧ MnAt w0 w' first 8 v ss := by
  have h0 := h
  obtain ⟨F, L, hf, hl⟩ := h
  refine (sub_full8 w F w0.heap.size 0 L hf.br _ (fun x hx => ?_) s hs t hrd hl.len (hE.below hf.below (Nat.le_refl _))).mono ?_
  · obtain ⟨j, hj, e⟩ := hl.ids x hx
    rw [e]
    exact idM_pre first hj
  · rintro e w' ⟨rfl, hb⟩
    exact ⟨rfl, h0.keep hb⟩
theorem mn_unsub (h : MnAt w0 w first 8 v ss) : Calls Tryz.prog 19 #[.pointer (some ⟨w0.heap.size, 0, none⟩), .int .i64 (IntKind.i64.wrap (first + 21))] w fun e w' => e = .returned (.int .i64 0) ∧ Mn7 w0 w' first v ss := by
  rw [idM_3]
  obtain ⟨F, L, hf, hl⟩ := h
  obtain ⟨x, hx, e⟩ := hl.has 3 (by omega)
  obtain ⟨i, hi⟩ := List.getElem?_of_mem hx
  have hil := (List.getElem?_eq_some_iff.1 hi).1
  have hsub : ∀ y ∈ L.take i ++ L.drop (i + 1), y ∈ L := fun y hy => by
    rcases List.mem_append.1 hy with hy | hy
    · exact List.mem_of_mem_take hy
    · exact List.mem_of_mem_drop hy
  have hlen : (L.take i ++ L.drop (i + 1)).length = 7 := by have := hl.len; simp; omega
  have hup : ∀ y ∈ L.take i ++ L.drop (i + 1), y.id ≠ x.id := by
    obtain ⟨_, _, _, _, l, hB, hLl, _⟩ := hf.br
    have hu := hB.up
    have hp : L.Pairwise fun a b => a.id < b.id := by
      rw [← hLl]
      unfold RisingS at hu
      rw [List.pairwise_map] at hu ⊢
      exact hu
    intro y hy
    have hd : L = L.take i ++ x :: L.drop (i + 1) := by
      have e := List.drop_eq_getElem_cons hil
      rw [(List.getElem?_eq_some_iff.1 hi).2] at e
      rw [← e, List.take_append_drop]
    rw [hd, List.pairwise_append, List.pairwise_cons] at hp
    rcases List.mem_append.1 hy with hy | hy
    · have := hp.2.2 y hy x (List.mem_cons_self ..)
      omega
    · have := hp.2.1.1 y hy
      omega
  have := unsub_at w F w0.heap.size 0 L hf.br i x hi (del_false (fun y hy => hl.co y (hsub y hy)) (by omega)) (fun e w' => e = .returned (.int .i64 0) ∧ Mn7 w0 w' first v ss) fun w' h1 h2 => ⟨rfl, _, _, hf.op h2 h1, hlen, fun y hy => hl.co y (hsub y hy), fun y hy => ?_⟩
  · rw [e] at this
    exact this
  · obtain ⟨j, hj, e'⟩ := hl.ids y (hsub y hy)
    refine ⟨j, hj, fun e3 => hup y hy ?_, e'⟩
    rw [e', e3, e]
theorem mn_unsub_no (h : Mn7 w0 w first v ss) : Calls Tryz.prog 19 #[.pointer (some ⟨w0.heap.size, 0, none⟩), .int .i64 (IntKind.i64.wrap (first + 21))] w fun e w' => e = .returned (.int .i64 5) ∧ Mn7 w0 w' first v ss := by
  rw [idM_3]
  obtain ⟨F, L, hf, h7, hco, hid⟩ := h
  refine (unsub_no w F w0.heap.size 0 L hf.br _ (fun x hx => ?_)).mono ?_
  · obtain ⟨j, hj, h3, e⟩ := hid x hx
    rw [e]
    exact idM_ne first hj (by omega) h3
  · rintro e w' ⟨rfl, hb⟩
    exact ⟨rfl, F, L, hf.keep hb, h7, hco, hid⟩
theorem mn_last (hL : LibOk w0) (h : Mn7 w0 w first v ss) : Calls Tryz.prog 12 #[.pointer (some ⟨w0.heap.size, 0, none⟩), .int .i64 (IntKind.i64.wrap (first - 1)), .string (BS trueT)] w fun e w' => e = .returned (.tuple #[.int .i64 0, .int .i64 0]) ∧ Below w0.heap.size w0 w' := by
  obtain ⟨F, L, hf, h7, hco, hid⟩ := h
  obtain ⟨q1, q2⟩ := ins_true hco h7 (p := placeS L (IntKind.i64.wrap (first - 1))) (by have := placeS_le L (IntKind.i64.wrap (first - 1)); omega) (IntKind.i64.wrap (first - 1))
  refine sub_ok w F w0.heap.size 0 L hf.br _ (fun x hx => ?_) trueT trueC txTrue (by omega) (hL.below hf.below (Nat.le_refl _)) q2 q1 _ fun w' h1 h2 => ⟨rfl, (hf.op h2 h1).below⟩
  obtain ⟨j, hj, h3, e⟩ := hid x hx
  rw [e]
  exact idM_pre first hj
end
end

section
attribute [local go_sem ↓] app_fold

def eightT : List (List UInt8) := List.replicate 8 falseT
def eightC : List Co := List.replicate 8 falseC
theorem eight_terms : (addK eightC 8).1 = [⟨4, 0, 0, 0, [], []⟩] := by kernel_rfl
theorem eight_small : (List.range 9).all (fun k => decide ((addK eightC k).1.length ≤ 80)) = true := by kernel_rfl

theorem compile_eight (a : Option Addr) (cap : Nat) (w : World) (hL : LibOk w) (h : TxRow w 0 (.slice a 8 cap) eightT) :
    Calls Tryz.prog 13 #[.slice a 8 cap] w fun e w' => ∃ v2 n2 c2, e = .returned (.tuple #[.slice v2 n2 c2, .int .i64 0, .int .i64 0]) ∧ Below w.heap.size w w' := by
  refine compile_ok eightT eightC rfl (by decide) (fun k s c hs hc => ?_) (fun k hk => ?_) (fun t ht => ?_) a cap w hL (fun k s hs => ?_) _ (fun v w' ho hb => by obtain ⟨a2, c2, rfl⟩ := ho.form; exact ⟨a2, _, c2, rfl, hb⟩)
  · have e1 : s = falseT := List.eq_of_mem_replicate (List.mem_of_getElem? hs)
    have e2 : c = falseC := List.eq_of_mem_replicate (List.mem_of_getElem? hc)
    rw [e1, e2]
    exact txFalse
  · have := List.all_eq_true.1 eight_small k (List.mem_range.2 (by have : eightT.length = 8 := rfl; omega))
    simpa using this
  · have ht' : t ∈ (addK eightC 8).1 := ht
    rw [eight_terms] at ht'
    obtain rfl : t = ⟨4, 0, 0, 0, [], []⟩ := by simpa using ht'
    have hs : SmallT ⟨4, 0, 0, 0, [], []⟩ := ⟨by decide, by decide, by decide, by decide⟩
    exact ⟨hs, writeOk_plain _ hs (by decide)⟩
  · exact h.cells k s hs

theorem w64 (n : Int) : wrap64 n = IntKind.i64.wrap n := (IntWalk.i64_left n).symm

theorem rep_snoc (k : Nat) : List.replicate k falseT ++ [falseT] = List.replicate (k + 1) falseT := by rw [List.replicate_succ']

set_option maxHeartbeats 8000000 in
set_option maxRecDepth 100000 in
theorem many_all (first : Int) (s : ByteArray) (hs : s.size ≤ 140737488355328) (w : World) (hL : LibOk w) : Calls Tryz.prog 6 #[.int .i64 first, .string s] w fun e w' => e = .returned (.bool true) ∧ Below w.heap.size w w' := by
  have NEW : Hid (Calls Tryz.prog 10 #[] w fun e w' => e = .returned (.pointer (some ⟨w.heap.size, 0, none⟩)) ∧ Hid (MnAt w w' first 0 (.slice none 0 0) (List.replicate 0 falseT))) := hide ((new_any w).mono (by rintro e w' ⟨rfl, rfl⟩; exact ⟨rfl, hide (mn_new w first)⟩))
  have CAN : Hid (∀ U, MnAt w U first 0 (.slice none 0 0) (List.replicate 0 falseT) → Calls Tryz.prog 23 #[.string s] U (CnEnds U (readR s))) := hide fun U hU => canon_any s hs U (hL.below hU.row.2 (Nat.le_refl _))
  have SUB : Hid (∀ U k v, k < 8 → MnAt w U first k v (List.replicate k falseT) → Calls Tryz.prog 12 #[.pointer (some ⟨w.heap.size, 0, none⟩), .int .i64 (wrap64 (first + (k : Int) * 7)), .string ⟨#[70, 65, 76, 83, 69]⟩] U fun e w' => e = .returned (.tuple #[.int .i64 0, .int .i64 0]) ∧ Hid (MnAt w w' first (k + 1) v (List.replicate k falseT))) := hide fun U k v hk hU => by rw [w64]; exact (mn_sub hL hk hU).mono (by rintro e w' ⟨rfl, h⟩; exact ⟨rfl, hide h⟩)
  have TWI : Hid (∀ U k v s', MnAt w U first (k + 1) v (List.replicate k falseT) → Calls Tryz.prog 12 #[.pointer (some ⟨w.heap.size, 0, none⟩), .int .i64 (wrap64 (first + (k : Int) * 7)), .string s'] U fun e w' => e = .returned (.tuple #[.int .i64 6, .int .i64 0]) ∧ Hid (MnAt w w' first (k + 1) v (List.replicate k falseT))) := hide fun U k v s' hU => by rw [w64]; exact (mn_twice hU s').mono (by rintro e w' ⟨rfl, h⟩; exact ⟨rfl, hide h⟩)
  have APP : Hid (∀ U j k v x n, n = k → MnAt w U first j v (List.replicate k falseT) → k ≤ 8 → ∃ g cap w5, (appSem #[30, 30] 30 #[v, .slice (some ⟨U.heap.size, 0, none⟩) 1 1]).run Tryz.prog (U.alloc (.cells #[.string (BS x)] 9)) = .ok (.slice (some ⟨g, 0, none⟩) (n + 1) cap) w5 ∧ Hid (MnAt w w5 first j (.slice (some ⟨g, 0, none⟩) (n + 1) cap) (List.replicate k falseT ++ [x]))) := hide (by
    intro U j k v x n hn hU hk
    obtain ⟨g, cap, w5, r, h5⟩ := hU.app x (by simp; omega)
    subst hn
    rw [List.length_replicate] at r h5
    exact ⟨g, cap, w5, r, h5⟩)
  have FORM : Hid (∀ U j k v, MnAt w U first j v (List.replicate k falseT) → ∃ a c, v = .slice a k c) := hide (by
    intro U j k v hU
    obtain ⟨a, c, e⟩ := row_slice hU.row.1
    rw [List.length_replicate] at e
    exact ⟨a, c, e⟩)
  have CO8 : Hid (∀ U a c, MnAt w U first 8 (.slice a 8 c) (List.replicate 8 falseT) → Calls Tryz.prog 13 #[.slice a 8 c] U fun e w' => ∃ v2 n2 c2, e = .returned (.tuple #[.slice v2 n2 c2, .int .i64 0, .int .i64 0]) ∧ Hid (MnAt w w' first 8 (.slice a 8 c) (List.replicate 8 falseT))) := hide (by
    intro U a c hU
    refine (compile_eight a c U (hL.below hU.row.2 (Nat.le_refl _)) (ownsRow_le' hU.row.1 (Nat.zero_le _))).mono ?_
    rintro e w' ⟨v2, n2, c2, rfl, hb⟩
    exact ⟨v2, n2, c2, rfl, hide (hU.keep hb)⟩)
  have CO9 : Hid (∀ U a c, Calls Tryz.prog 13 #[.slice a 9 c] U fun e w' => e = .returned (.tuple #[.slice none 0 0, .int .i64 8, .int .i64 0]) ∧ w' = U) := hide fun U a c => compile_long a 9 c (by omega) U
  have FULL : Hid (∀ U v ss s' t, s'.size ≤ 140737488355328 → readR s' = .ok t → MnAt w U first 8 v ss → Calls Tryz.prog 12 #[.pointer (some ⟨w.heap.size, 0, none⟩), .int .i64 (wrap64 (first - 1)), .string s'] U fun e w' => e = .returned (.tuple #[.int .i64 8, .int .i64 0]) ∧ Hid (MnAt w w' first 8 v ss)) := hide fun U v ss s' t hs' hrd hU => by rw [w64]; exact (mn_full hL.err hU s' hs' t hrd).mono (by rintro e w' ⟨rfl, h⟩; exact ⟨rfl, hide h⟩)
  have UNS : Hid (∀ U v ss, MnAt w U first 8 v ss → Calls Tryz.prog 19 #[.pointer (some ⟨w.heap.size, 0, none⟩), .int .i64 (wrap64 (first + 21))] U fun e w' => e = .returned (.int .i64 0) ∧ Hid (Mn7 w w' first v ss)) := hide fun U v ss hU => by rw [w64]; exact (mn_unsub hU).mono (by rintro e w' ⟨rfl, h⟩; exact ⟨rfl, hide h⟩)
  have UNN : Hid (∀ U v ss, Mn7 w U first v ss → Calls Tryz.prog 19 #[.pointer (some ⟨w.heap.size, 0, none⟩), .int .i64 (wrap64 (first + 21))] U fun e w' => e = .returned (.int .i64 5) ∧ Hid (Mn7 w w' first v ss)) := hide fun U v ss hU => by rw [w64]; exact (mn_unsub_no hU).mono (by rintro e w' ⟨rfl, h⟩; exact ⟨rfl, hide h⟩)
  have LAST : Hid (∀ U v ss, Mn7 w U first v ss → Calls Tryz.prog 12 #[.pointer (some ⟨w.heap.size, 0, none⟩), .int .i64 (wrap64 (first - 1)), .string ⟨#[84, 82, 85, 69]⟩] U fun e w' => e = .returned (.tuple #[.int .i64 0, .int .i64 0]) ∧ Hid (Below w.heap.size w w')) := hide fun U v ss hU => by rw [w64]; exact (mn_last hL hU).mono (by rintro e w' ⟨rfl, h⟩; exact ⟨rfl, hide h⟩)
  have RT : Hid (readR ⟨#[84, 82, 85, 69]⟩ = .ok trueA) := hide readTrue
  have key : (∃ t, readR s = .ok t) ∨ ∃ en pl, readR s = .err en pl := by
    cases readR s with
    | ok t => exact .inl ⟨t, rfl⟩
    | err en pl => exact .inr ⟨en, pl, rfl⟩
  rcases key with ⟨t, hrd⟩ | ⟨en, pl, hrd⟩
  case' inl =>
    obtain ⟨TS, hTS⟩ : ∃ TS : ByteArray, TS = s := ⟨_, rfl⟩
    have RS : Hid (s.size ≤ 140737488355328 ∧ readR s = .ok t) := hide ⟨hs, hrd⟩
  case' inr =>
    have RS : Hid ((⟨#[84, 82, 85, 69]⟩ : ByteArray).size ≤ 140737488355328 ∧ readR ⟨#[84, 82, 85, 69]⟩ = .ok trueA) := hide ⟨by decide, unhide RT⟩
    obtain ⟨TS, hTS⟩ : ∃ TS : ByteArray, TS = ⟨#[84, 82, 85, 69]⟩ := ⟨_, rfl⟩
    have he := read_err_pos hrd
    have hd : (en != 0) = true := by simp; omega
    clear he
  all_goals
    rw [hrd] at CAN
    unfold CnEnds at CAN
    simp only at CAN
    clear hL hrd RT
    have HTS := hide hTS
    clear hTS
    go_enter Tryz.func6, Tryz.ntmps6
    go_wp2_with (first | (go_at_call 10; refine (unhide NEW).mono ?_; rintro e w1 ⟨rfl, S1⟩) | (go_at_call 23; refine (unhide CAN _ (unhide S1)).mono ?_; rintro e w2 ⟨hb2, rfl⟩; have S2 := hide ((unhide S1).keep hb2); clear hb2))
    clear NEW CAN S1
    go_loopw [9, 10] (fun v i wr => ∃ k : Nat, k ≤ 8 ∧ i = .int .i64 k ∧ Hid (MnAt w wr first k v (List.replicate k falseT))) (fun _ i _ => 8 - (intOf i).toNat)
    case atStart => exact ⟨0, Nat.zero_le _, rfl, S2⟩
    case round =>
      obtain ⟨k, hk, rfl, MA⟩ := hrel
      obtain ⟨a, c, rfl⟩ := unhide FORM _ _ _ _ (unhide MA)
      by_cases hlt : k < 8
      · have S := hide (unhide SUB wr k _ hlt (unhide MA))
        have T : Hid _ := hide fun U hU => unhide TWI U k (.slice a k c) ⟨#[110, 111, 32, 115, 101, 108, 101, 99, 116, 111, 114]⟩ hU
        have A : Hid (∀ U, MnAt w U first (k + 1) (.slice a k c) (List.replicate k falseT) → ∃ g cap w5, (appSem #[30, 30] 30 #[.slice a k c, .slice (some ⟨U.heap.size, 0, none⟩) 1 1]).run Tryz.prog (U.alloc (.cells #[.string ⟨#[70, 65, 76, 83, 69]⟩] 9)) = .ok (.slice (some ⟨g, 0, none⟩) (k + 1) cap) w5 ∧ Hid (MnAt w w5 first (k + 1) (.slice (some ⟨g, 0, none⟩) (k + 1) cap) (List.replicate (k + 1) falseT))) := hide (by
          intro U hU
          obtain ⟨g, cap, w5, r, h5⟩ := unhide APP U (k + 1) k _ falseT k rfl hU (by omega)
          rw [rep_snoc] at h5
          exact ⟨g, cap, w5, r, h5⟩)
        have hk0 : (0 : Int) ≤ (k : Int) := by omega
        have hk8 : (k : Int) < 8 := by omega
        clear SUB TWI APP FORM CO8 CO9 FULL UNS UNN LAST MA
        go_wp2_with (first | (go_at_call 12; refine (unhide S).mono ?_; clear S; rintro e w3 ⟨rfl, S3⟩) | (go_at_call 12; refine (unhide T _ (unhide S3)).mono ?_; clear T; rintro e w4 ⟨rfl, S4⟩; obtain ⟨g5, c5, w5, r5, S5⟩ := unhide A _ (unhide S4)))
        exact ⟨⟨k + 1, by omega, rfl, S5⟩, by simp [intOf]; omega⟩
      · have hk8 : k = 8 := by omega
        subst hk8
        have APT : Hid (∀ U, MnAt w U first 8 (.slice a 8 c) (List.replicate 8 falseT) → ∃ g cap w5, (appSem #[30, 30] 30 #[.slice a 8 c, .slice (some ⟨U.heap.size, 0, none⟩) 1 1]).run Tryz.prog (U.alloc (.cells #[.string TS] 9)) = .ok (.slice (some ⟨g, 0, none⟩) 9 cap) w5 ∧ Hid (MnAt w w5 first 8 (.slice (some ⟨g, 0, none⟩) 9 cap) (List.replicate 8 falseT ++ [TS.data.toList]))) := hide (by
          intro U hU
          exact unhide APP U 8 8 _ TS.data.toList 8 rfl hU (by omega))
        rw [unhide HTS] at APT
        have CO8' := hide (unhide CO8 wr a c (unhide MA))
        clear SUB TWI FORM APP CO8
        go_wp2_with (first | (go_at_call 13; refine (unhide CO8').mono ?_; clear CO8'; rintro e w3 ⟨v3, n3, c3, rfl, S3⟩; obtain ⟨g4, c4, w4, r4, S4⟩ := unhide APT _ (unhide S3)) | (go_at_call 13; refine (unhide CO9 _ _ _).mono ?_; clear CO9; rintro e w5 ⟨rfl, rfl⟩) | (go_at_call 12; refine (unhide FULL _ _ _ _ _ (unhide RS).1 (unhide RS).2 (unhide S4)).mono ?_; clear FULL; rintro e w6 ⟨rfl, S6⟩) | (go_at_call 19; refine (unhide UNS _ _ _ (unhide S6)).mono ?_; clear UNS; rintro e w7 ⟨rfl, S7⟩) | (go_at_call 19; refine (unhide UNN _ _ _ (unhide S7)).mono ?_; clear UNN; rintro e w8 ⟨rfl, S8⟩) | (go_at_call 12; refine (unhide LAST _ _ _ (unhide S8)).mono ?_; clear LAST; rintro e w9 ⟨rfl, S9⟩))
        go_ret
        exact ⟨rfl, unhide S9⟩
end

end Go.Proofs.YtfkcaldjphakpabGreatDoor
