/- The contract of Ranges, as its row asks for it. -/
import Derived.Test.YtfkcaldjphakpaaGreatDoorRgU
import Derived.Test.YtfkcaldjphakpaaGreatDoorErA
import Derived.Test.YtfkcaldjphakpaaGreatDoorRgB
import Derived.Test.YtfkcaldjphakpaaGreatDoorRgD
import Derived.Test.YtfkcaldjphakpaaGreatDoorRgE
import Derived.Test.YtfkcaldjphakpaaGreatDoorRgF
import Derived.Test.YtfkcaldjphakpaaGreatDoorRgG
namespace Go.Proofs.YtfkcaldjphakpaaGreatDoor.fnRanges
open Go.ChangeShapes Go.WideShapes Go.ChangeAt Go.RowKit

theorem ranges_all (x a b : Int) (hx : Rng x) (ha : Rng a) (hb : Rng b) (w : World) (hE : ErrOk w) :
    Calls Tryz.prog 4 #[.int .i64 x, .int .i64 a, .int .i64 b] w fun e w' => e = .returned (.bool true) ∧ Below w.heap.size w w' := by
  by_cases hma : a = -9223372036854775808 <;> by_cases hmb : b = -9223372036854775808
  · subst hma hmb
    cases hp : decide ((-9223372036854775807) ≤ x) <;> cases hq : decide (x ≤ (-9223372036854775807))
    all_goals first | exact ranges_tttmm x hx w hE hp hq hq | exact ranges_tffmm x hx w hE hp hq hq | exact ranges_fttmm x hx w hE hp hq hq | (simp at hp hq; omega)
  · subst hma
    cases hp : decide ((-9223372036854775807) ≤ x) <;> cases hq : decide (x ≤ b) <;> cases hr : decide (x ≤ (-9223372036854775807))
    all_goals first | exact ranges_tttmn x b hx hb hmb w hE hp hq hr | exact ranges_ttfmn x b hx hb hmb w hE hp hq hr | exact ranges_tftmn x b hx hb hmb w hE hp hq hr | exact ranges_tffmn x b hx hb hmb w hE hp hq hr | exact ranges_fttmn x b hx hb hmb w hE hp hq hr | exact ranges_fftmn x b hx hb hmb w hE hp hq hr | (simp at hp hq hr; omega)
  · subst hmb
    cases hp : decide (a ≤ x) <;> cases hq : decide (x ≤ (-9223372036854775807)) <;> cases hr : decide (x ≤ a)
    all_goals first | exact ranges_tttnm x a hx ha hma w hE hp hq hr | exact ranges_ttfnm x a hx ha hma w hE hp hq hr | exact ranges_tftnm x a hx ha hma w hE hp hq hr | exact ranges_tffnm x a hx ha hma w hE hp hq hr | exact ranges_fttnm x a hx ha hma w hE hp hq hr | exact ranges_fftnm x a hx ha hma w hE hp hq hr | (simp at hp hq hr; omega)
  · cases hp : decide (a ≤ x) <;> cases hq : decide (x ≤ b) <;> cases hr : decide (x ≤ a)
    all_goals first | exact ranges_tttnn x a b hx ha hb hma hmb w hE hp hq hr | exact ranges_ttfnn x a b hx ha hb hma hmb w hE hp hq hr | exact ranges_tftnn x a b hx ha hb hma hmb w hE hp hq hr | exact ranges_tffnn x a b hx ha hb hma hmb w hE hp hq hr | exact ranges_fttnn x a b hx ha hb hma hmb w hE hp hq hr | exact ranges_fftnn x a b hx ha hb hma hmb w hE hp hq hr | (simp at hp hq hr; omega)

/-- What is left as it was, by 'Below'. -/
theorem post_below {H : Type} {enc : TypeId × Value → H} {P : Program} {f : Func} {s : ChangeSpec} {apart fresh handsOn again : Bool} {W W' : World} {args : Array Value} {v : Value} {ds gs : List (DataW H)} {before pa pv : List MemPlace}
    (hW : DataW.Whole enc P f.params.toList s.vars apart W args.toList ds gs before)
    (hres : ∀ (b : Nat) (sp : Nat → Bool) (hd : Bool), DataW.TrodAll enc P W' b sp hd f.resultTypes.toList (v.resultList f.resultTypes.size) (s.fn H (ds ++ gs)).results [])
    (hargs : ∀ sp : Nat → Bool, (∀ p ∈ before, sp p.block = true) → DataW.TrodAll enc P W' 0 sp true f.params.toList args.toList (s.fn H (ds ++ gs)).args pa)
    (hvars : ∀ sp : Nat → Bool, (∀ p ∈ before, sp p.block = true) → DataW.TrodVars enc P W' sp s.vars (s.fn H (ds ++ gs)).vars pv)
    (hps : before = pa ++ pv) (hb : Below W.heap.size W W')
    (hok : ∀ (j : Nat) (t : TypeId) (r : Value), f.resultTypes[j]? = some t → (v.resultList f.resultTypes.size)[j]? = some r → Value.okWide P W' .any 0 t r) :
    s.post enc P f apart fresh handsOn again W args v W' := by
  have hold : ∀ p ∈ before, p.block < W.heap.size := fun p hp => hW.lt p hp
  refine ⟨ds, gs, before, [], pa, pv, hW, hres _ _ _, hargs _ (fun p hp => by simpa using hold p hp), hvars _ (fun p hp => by simpa using hold p hp), World.keptBut_mono (fun p hp => ⟨hp, Or.inr (by rw [hps, List.mem_append] at hp; simpa using hp)⟩) (hb.frame (· ∈ before)), fun _ => ?_⟩
  obtain ⟨_, _, _, _, _, hz, hn⟩ := hW
  refine ⟨hok, _, _, ([] ++ pa) ++ pv, ⟨[] ++ pa, pv, trodAll_append (hargs _ (fun _ _ => rfl)) (hres _ _ _), hvars _ (fun _ _ => rfl), rfl, ?_, fun ha => by have := hn ha; rw [hps] at this; simpa using this⟩, fun p hp _ => by rw [hps]; simpa using hp⟩
  intro b off hp
  have hm : (MemPlace.cell b off) ∈ before := by rw [hps]; simpa using hp
  rw [hb.frozen (p := ⟨b, off, none⟩) (hold _ hm)]
  exact hz b off hm

theorem rng_wf {n : Int} (h : (Lit.int .i64 n).wf = true) : Rng n := by
  simp only [Lit.wf, Bool.and_eq_true, decide_eq_true_eq] at h
  exact ⟨h.1, h.2⟩

theorem err_ok {W : World} (h : laidMetH Tryz.prog Rows.rangesRow.laid W) : ErrOk W := by
  rw [MakeChecks.laidMetH_plain _ _ _ (by kernel_rfl)] at h
  exact err_of (by simp [Rows.rangesRow]) h

set_option maxRecDepth 100000 in
theorem contract (H : Type) (enc : TypeId × Value → H) (W : World) (base : Nat) (args : Array Value) (ds gs : List (DataW H)) (before : List MemPlace)
    (hval : ∀ (j : Nat) t v, Tryz.f4.params[j]? = some t → args[j]? = some v → Value.okWide Tryz.prog W .any base t v)
    (hW : DataW.Whole enc Tryz.prog Tryz.f4.params.toList Rows.rangesSpec.vars false W args.toList ds gs before) (hL : laidMetH Tryz.prog Rows.rangesRow.laid W) :
    Calls Tryz.prog 4 args W fun e W' => ∃ v, e = .returned v ∧ Rows.rangesSpec.post enc Tryz.prog Tryz.f4 false true false false W args v W' := by
  have hW' := hW
  obtain ⟨p, q, hA0, hV, rfl, hfz, hnd⟩ := hW
  have hA : DataW.TrodAll enc Tryz.prog W 0 (fun _ => true) true Tryz.f4.params.toList args.toList ds p := hA0
  rw [Tryz.params4] at hA hval
  obtain ⟨v0, vs0, d0, ds0, p0, q0, hargs, rfl, rfl, h0, r0⟩ := trodAll_cons hA
  obtain ⟨v1, vs1, d1, ds1, p1, q1, rfl, rfl, rfl, h1, r1⟩ := trodAll_cons r0
  obtain ⟨v2, vs2, d2, ds2, p2, q2, rfl, rfl, rfl, h2, r2⟩ := trodAll_cons r1
  obtain ⟨rfl, rfl, rfl⟩ := trodAll_nil r2
  obtain rfl : args = #[v0, v1, v2] := by cases args; simp_all
  obtain ⟨rfl, rfl⟩ := trodVars_none hV
  obtain ⟨x, rfl, rfl, rfl, wx⟩ := open_int Tryz.underlying2 (hval 0 2 v0 rfl rfl) h0
  obtain ⟨y, rfl, rfl, rfl, wy⟩ := open_int Tryz.underlying2 (hval 1 2 v1 rfl rfl) h1
  obtain ⟨z, rfl, rfl, rfl, wz⟩ := open_int Tryz.underlying2 (hval 2 2 v2 rfl rfl) h2
  clear hA0
  simp only [List.append_nil] at hW'
  have walk := ranges_all x y z (rng_wf wx) (rng_wf wy) (rng_wf wz) W (err_ok hL)
  refine walk.mono fun e W' ⟨he, hg⟩ => ?_
  subst he
  exact ⟨_, rfl, post_below (pa := []) (pv := []) hW' (fun _ _ _ => trodAll_cons_mk (shut_bool Tryz.underlying4 _) trodAll_mk0) (fun _ _ => trodAll_cons_mk (shut_int Tryz.underlying2 wx) (trodAll_cons_mk (shut_int Tryz.underlying2 wy) (trodAll_cons_mk (shut_int Tryz.underlying2 wz) trodAll_mk0))) (fun _ _ => rfl) rfl
    hg (ok_one (by kernel_rfl) rfl (okWide_bool_mk Tryz.underlying4 _))⟩

end Go.Proofs.YtfkcaldjphakpaaGreatDoor.fnRanges
