/- The contract of Twins, as its row asks for it. -/
import Derived.Test.YtfkcaldjphakpabGreatDoorYTwV
import Derived.Test.YtfkcaldjphakpabGreatDoorT33
import Derived.Test.YtfkcaldjphakpabGreatDoorT42
import Derived.Test.YtfkcaldjphakpabGreatDoorT43
import Derived.ChangeMaps5
import Derived.MakeChecks
namespace Go.Proofs.YtfkcaldjphakpabGreatDoor.fnTwins
open Go.ChangeShapes Go.WideShapes Go.ChangeAt Go.RowKit
theorem jv8 {H : Type} {enc : TypeId × Value → H} {P : Program} {f : Func} {s : ChangeSpec} {apart fresh handsOn again : Bool} {W W' : World} {args : Array Value} {v : Value} {ds gs : List (DataW H)} {before pa pv : List MemPlace}
    (hW : DataW.Whole enc P f.params.toList s.vars apart W args.toList ds gs before)
    (hres : ∀ (b : Nat) (sp : Nat → Bool) (hd : Bool), DataW.TrodAll enc P W' b sp hd f.resultTypes.toList (v.resultList f.resultTypes.size) (s.fn H (ds ++ gs)).results [])
    (hargs : ∀ sp : Nat → Bool, (∀ p ∈ before, sp p.block = true) → DataW.TrodAll enc P W' 0 sp true f.params.toList args.toList (s.fn H (ds ++ gs)).args pa)
    (hvars : ∀ sp : Nat → Bool, (∀ p ∈ before, sp p.block = true) → DataW.TrodVars enc P W' sp s.vars (s.fn H (ds ++ gs)).vars pv)
    (hps : before = pa ++ pv) (hb : Below W.heap.size W W')
    (hok : ∀ (j : Nat) (t : TypeId) (r : Value), f.resultTypes[j]? = some t → (v.resultList f.resultTypes.size)[j]? = some r → Value.okWide P W' .any 0 t r) :
    s.post enc P f apart fresh handsOn again W args v W' := by
  have hold : ∀ p ∈ before, p.block < W.heap.size := fun p hp => hW.lt p hp
  refine ⟨ds, gs, before, [], pa, pv, hW, hres _ _ _, hargs _ (fun p hp => by simpa using hold p hp), hvars _ (fun p hp => by simpa using hold p hp), World.keptBut_mono (fun p hp => ⟨hp, Or.inr (by rw [hps, List.mem_append] at hp; simpa using hp)⟩) (hb.frame (· ∈ before)), fun _ => ?_⟩
  obtain ⟨_, _, _, _, _, hz, hn⟩ := hW
  refine ⟨hok, _, _, ([] ++ pa) ++ pv, ⟨[] ++ pa, pv, trodAll_append (hargs _ (fun _ _ => rfl)) (hres _ _ _), hvars _ (fun _ _ => rfl), rfl, ?_, fun ha => by have := hn ha; rw [hps] at this; simpa using this⟩, fun p hp _ => by rw [hps]; simpa using hp⟩
  intro b off hp
  have hm : (MemPlace.cell b off) ∈ before := by rw [hps]; simpa using hp
  rw [hb.frozen (p := ⟨b, off, none⟩) (hold _ hm)]
  exact hz b off hm
theorem vd9 {W W' : World} (hb : Below W.heap.size W W') {ps : List MemPlace} (h : ∀ p ∈ ps, p.block < W.heap.size) : ∀ p ∈ ps, W.sameAt W' p := by
  intro p hp
  have hl := h p hp
  cases p with
  | cell b off => exact hb.cell (p := ⟨b, off, none⟩) hl
  | map b => exact hb.block b hl
theorem err_ok {W : World} (h : laidMetH Tryz.prog Rows.twinsRow.laid W) : ErrOk W := by
  rw [MakeChecks.laidMetH_plain _ _ _ (by kernel_rfl)] at h
  exact err_of (by simp [Rows.twinsRow]) h
theorem vt7 : laidOutB Tryz.prog = true := by kernel_rfl
theorem jn5 : Tryz.prog.readableRec 22 = true := by kernel_rfl
theorem jm6 : 22 < Tryz.prog.types.size := of_decide_eq_true (by kernel_rfl)
theorem readableE : Tryz.prog.readableRec 23 = true := by kernel_rfl
theorem in_typesE : 23 < Tryz.prog.types.size := of_decide_eq_true (by kernel_rfl)
set_option maxRecDepth 100000 in
theorem lib_ok {W : World} (h : laidMetH Tryz.prog Rows.twinsRow.laid W) (hS : W.ShapedOpen Tryz.prog) : LibOk W := by
  have he := err_ok h
  rw [MakeChecks.laidMetH_plain _ _ _ (by kernel_rfl)] at h
  exact ⟨he, max_ok hS, pow_ok (by simp [Rows.twinsRow]) h⟩
set_option maxRecDepth 100000 in
theorem contract (H : Type) (enc : TypeId × Value → H) (W : World) (base : Nat) (args : Array Value) (ds gs : List (DataW H)) (before : List MemPlace)
    (hval : ∀ (j : Nat) t v, Tryz.f7.params[j]? = some t → args[j]? = some v → Value.okWide Tryz.prog W .any base t v)
    (hW : DataW.Whole enc Tryz.prog Tryz.f7.params.toList Rows.twinsSpec.vars false W args.toList ds gs before)
    (hz : (DataW.weightsEach Tryz.prog (Tryz.f7.params.toList ++ Rows.twinsSpec.plain.varTypes Tryz.prog) (ds ++ gs)).all (· ≤ reachBytes) = true) (hL : laidMetH Tryz.prog Rows.twinsRow.laid W) (hS : W.ShapedOpen Tryz.prog) :
    Calls Tryz.prog 7 args W fun e W' => ∃ v, e = .returned v ∧ Rows.twinsSpec.post enc Tryz.prog Tryz.f7 false true false false W args v W' := by
  have hW' := hW
  obtain ⟨p, q, hA0, hV, rfl, hfz, hnd⟩ := hW
  have hA : DataW.TrodAll enc Tryz.prog W 0 (fun _ => true) true Tryz.f7.params.toList args.toList ds p := hA0
  rw [Tryz.params7] at hA hval hz
  obtain ⟨v0, vs0, d0, ds0, p0, q0, hargs, rfl, rfl, h0, r0⟩ := trodAll_cons hA
  obtain ⟨v1, vs1, d1, ds1, p1, q1, rfl, rfl, rfl, h1, r1⟩ := trodAll_cons r0
  obtain ⟨v2, vs2, d2, ds2, p2, q2, rfl, rfl, rfl, h2, r2⟩ := trodAll_cons r1
  obtain ⟨rfl, rfl, rfl⟩ := trodAll_nil r2
  obtain rfl : args = #[v0, v1, v2] := by cases args; simp_all
  obtain ⟨rfl, rfl⟩ := trodVars_none hV
  have zw0 : ∀ n ∈ d0.weights Tryz.prog 22, n ≤ reachBytes := fun n hn => by
    have := List.all_eq_true.1 hz n (DataW.weights_mem_each (j := 0) (t := 22) rfl rfl n hn)
    simpa using this
  have zw1 : ∀ n ∈ d1.weights Tryz.prog 22, n ≤ reachBytes := fun n hn => by
    have := List.all_eq_true.1 hz n (DataW.weights_mem_each (j := 1) (t := 22) rfl rfl n hn)
    simpa using this
  have zw2 : ∀ n ∈ d2.weights Tryz.prog 23, n ≤ reachBytes := fun n hn => by
    have := List.all_eq_true.1 hz n (DataW.weights_mem_each (j := 2) (t := 23) rfl rfl n hn)
    simpa using this
  obtain ⟨l1, hl1⟩ := vj2 (hval 0 22 v0 rfl rfl) h0 zw0
  obtain ⟨l2, hl2⟩ := vj2 (hval 1 22 v1 rfl rfl) h1 zw1
  obtain ⟨ps, hev, hg⟩ := jv0 (hval 2 23 v2 rfl rfl) h2 zw2
  clear hA0
  simp only [List.append_nil] at hW'
  have walk := twins_all l1 l2 v0 v1 ps v2 W hl1 hl2 hev hg (lib_ok hL hS)
  refine walk.mono fun e W' ⟨he, hg'⟩ => ?_
  subst he
  have hlt : ∀ p ∈ p0 ++ (p1 ++ p2), p.block < W.heap.size := fun p hp => hW'.lt p hp
  exact ⟨_, rfl, jv8 (pa := p0 ++ (p1 ++ p2)) (pv := []) hW' (fun _ _ _ => trodAll_cons_mk (shut_bool Tryz.underlying4 _) trodAll_mk0) (fun sp hsp => by
      have := trodAll_cons_mk (Go.WideElems.Trod_stays vt7 jn5 jm6 h0 (vd9 hg' fun p hp => hlt p (by simp [hp])) (fun p hp => hsp p (by simp [hp]))) (trodAll_cons_mk (Go.WideElems.Trod_stays vt7 jn5 jm6 h1 (vd9 hg' fun p hp => hlt p (by simp [hp])) (fun p hp => hsp p (by simp [hp]))) (trodAll_cons_mk (Go.WideElems.Trod_stays vt7 readableE in_typesE h2 (vd9 hg' fun p hp => hlt p (by simp [hp])) (fun p hp => hsp p (by simp [hp]))) trodAll_mk0))
      simp only [List.append_nil] at this
      exact this) (fun _ _ => rfl) (by simp)
    hg' (ok_one (by kernel_rfl) rfl (okWide_bool_mk Tryz.underlying4 _))⟩
end Go.Proofs.YtfkcaldjphakpabGreatDoor.fnTwins
