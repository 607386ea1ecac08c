/- A walk of Logic. A walk of Logic. A walk of Logic. A walk of Logic. A walk of Logic. A walk of Logic. -/
import Derived.Test.YtfkcaldjphakpaaGreatDoorLgB
import Derived.Deep.RegionHeld3
namespace Go.Proofs.YtfkcaldjphakpaaGreatDoor
open Go.RowKit

section
set_option maxHeartbeats 4000000 in
set_option maxRecDepth 100000 in
theorem logic_f (p q A1 A2 A3 A4 O2 O3 O4 N1 N2 : ByteArray) (ea : Option Addr) (n c : Nat) (v u x y z : V) (fv fu fx fy fz pv pu px py pz : Int) (w : World)
    (a1 : ∀ w : World, (Op.stringOp .add ⟨#[40]⟩ p).run Tryz.prog w = .ok (.string A1) w) (a2 : ∀ w : World, (Op.stringOp .add A1 ⟨#[41, 32, 65, 78, 68, 32, 40]⟩).run Tryz.prog w = .ok (.string A2) w) (a3 : ∀ w : World, (Op.stringOp .add A2 q).run Tryz.prog w = .ok (.string A3) w) (a4 : ∀ w : World, (Op.stringOp .add A3 ⟨#[41]⟩).run Tryz.prog w = .ok (.string A4) w)
    (o2 : ∀ w : World, (Op.stringOp .add A1 ⟨#[41, 32, 79, 82, 32, 40]⟩).run Tryz.prog w = .ok (.string O2) w) (o3 : ∀ w : World, (Op.stringOp .add O2 q).run Tryz.prog w = .ok (.string O3) w) (o4 : ∀ w : World, (Op.stringOp .add O3 ⟨#[41]⟩).run Tryz.prog w = .ok (.string O4) w)
    (n1 : ∀ w : World, (Op.stringOp .add ⟨#[78, 79, 84, 32, 40]⟩ p).run Tryz.prog w = .ok (.string N1) w) (n2 : ∀ w : World, (Op.stringOp .add N1 ⟨#[41]⟩).run Tryz.prog w = .ok (.string N2) w)
    (RD : ∀ w1, Below w.heap.size w w1 → Calls Tryz.prog 22 #[] w1 fun e w' => e = .returned (.bool true) ∧ Below w1.heap.size w1 w')
    (Ev : ∀ w1, Below w.heap.size w w1 → Calls Tryz.prog 23 #[.string p, .slice ea n c] w1 fun e w' => e = .returned (.tuple #[vV v, .int .i64 fv, .int .i64 pv]) ∧ Below w1.heap.size w1 w')
    (Eu : ∀ w1, Below w.heap.size w w1 → Calls Tryz.prog 23 #[.string q, .slice ea n c] w1 fun e w' => e = .returned (.tuple #[vV u, .int .i64 fu, .int .i64 pu]) ∧ Below w1.heap.size w1 w')
    (Ex : ∀ w1, Below w.heap.size w w1 → Calls Tryz.prog 23 #[.string A4, .slice ea n c] w1 fun e w' => e = .returned (.tuple #[vV x, .int .i64 fx, .int .i64 px]) ∧ Below w1.heap.size w1 w')
    (Ey : ∀ w1, Below w.heap.size w w1 → Calls Tryz.prog 23 #[.string O4, .slice ea n c] w1 fun e w' => e = .returned (.tuple #[vV y, .int .i64 fy, .int .i64 py]) ∧ Below w1.heap.size w1 w')
    (Ez : ∀ w1, Below w.heap.size w w1 → Calls Tryz.prog 23 #[.string N2, .slice ea n c] w1 fun e w' => e = .returned (.tuple #[vV z, .int .i64 fz, .int .i64 pz]) ∧ Below w1.heap.size w1 w')
    (hf : (fv != 0) = true) :
    Calls Tryz.prog 7 #[.string p, .string q, .slice ea n c] w fun e w' => e = .returned (.bool true) ∧ Below w.heap.size w w' := by
  have HRD := hide RD
  have Hv := hide Ev
  have Hu := hide Eu
  have Hx := hide Ex
  have Hy := hide Ey
  have Hz := hide Ez
  clear RD Ev Eu Ex Ey Ez
  simp only [vV] at Hv Hu Hx Hy Hz
  have HB : Hid (Below w.heap.size w w) := hide (Below.refl _ _)
  go_enter Tryz.func7, Tryz.ntmps7
  go_wp2_with fail
  refine (unhide HRD _ (unhide HB)).mono ?_
  rintro e w0 ⟨rfl, hb⟩
  replace HB := hide (below_any (unhide HB) hb)
  clear hb
  go_wp2_with fail
  refine (unhide Hv _ (unhide HB)).mono ?_
  rintro e w1 ⟨rfl, hb⟩
  replace HB := hide (below_alloc (below_any (unhide HB) hb) (.cells #[.int .i64 v.kind, .int .i64 v.num, .string (BS v.str)] 26))
  have Kv := hide (vat_new w1 v)
  clear hb
  go_wp2_with fail
  refine (unhide Hu _ (unhide HB)).mono ?_
  rintro e w2 ⟨rfl, hb⟩
  replace HB := hide (below_alloc (below_any (unhide HB) hb) (.cells #[.int .i64 u.kind, .int .i64 u.num, .string (BS u.str)] 26))
  replace Kv := hide ((unhide Kv).step hb u)
  have Ku := hide (vat_new w2 u)
  clear hb
  go_wp2_with fail
  refine (unhide Hx _ (unhide HB)).mono ?_
  rintro e w3 ⟨rfl, hb⟩
  replace HB := hide (below_alloc (below_any (unhide HB) hb) (.cells #[.int .i64 x.kind, .int .i64 x.num, .string (BS x.str)] 26))
  replace Kv := hide ((unhide Kv).step hb x)
  replace Ku := hide ((unhide Ku).step hb x)
  have Kx := hide (vat_new w3 x)
  clear hb
  go_wp2_with fail
  refine (unhide Hy _ (unhide HB)).mono ?_
  rintro e w4 ⟨rfl, hb⟩
  replace HB := hide (below_alloc (below_any (unhide HB) hb) (.cells #[.int .i64 y.kind, .int .i64 y.num, .string (BS y.str)] 26))
  replace Kv := hide ((unhide Kv).step hb y)
  replace Ku := hide ((unhide Ku).step hb y)
  replace Kx := hide ((unhide Kx).step hb y)
  have Ky := hide (vat_new w4 y)
  clear hb
  go_wp2_with fail
  refine (unhide Hz _ (unhide HB)).mono ?_
  rintro e w5 ⟨rfl, hb⟩
  replace HB := hide (below_alloc (below_any (unhide HB) hb) (.cells #[.int .i64 z.kind, .int .i64 z.num, .string (BS z.str)] 26))
  replace Kv := hide ((unhide Kv).step hb z)
  replace Ku := hide ((unhide Ku).step hb z)
  replace Kx := hide ((unhide Kx).step hb z)
  replace Ky := hide ((unhide Ky).step hb z)
  have Kz := hide (vat_new w5 z)
  clear hb
  go_wp2_with fail
  go_ret
  exact ⟨rfl, unhide HB⟩
end

section
set_option maxHeartbeats 4000000 in
set_option maxRecDepth 100000 in
theorem logic_g (p q A1 A2 A3 A4 O2 O3 O4 N1 N2 : ByteArray) (ea : Option Addr) (n c : Nat) (v u x y z : V) (fv fu fx fy fz pv pu px py pz : Int) (w : World)
    (a1 : ∀ w : World, (Op.stringOp .add ⟨#[40]⟩ p).run Tryz.prog w = .ok (.string A1) w) (a2 : ∀ w : World, (Op.stringOp .add A1 ⟨#[41, 32, 65, 78, 68, 32, 40]⟩).run Tryz.prog w = .ok (.string A2) w) (a3 : ∀ w : World, (Op.stringOp .add A2 q).run Tryz.prog w = .ok (.string A3) w) (a4 : ∀ w : World, (Op.stringOp .add A3 ⟨#[41]⟩).run Tryz.prog w = .ok (.string A4) w)
    (o2 : ∀ w : World, (Op.stringOp .add A1 ⟨#[41, 32, 79, 82, 32, 40]⟩).run Tryz.prog w = .ok (.string O2) w) (o3 : ∀ w : World, (Op.stringOp .add O2 q).run Tryz.prog w = .ok (.string O3) w) (o4 : ∀ w : World, (Op.stringOp .add O3 ⟨#[41]⟩).run Tryz.prog w = .ok (.string O4) w)
    (n1 : ∀ w : World, (Op.stringOp .add ⟨#[78, 79, 84, 32, 40]⟩ p).run Tryz.prog w = .ok (.string N1) w) (n2 : ∀ w : World, (Op.stringOp .add N1 ⟨#[41]⟩).run Tryz.prog w = .ok (.string N2) w)
    (RD : ∀ w1, Below w.heap.size w w1 → Calls Tryz.prog 22 #[] w1 fun e w' => e = .returned (.bool true) ∧ Below w1.heap.size w1 w')
    (Ev : ∀ w1, Below w.heap.size w w1 → Calls Tryz.prog 23 #[.string p, .slice ea n c] w1 fun e w' => e = .returned (.tuple #[vV v, .int .i64 fv, .int .i64 pv]) ∧ Below w1.heap.size w1 w')
    (Eu : ∀ w1, Below w.heap.size w w1 → Calls Tryz.prog 23 #[.string q, .slice ea n c] w1 fun e w' => e = .returned (.tuple #[vV u, .int .i64 fu, .int .i64 pu]) ∧ Below w1.heap.size w1 w')
    (Ex : ∀ w1, Below w.heap.size w w1 → Calls Tryz.prog 23 #[.string A4, .slice ea n c] w1 fun e w' => e = .returned (.tuple #[vV x, .int .i64 fx, .int .i64 px]) ∧ Below w1.heap.size w1 w')
    (Ey : ∀ w1, Below w.heap.size w w1 → Calls Tryz.prog 23 #[.string O4, .slice ea n c] w1 fun e w' => e = .returned (.tuple #[vV y, .int .i64 fy, .int .i64 py]) ∧ Below w1.heap.size w1 w')
    (Ez : ∀ w1, Below w.heap.size w w1 → Calls Tryz.prog 23 #[.string N2, .slice ea n c] w1 fun e w' => e = .returned (.tuple #[vV z, .int .i64 fz, .int .i64 pz]) ∧ Below w1.heap.size w1 w')
    (hf : (fv != 0) = false) (hg : (fu != 0) = true) :
    Calls Tryz.prog 7 #[.string p, .string q, .slice ea n c] w fun e w' => e = .returned (.bool true) ∧ Below w.heap.size w w' := by
  have HRD := hide RD
  have Hv := hide Ev
  have Hu := hide Eu
  have Hx := hide Ex
  have Hy := hide Ey
  have Hz := hide Ez
  clear RD Ev Eu Ex Ey Ez
  simp only [vV] at Hv Hu Hx Hy Hz
  have HB : Hid (Below w.heap.size w w) := hide (Below.refl _ _)
  go_enter Tryz.func7, Tryz.ntmps7
  go_wp2_with fail
  refine (unhide HRD _ (unhide HB)).mono ?_
  rintro e w0 ⟨rfl, hb⟩
  replace HB := hide (below_any (unhide HB) hb)
  clear hb
  go_wp2_with fail
  refine (unhide Hv _ (unhide HB)).mono ?_
  rintro e w1 ⟨rfl, hb⟩
  replace HB := hide (below_alloc (below_any (unhide HB) hb) (.cells #[.int .i64 v.kind, .int .i64 v.num, .string (BS v.str)] 26))
  have Kv := hide (vat_new w1 v)
  clear hb
  go_wp2_with fail
  refine (unhide Hu _ (unhide HB)).mono ?_
  rintro e w2 ⟨rfl, hb⟩
  replace HB := hide (below_alloc (below_any (unhide HB) hb) (.cells #[.int .i64 u.kind, .int .i64 u.num, .string (BS u.str)] 26))
  replace Kv := hide ((unhide Kv).step hb u)
  have Ku := hide (vat_new w2 u)
  clear hb
  go_wp2_with fail
  refine (unhide Hx _ (unhide HB)).mono ?_
  rintro e w3 ⟨rfl, hb⟩
  replace HB := hide (below_alloc (below_any (unhide HB) hb) (.cells #[.int .i64 x.kind, .int .i64 x.num, .string (BS x.str)] 26))
  replace Kv := hide ((unhide Kv).step hb x)
  replace Ku := hide ((unhide Ku).step hb x)
  have Kx := hide (vat_new w3 x)
  clear hb
  go_wp2_with fail
  refine (unhide Hy _ (unhide HB)).mono ?_
  rintro e w4 ⟨rfl, hb⟩
  replace HB := hide (below_alloc (below_any (unhide HB) hb) (.cells #[.int .i64 y.kind, .int .i64 y.num, .string (BS y.str)] 26))
  replace Kv := hide ((unhide Kv).step hb y)
  replace Ku := hide ((unhide Ku).step hb y)
  replace Kx := hide ((unhide Kx).step hb y)
  have Ky := hide (vat_new w4 y)
  clear hb
  go_wp2_with fail
  refine (unhide Hz _ (unhide HB)).mono ?_
  rintro e w5 ⟨rfl, hb⟩
  replace HB := hide (below_alloc (below_any (unhide HB) hb) (.cells #[.int .i64 z.kind, .int .i64 z.num, .string (BS z.str)] 26))
  replace Kv := hide ((unhide Kv).step hb z)
  replace Ku := hide ((unhide Ku).step hb z)
  replace Kx := hide ((unhide Kx).step hb z)
  replace Ky := hide ((unhide Ky).step hb z)
  have Kz := hide (vat_new w5 z)
  clear hb
  go_wp2_with fail
  go_ret
  exact ⟨rfl, unhide HB⟩
end

section
set_option maxHeartbeats 4000000 in
set_option maxRecDepth 100000 in
theorem logic_cooo (p q A1 A2 A3 A4 O2 O3 O4 N1 N2 : ByteArray) (ea : Option Addr) (n c : Nat) (v u x y z : V) (fv fu fx fy fz pv pu px py pz : Int) (w : World)
    (a1 : ∀ w : World, (Op.stringOp .add ⟨#[40]⟩ p).run Tryz.prog w = .ok (.string A1) w) (a2 : ∀ w : World, (Op.stringOp .add A1 ⟨#[41, 32, 65, 78, 68, 32, 40]⟩).run Tryz.prog w = .ok (.string A2) w) (a3 : ∀ w : World, (Op.stringOp .add A2 q).run Tryz.prog w = .ok (.string A3) w) (a4 : ∀ w : World, (Op.stringOp .add A3 ⟨#[41]⟩).run Tryz.prog w = .ok (.string A4) w)
    (o2 : ∀ w : World, (Op.stringOp .add A1 ⟨#[41, 32, 79, 82, 32, 40]⟩).run Tryz.prog w = .ok (.string O2) w) (o3 : ∀ w : World, (Op.stringOp .add O2 q).run Tryz.prog w = .ok (.string O3) w) (o4 : ∀ w : World, (Op.stringOp .add O3 ⟨#[41]⟩).run Tryz.prog w = .ok (.string O4) w)
    (n1 : ∀ w : World, (Op.stringOp .add ⟨#[78, 79, 84, 32, 40]⟩ p).run Tryz.prog w = .ok (.string N1) w) (n2 : ∀ w : World, (Op.stringOp .add N1 ⟨#[41]⟩).run Tryz.prog w = .ok (.string N2) w)
    (RD : ∀ w1, Below w.heap.size w w1 → Calls Tryz.prog 22 #[] w1 fun e w' => e = .returned (.bool true) ∧ Below w1.heap.size w1 w')
    (Ev : ∀ w1, Below w.heap.size w w1 → Calls Tryz.prog 23 #[.string p, .slice ea n c] w1 fun e w' => e = .returned (.tuple #[vV v, .int .i64 fv, .int .i64 pv]) ∧ Below w1.heap.size w1 w')
    (Eu : ∀ w1, Below w.heap.size w w1 → Calls Tryz.prog 23 #[.string q, .slice ea n c] w1 fun e w' => e = .returned (.tuple #[vV u, .int .i64 fu, .int .i64 pu]) ∧ Below w1.heap.size w1 w')
    (Ex : ∀ w1, Below w.heap.size w w1 → Calls Tryz.prog 23 #[.string A4, .slice ea n c] w1 fun e w' => e = .returned (.tuple #[vV x, .int .i64 fx, .int .i64 px]) ∧ Below w1.heap.size w1 w')
    (Ey : ∀ w1, Below w.heap.size w w1 → Calls Tryz.prog 23 #[.string O4, .slice ea n c] w1 fun e w' => e = .returned (.tuple #[vV y, .int .i64 fy, .int .i64 py]) ∧ Below w1.heap.size w1 w')
    (Ez : ∀ w1, Below w.heap.size w w1 → Calls Tryz.prog 23 #[.string N2, .slice ea n c] w1 fun e w' => e = .returned (.tuple #[vV z, .int .i64 fz, .int .i64 pz]) ∧ Below w1.heap.size w1 w')
    (hf : (fv != 0) = false) (hg : (fu != 0) = false) (hx : (fx == 0) = true) (cx : kAnd v u = x) (hy : (fy == 0) = true) (cy : kOr v u = y) (hz : (fz == 0) = true) (cz : notV v = z) :
    Calls Tryz.prog 7 #[.string p, .string q, .slice ea n c] w fun e w' => e = .returned (.bool true) ∧ Below w.heap.size w w' := by
  have HRD := hide RD
  have Hv := hide Ev
  have Hu := hide Eu
  have Hx := hide Ex
  have Hy := hide Ey
  have Hz := hide Ez
  clear RD Ev Eu Ex Ey Ez
  simp only [vV] at Hv Hu Hx Hy Hz
  have Cx : Hid (∀ w, Calls Tryz.prog 25 #[vV v, vV u] w fun e w' => e = .returned (vV x) ∧ Below w.heap.size w w') := hide (fun w => cx ▸ kAnd_any v u w)
  simp only [vV] at Cx
  have qx : ∀ w, (binOp .eql 26 (.agg #[.int .i64 x.kind, .int .i64 x.num, .string (BS x.str)]) (.agg #[.int .i64 x.kind, .int .i64 x.num, .string (BS x.str)])).run Tryz.prog w = .ok (.bool true) w := fun w => by have := eql_v x x w; simpa [vV] using this
  clear cx
  have Cy : Hid (∀ w, Calls Tryz.prog 26 #[vV v, vV u] w fun e w' => e = .returned (vV y) ∧ Below w.heap.size w w') := hide (fun w => cy ▸ kOr_any v u w)
  simp only [vV] at Cy
  have qy : ∀ w, (binOp .eql 26 (.agg #[.int .i64 y.kind, .int .i64 y.num, .string (BS y.str)]) (.agg #[.int .i64 y.kind, .int .i64 y.num, .string (BS y.str)])).run Tryz.prog w = .ok (.bool true) w := fun w => by have := eql_v y y w; simpa [vV] using this
  clear cy
  have Cz : Hid (∀ w, Calls Tryz.prog 27 #[vV v] w fun e w' => e = .returned (vV z) ∧ Below w.heap.size w w') := hide (fun w => cz ▸ kNot_any v w)
  simp only [vV] at Cz
  have qz : ∀ w, (binOp .eql 26 (.agg #[.int .i64 z.kind, .int .i64 z.num, .string (BS z.str)]) (.agg #[.int .i64 z.kind, .int .i64 z.num, .string (BS z.str)])).run Tryz.prog w = .ok (.bool true) w := fun w => by have := eql_v z z w; simpa [vV] using this
  clear cz
  have HB : Hid (Below w.heap.size w w) := hide (Below.refl _ _)
  go_enter Tryz.func7, Tryz.ntmps7
  go_wp2_with fail
  refine (unhide HRD _ (unhide HB)).mono ?_
  rintro e w0 ⟨rfl, hb⟩
  replace HB := hide (below_any (unhide HB) hb)
  clear hb
  go_wp2_with fail
  refine (unhide Hv _ (unhide HB)).mono ?_
  rintro e w1 ⟨rfl, hb⟩
  replace HB := hide (below_alloc (below_any (unhide HB) hb) (.cells #[.int .i64 v.kind, .int .i64 v.num, .string (BS v.str)] 26))
  have Kv := hide (vat_new w1 v)
  clear hb
  go_wp2_with fail
  refine (unhide Hu _ (unhide HB)).mono ?_
  rintro e w2 ⟨rfl, hb⟩
  replace HB := hide (below_alloc (below_any (unhide HB) hb) (.cells #[.int .i64 u.kind, .int .i64 u.num, .string (BS u.str)] 26))
  replace Kv := hide ((unhide Kv).step hb u)
  have Ku := hide (vat_new w2 u)
  clear hb
  go_wp2_with fail
  refine (unhide Hx _ (unhide HB)).mono ?_
  rintro e w3 ⟨rfl, hb⟩
  replace HB := hide (below_alloc (below_any (unhide HB) hb) (.cells #[.int .i64 x.kind, .int .i64 x.num, .string (BS x.str)] 26))
  replace Kv := hide ((unhide Kv).step hb x)
  replace Ku := hide ((unhide Ku).step hb x)
  have Kx := hide (vat_new w3 x)
  clear hb
  go_wp2_with fail
  refine (unhide Hy _ (unhide HB)).mono ?_
  rintro e w4 ⟨rfl, hb⟩
  replace HB := hide (below_alloc (below_any (unhide HB) hb) (.cells #[.int .i64 y.kind, .int .i64 y.num, .string (BS y.str)] 26))
  replace Kv := hide ((unhide Kv).step hb y)
  replace Ku := hide ((unhide Ku).step hb y)
  replace Kx := hide ((unhide Kx).step hb y)
  have Ky := hide (vat_new w4 y)
  clear hb
  go_wp2_with fail
  refine (unhide Hz _ (unhide HB)).mono ?_
  rintro e w5 ⟨rfl, hb⟩
  replace HB := hide (below_alloc (below_any (unhide HB) hb) (.cells #[.int .i64 z.kind, .int .i64 z.num, .string (BS z.str)] 26))
  replace Kv := hide ((unhide Kv).step hb z)
  replace Ku := hide ((unhide Ku).step hb z)
  replace Kx := hide ((unhide Kx).step hb z)
  replace Ky := hide ((unhide Ky).step hb z)
  have Kz := hide (vat_new w5 z)
  clear hb
  obtain ⟨x0, x1, x2, xl⟩ := unhide Kx
  obtain ⟨v0, v1, v2, vl⟩ := unhide Kv
  obtain ⟨u0, u1, u2, ul⟩ := unhide Ku
  go_wp2_with (go_at_call 24; refine (tooBig_any _ _).mono ?_; rintro e wt ⟨rfl, hwt⟩; subst wt)
  go_cut [23] (fun s wx => s = .bool true ∧ Hid (Below w.heap.size w wx ∧ VatAll wx v w1.heap.size u w2.heap.size x w3.heap.size y w4.heap.size z w5.heap.size))
  case first =>
    go_region_held3 (fun W => W.cell? ⟨w3.heap.size, 0, none⟩ = some (.int .i64 x.kind) ∧ W.cell? ⟨w3.heap.size, 1, none⟩ = some (.int .i64 x.num) ∧ W.cell? ⟨w3.heap.size, 2, none⟩ = some (.string (BS x.str)) ∧ W.cell? ⟨w1.heap.size, 0, none⟩ = some (.int .i64 v.kind) ∧ W.cell? ⟨w1.heap.size, 1, none⟩ = some (.int .i64 v.num) ∧ W.cell? ⟨w1.heap.size, 2, none⟩ = some (.string (BS v.str)) ∧ W.cell? ⟨w2.heap.size, 0, none⟩ = some (.int .i64 u.kind) ∧ W.cell? ⟨w2.heap.size, 1, none⟩ = some (.int .i64 u.num) ∧ W.cell? ⟨w2.heap.size, 2, none⟩ = some (.string (BS u.str))) (go_keep) (first | (go_at_call 25; refine (unhide Cx _).mono ?_; rintro e w6 ⟨rfl, hb⟩; have HB6 := hide (below_any (unhide HB).drew hb); have AL := hide (VatAll.below (VatAll.drew ⟨unhide Kv, unhide Ku, unhide Kx, unhide Ky, unhide Kz⟩) hb); have x0' := ((bcell hb).1 _ 0 xl).trans x0; have x1' := ((bcell hb).1 _ 1 xl).trans x1; have x2' := ((bcell hb).1 _ 2 xl).trans x2; have v0' := ((bcell hb).1 _ 0 vl).trans v0; have v1' := ((bcell hb).1 _ 1 vl).trans v1; have v2' := ((bcell hb).1 _ 2 vl).trans v2; have u0' := ((bcell hb).1 _ 0 ul).trans u0; have u1' := ((bcell hb).1 _ 1 ul).trans u1; have u2' := ((bcell hb).1 _ 2 ul).trans u2; clear hb))
    all_goals (go_wp2_with fail; go_meet; exact ⟨rfl, hide ⟨unhide HB6, unhide AL⟩⟩)
  case rest =>
  obtain ⟨rfl, hc⟩ := hcut
  replace HB := hide (unhide hc).1
  obtain ⟨Kv', Ku', Kx', Ky', Kz'⟩ := (unhide hc).2
  have Kv := hide Kv'
  have Ku := hide Ku'
  have Kx := hide Kx'
  have Ky := hide Ky'
  have Kz := hide Kz'
  clear hc Kv' Ku' Kx' Ky' Kz'
  obtain ⟨y0, y1, y2, yl⟩ := unhide Ky
  obtain ⟨v0, v1, v2, vl⟩ := unhide Kv
  obtain ⟨u0, u1, u2, ul⟩ := unhide Ku
  go_wp2_with (go_at_call 24; refine (tooBig_any _ _).mono ?_; rintro e wt ⟨rfl, hwt⟩; subst wt)
  go_cut [24] (fun s wx => s = .bool true ∧ Hid (Below w.heap.size w wx ∧ VatAll wx v w1.heap.size u w2.heap.size x w3.heap.size y w4.heap.size z w5.heap.size))
  case first =>
    go_region_held3 (fun W => W.cell? ⟨w4.heap.size, 0, none⟩ = some (.int .i64 y.kind) ∧ W.cell? ⟨w4.heap.size, 1, none⟩ = some (.int .i64 y.num) ∧ W.cell? ⟨w4.heap.size, 2, none⟩ = some (.string (BS y.str)) ∧ W.cell? ⟨w1.heap.size, 0, none⟩ = some (.int .i64 v.kind) ∧ W.cell? ⟨w1.heap.size, 1, none⟩ = some (.int .i64 v.num) ∧ W.cell? ⟨w1.heap.size, 2, none⟩ = some (.string (BS v.str)) ∧ W.cell? ⟨w2.heap.size, 0, none⟩ = some (.int .i64 u.kind) ∧ W.cell? ⟨w2.heap.size, 1, none⟩ = some (.int .i64 u.num) ∧ W.cell? ⟨w2.heap.size, 2, none⟩ = some (.string (BS u.str))) (go_keep) (first | (go_at_call 26; refine (unhide Cy _).mono ?_; rintro e w7 ⟨rfl, hb⟩; have HB7 := hide (below_any (unhide HB).drew hb); have AL := hide (VatAll.below (VatAll.drew ⟨unhide Kv, unhide Ku, unhide Kx, unhide Ky, unhide Kz⟩) hb); have y0' := ((bcell hb).1 _ 0 yl).trans y0; have y1' := ((bcell hb).1 _ 1 yl).trans y1; have y2' := ((bcell hb).1 _ 2 yl).trans y2; have v0' := ((bcell hb).1 _ 0 vl).trans v0; have v1' := ((bcell hb).1 _ 1 vl).trans v1; have v2' := ((bcell hb).1 _ 2 vl).trans v2; have u0' := ((bcell hb).1 _ 0 ul).trans u0; have u1' := ((bcell hb).1 _ 1 ul).trans u1; have u2' := ((bcell hb).1 _ 2 ul).trans u2; clear hb))
    all_goals (go_wp2_with fail; go_meet; exact ⟨rfl, hide ⟨unhide HB7, unhide AL⟩⟩)
  case rest =>
  obtain ⟨rfl, hc⟩ := hcut
  replace HB := hide (unhide hc).1
  obtain ⟨Kv', Ku', Kx', Ky', Kz'⟩ := (unhide hc).2
  have Kv := hide Kv'
  have Ku := hide Ku'
  have Kx := hide Kx'
  have Ky := hide Ky'
  have Kz := hide Kz'
  clear hc Kv' Ku' Kx' Ky' Kz'
  obtain ⟨z0, z1, z2, zl⟩ := unhide Kz
  obtain ⟨v0, v1, v2, vl⟩ := unhide Kv
  go_wp2_with (go_at_call 24; refine (tooBig_any _ _).mono ?_; rintro e wt ⟨rfl, hwt⟩; subst wt)
  go_cut [25] (fun s wx => s = .bool true ∧ Hid (Below w.heap.size w wx ∧ VatAll wx v w1.heap.size u w2.heap.size x w3.heap.size y w4.heap.size z w5.heap.size))
  case first =>
    go_region_held3 (fun W => W.cell? ⟨w5.heap.size, 0, none⟩ = some (.int .i64 z.kind) ∧ W.cell? ⟨w5.heap.size, 1, none⟩ = some (.int .i64 z.num) ∧ W.cell? ⟨w5.heap.size, 2, none⟩ = some (.string (BS z.str)) ∧ W.cell? ⟨w1.heap.size, 0, none⟩ = some (.int .i64 v.kind) ∧ W.cell? ⟨w1.heap.size, 1, none⟩ = some (.int .i64 v.num) ∧ W.cell? ⟨w1.heap.size, 2, none⟩ = some (.string (BS v.str))) (go_keep) (first | (go_at_call 27; refine (unhide Cz _).mono ?_; rintro e w8 ⟨rfl, hb⟩; have HB8 := hide (below_any (unhide HB).drew hb); have AL := hide (VatAll.below (VatAll.drew ⟨unhide Kv, unhide Ku, unhide Kx, unhide Ky, unhide Kz⟩) hb); have z0' := ((bcell hb).1 _ 0 zl).trans z0; have z1' := ((bcell hb).1 _ 1 zl).trans z1; have z2' := ((bcell hb).1 _ 2 zl).trans z2; have v0' := ((bcell hb).1 _ 0 vl).trans v0; have v1' := ((bcell hb).1 _ 1 vl).trans v1; have v2' := ((bcell hb).1 _ 2 vl).trans v2; clear hb))
    all_goals (go_wp2_with fail; go_meet; exact ⟨rfl, hide ⟨unhide HB8, unhide AL⟩⟩)
  case rest =>
  obtain ⟨rfl, hc⟩ := hcut
  replace HB := hide (unhide hc).1
  obtain ⟨Kv', Ku', Kx', Ky', Kz'⟩ := (unhide hc).2
  have Kv := hide Kv'
  have Ku := hide Ku'
  have Kx := hide Kx'
  have Ky := hide Ky'
  have Kz := hide Kz'
  clear hc Kv' Ku' Kx' Ky' Kz'
  go_wp2_with fail
  go_ret
  exact ⟨rfl, unhide HB⟩
end

section
set_option maxHeartbeats 4000000 in
set_option maxRecDepth 100000 in
theorem logic_coob (p q A1 A2 A3 A4 O2 O3 O4 N1 N2 : ByteArray) (ea : Option Addr) (n c : Nat) (v u x y z : V) (fv fu fx fy fz pv pu px py pz : Int) (w : World)
    (a1 : ∀ w : World, (Op.stringOp .add ⟨#[40]⟩ p).run Tryz.prog w = .ok (.string A1) w) (a2 : ∀ w : World, (Op.stringOp .add A1 ⟨#[41, 32, 65, 78, 68, 32, 40]⟩).run Tryz.prog w = .ok (.string A2) w) (a3 : ∀ w : World, (Op.stringOp .add A2 q).run Tryz.prog w = .ok (.string A3) w) (a4 : ∀ w : World, (Op.stringOp .add A3 ⟨#[41]⟩).run Tryz.prog w = .ok (.string A4) w)
    (o2 : ∀ w : World, (Op.stringOp .add A1 ⟨#[41, 32, 79, 82, 32, 40]⟩).run Tryz.prog w = .ok (.string O2) w) (o3 : ∀ w : World, (Op.stringOp .add O2 q).run Tryz.prog w = .ok (.string O3) w) (o4 : ∀ w : World, (Op.stringOp .add O3 ⟨#[41]⟩).run Tryz.prog w = .ok (.string O4) w)
    (n1 : ∀ w : World, (Op.stringOp .add ⟨#[78, 79, 84, 32, 40]⟩ p).run Tryz.prog w = .ok (.string N1) w) (n2 : ∀ w : World, (Op.stringOp .add N1 ⟨#[41]⟩).run Tryz.prog w = .ok (.string N2) w)
    (RD : ∀ w1, Below w.heap.size w w1 → Calls Tryz.prog 22 #[] w1 fun e w' => e = .returned (.bool true) ∧ Below w1.heap.size w1 w')
    (Ev : ∀ w1, Below w.heap.size w w1 → Calls Tryz.prog 23 #[.string p, .slice ea n c] w1 fun e w' => e = .returned (.tuple #[vV v, .int .i64 fv, .int .i64 pv]) ∧ Below w1.heap.size w1 w')
    (Eu : ∀ w1, Below w.heap.size w w1 → Calls Tryz.prog 23 #[.string q, .slice ea n c] w1 fun e w' => e = .returned (.tuple #[vV u, .int .i64 fu, .int .i64 pu]) ∧ Below w1.heap.size w1 w')
    (Ex : ∀ w1, Below w.heap.size w w1 → Calls Tryz.prog 23 #[.string A4, .slice ea n c] w1 fun e w' => e = .returned (.tuple #[vV x, .int .i64 fx, .int .i64 px]) ∧ Below w1.heap.size w1 w')
    (Ey : ∀ w1, Below w.heap.size w w1 → Calls Tryz.prog 23 #[.string O4, .slice ea n c] w1 fun e w' => e = .returned (.tuple #[vV y, .int .i64 fy, .int .i64 py]) ∧ Below w1.heap.size w1 w')
    (Ez : ∀ w1, Below w.heap.size w w1 → Calls Tryz.prog 23 #[.string N2, .slice ea n c] w1 fun e w' => e = .returned (.tuple #[vV z, .int .i64 fz, .int .i64 pz]) ∧ Below w1.heap.size w1 w')
    (hf : (fv != 0) = false) (hg : (fu != 0) = false) (hx : (fx == 0) = true) (cx : kAnd v u = x) (hy : (fy == 0) = true) (cy : kOr v u = y) (hz : (fz == 0) = false) (bgz : bigB fz = true) :
    Calls Tryz.prog 7 #[.string p, .string q, .slice ea n c] w fun e w' => e = .returned (.bool true) ∧ Below w.heap.size w w' := by
  have HRD := hide RD
  have Hv := hide Ev
  have Hu := hide Eu
  have Hx := hide Ex
  have Hy := hide Ey
  have Hz := hide Ez
  clear RD Ev Eu Ex Ey Ez
  simp only [vV] at Hv Hu Hx Hy Hz
  have Cx : Hid (∀ w, Calls Tryz.prog 25 #[vV v, vV u] w fun e w' => e = .returned (vV x) ∧ Below w.heap.size w w') := hide (fun w => cx ▸ kAnd_any v u w)
  simp only [vV] at Cx
  have qx : ∀ w, (binOp .eql 26 (.agg #[.int .i64 x.kind, .int .i64 x.num, .string (BS x.str)]) (.agg #[.int .i64 x.kind, .int .i64 x.num, .string (BS x.str)])).run Tryz.prog w = .ok (.bool true) w := fun w => by have := eql_v x x w; simpa [vV] using this
  clear cx
  have Cy : Hid (∀ w, Calls Tryz.prog 26 #[vV v, vV u] w fun e w' => e = .returned (vV y) ∧ Below w.heap.size w w') := hide (fun w => cy ▸ kOr_any v u w)
  simp only [vV] at Cy
  have qy : ∀ w, (binOp .eql 26 (.agg #[.int .i64 y.kind, .int .i64 y.num, .string (BS y.str)]) (.agg #[.int .i64 y.kind, .int .i64 y.num, .string (BS y.str)])).run Tryz.prog w = .ok (.bool true) w := fun w => by have := eql_v y y w; simpa [vV] using this
  clear cy
  have HB : Hid (Below w.heap.size w w) := hide (Below.refl _ _)
  go_enter Tryz.func7, Tryz.ntmps7
  go_wp2_with fail
  refine (unhide HRD _ (unhide HB)).mono ?_
  rintro e w0 ⟨rfl, hb⟩
  replace HB := hide (below_any (unhide HB) hb)
  clear hb
  go_wp2_with fail
  refine (unhide Hv _ (unhide HB)).mono ?_
  rintro e w1 ⟨rfl, hb⟩
  replace HB := hide (below_alloc (below_any (unhide HB) hb) (.cells #[.int .i64 v.kind, .int .i64 v.num, .string (BS v.str)] 26))
  have Kv := hide (vat_new w1 v)
  clear hb
  go_wp2_with fail
  refine (unhide Hu _ (unhide HB)).mono ?_
  rintro e w2 ⟨rfl, hb⟩
  replace HB := hide (below_alloc (below_any (unhide HB) hb) (.cells #[.int .i64 u.kind, .int .i64 u.num, .string (BS u.str)] 26))
  replace Kv := hide ((unhide Kv).step hb u)
  have Ku := hide (vat_new w2 u)
  clear hb
  go_wp2_with fail
  refine (unhide Hx _ (unhide HB)).mono ?_
  rintro e w3 ⟨rfl, hb⟩
  replace HB := hide (below_alloc (below_any (unhide HB) hb) (.cells #[.int .i64 x.kind, .int .i64 x.num, .string (BS x.str)] 26))
  replace Kv := hide ((unhide Kv).step hb x)
  replace Ku := hide ((unhide Ku).step hb x)
  have Kx := hide (vat_new w3 x)
  clear hb
  go_wp2_with fail
  refine (unhide Hy _ (unhide HB)).mono ?_
  rintro e w4 ⟨rfl, hb⟩
  replace HB := hide (below_alloc (below_any (unhide HB) hb) (.cells #[.int .i64 y.kind, .int .i64 y.num, .string (BS y.str)] 26))
  replace Kv := hide ((unhide Kv).step hb y)
  replace Ku := hide ((unhide Ku).step hb y)
  replace Kx := hide ((unhide Kx).step hb y)
  have Ky := hide (vat_new w4 y)
  clear hb
  go_wp2_with fail
  refine (unhide Hz _ (unhide HB)).mono ?_
  rintro e w5 ⟨rfl, hb⟩
  replace HB := hide (below_alloc (below_any (unhide HB) hb) (.cells #[.int .i64 z.kind, .int .i64 z.num, .string (BS z.str)] 26))
  replace Kv := hide ((unhide Kv).step hb z)
  replace Ku := hide ((unhide Ku).step hb z)
  replace Kx := hide ((unhide Kx).step hb z)
  replace Ky := hide ((unhide Ky).step hb z)
  have Kz := hide (vat_new w5 z)
  clear hb
  obtain ⟨x0, x1, x2, xl⟩ := unhide Kx
  obtain ⟨v0, v1, v2, vl⟩ := unhide Kv
  obtain ⟨u0, u1, u2, ul⟩ := unhide Ku
  go_wp2_with (go_at_call 24; refine (tooBig_any _ _).mono ?_; rintro e wt ⟨rfl, hwt⟩; subst wt)
  go_cut [23] (fun s wx => s = .bool true ∧ Hid (Below w.heap.size w wx ∧ VatAll wx v w1.heap.size u w2.heap.size x w3.heap.size y w4.heap.size z w5.heap.size))
  case first =>
    go_region_held3 (fun W => W.cell? ⟨w3.heap.size, 0, none⟩ = some (.int .i64 x.kind) ∧ W.cell? ⟨w3.heap.size, 1, none⟩ = some (.int .i64 x.num) ∧ W.cell? ⟨w3.heap.size, 2, none⟩ = some (.string (BS x.str)) ∧ W.cell? ⟨w1.heap.size, 0, none⟩ = some (.int .i64 v.kind) ∧ W.cell? ⟨w1.heap.size, 1, none⟩ = some (.int .i64 v.num) ∧ W.cell? ⟨w1.heap.size, 2, none⟩ = some (.string (BS v.str)) ∧ W.cell? ⟨w2.heap.size, 0, none⟩ = some (.int .i64 u.kind) ∧ W.cell? ⟨w2.heap.size, 1, none⟩ = some (.int .i64 u.num) ∧ W.cell? ⟨w2.heap.size, 2, none⟩ = some (.string (BS u.str))) (go_keep) (first | (go_at_call 25; refine (unhide Cx _).mono ?_; rintro e w6 ⟨rfl, hb⟩; have HB6 := hide (below_any (unhide HB).drew hb); have AL := hide (VatAll.below (VatAll.drew ⟨unhide Kv, unhide Ku, unhide Kx, unhide Ky, unhide Kz⟩) hb); have x0' := ((bcell hb).1 _ 0 xl).trans x0; have x1' := ((bcell hb).1 _ 1 xl).trans x1; have x2' := ((bcell hb).1 _ 2 xl).trans x2; have v0' := ((bcell hb).1 _ 0 vl).trans v0; have v1' := ((bcell hb).1 _ 1 vl).trans v1; have v2' := ((bcell hb).1 _ 2 vl).trans v2; have u0' := ((bcell hb).1 _ 0 ul).trans u0; have u1' := ((bcell hb).1 _ 1 ul).trans u1; have u2' := ((bcell hb).1 _ 2 ul).trans u2; clear hb))
    all_goals (go_wp2_with fail; go_meet; exact ⟨rfl, hide ⟨unhide HB6, unhide AL⟩⟩)
  case rest =>
  obtain ⟨rfl, hc⟩ := hcut
  replace HB := hide (unhide hc).1
  obtain ⟨Kv', Ku', Kx', Ky', Kz'⟩ := (unhide hc).2
  have Kv := hide Kv'
  have Ku := hide Ku'
  have Kx := hide Kx'
  have Ky := hide Ky'
  have Kz := hide Kz'
  clear hc Kv' Ku' Kx' Ky' Kz'
  obtain ⟨y0, y1, y2, yl⟩ := unhide Ky
  obtain ⟨v0, v1, v2, vl⟩ := unhide Kv
  obtain ⟨u0, u1, u2, ul⟩ := unhide Ku
  go_wp2_with (go_at_call 24; refine (tooBig_any _ _).mono ?_; rintro e wt ⟨rfl, hwt⟩; subst wt)
  go_cut [24] (fun s wx => s = .bool true ∧ Hid (Below w.heap.size w wx ∧ VatAll wx v w1.heap.size u w2.heap.size x w3.heap.size y w4.heap.size z w5.heap.size))
  case first =>
    go_region_held3 (fun W => W.cell? ⟨w4.heap.size, 0, none⟩ = some (.int .i64 y.kind) ∧ W.cell? ⟨w4.heap.size, 1, none⟩ = some (.int .i64 y.num) ∧ W.cell? ⟨w4.heap.size, 2, none⟩ = some (.string (BS y.str)) ∧ W.cell? ⟨w1.heap.size, 0, none⟩ = some (.int .i64 v.kind) ∧ W.cell? ⟨w1.heap.size, 1, none⟩ = some (.int .i64 v.num) ∧ W.cell? ⟨w1.heap.size, 2, none⟩ = some (.string (BS v.str)) ∧ W.cell? ⟨w2.heap.size, 0, none⟩ = some (.int .i64 u.kind) ∧ W.cell? ⟨w2.heap.size, 1, none⟩ = some (.int .i64 u.num) ∧ W.cell? ⟨w2.heap.size, 2, none⟩ = some (.string (BS u.str))) (go_keep) (first | (go_at_call 26; refine (unhide Cy _).mono ?_; rintro e w7 ⟨rfl, hb⟩; have HB7 := hide (below_any (unhide HB).drew hb); have AL := hide (VatAll.below (VatAll.drew ⟨unhide Kv, unhide Ku, unhide Kx, unhide Ky, unhide Kz⟩) hb); have y0' := ((bcell hb).1 _ 0 yl).trans y0; have y1' := ((bcell hb).1 _ 1 yl).trans y1; have y2' := ((bcell hb).1 _ 2 yl).trans y2; have v0' := ((bcell hb).1 _ 0 vl).trans v0; have v1' := ((bcell hb).1 _ 1 vl).trans v1; have v2' := ((bcell hb).1 _ 2 vl).trans v2; have u0' := ((bcell hb).1 _ 0 ul).trans u0; have u1' := ((bcell hb).1 _ 1 ul).trans u1; have u2' := ((bcell hb).1 _ 2 ul).trans u2; clear hb))
    all_goals (go_wp2_with fail; go_meet; exact ⟨rfl, hide ⟨unhide HB7, unhide AL⟩⟩)
  case rest =>
  obtain ⟨rfl, hc⟩ := hcut
  replace HB := hide (unhide hc).1
  obtain ⟨Kv', Ku', Kx', Ky', Kz'⟩ := (unhide hc).2
  have Kv := hide Kv'
  have Ku := hide Ku'
  have Kx := hide Kx'
  have Ky := hide Ky'
  have Kz := hide Kz'
  clear hc Kv' Ku' Kx' Ky' Kz'
  go_wp2_with (go_at_call 24; refine (tooBig_any _ _).mono ?_; rintro e wt ⟨rfl, hwt⟩; subst wt)
  go_wp2_with fail
  go_ret
  exact ⟨rfl, unhide HB⟩
end

section
set_option maxHeartbeats 4000000 in
set_option maxRecDepth 100000 in
theorem logic_cobo (p q A1 A2 A3 A4 O2 O3 O4 N1 N2 : ByteArray) (ea : Option Addr) (n c : Nat) (v u x y z : V) (fv fu fx fy fz pv pu px py pz : Int) (w : World)
    (a1 : ∀ w : World, (Op.stringOp .add ⟨#[40]⟩ p).run Tryz.prog w = .ok (.string A1) w) (a2 : ∀ w : World, (Op.stringOp .add A1 ⟨#[41, 32, 65, 78, 68, 32, 40]⟩).run Tryz.prog w = .ok (.string A2) w) (a3 : ∀ w : World, (Op.stringOp .add A2 q).run Tryz.prog w = .ok (.string A3) w) (a4 : ∀ w : World, (Op.stringOp .add A3 ⟨#[41]⟩).run Tryz.prog w = .ok (.string A4) w)
    (o2 : ∀ w : World, (Op.stringOp .add A1 ⟨#[41, 32, 79, 82, 32, 40]⟩).run Tryz.prog w = .ok (.string O2) w) (o3 : ∀ w : World, (Op.stringOp .add O2 q).run Tryz.prog w = .ok (.string O3) w) (o4 : ∀ w : World, (Op.stringOp .add O3 ⟨#[41]⟩).run Tryz.prog w = .ok (.string O4) w)
    (n1 : ∀ w : World, (Op.stringOp .add ⟨#[78, 79, 84, 32, 40]⟩ p).run Tryz.prog w = .ok (.string N1) w) (n2 : ∀ w : World, (Op.stringOp .add N1 ⟨#[41]⟩).run Tryz.prog w = .ok (.string N2) w)
    (RD : ∀ w1, Below w.heap.size w w1 → Calls Tryz.prog 22 #[] w1 fun e w' => e = .returned (.bool true) ∧ Below w1.heap.size w1 w')
    (Ev : ∀ w1, Below w.heap.size w w1 → Calls Tryz.prog 23 #[.string p, .slice ea n c] w1 fun e w' => e = .returned (.tuple #[vV v, .int .i64 fv, .int .i64 pv]) ∧ Below w1.heap.size w1 w')
    (Eu : ∀ w1, Below w.heap.size w w1 → Calls Tryz.prog 23 #[.string q, .slice ea n c] w1 fun e w' => e = .returned (.tuple #[vV u, .int .i64 fu, .int .i64 pu]) ∧ Below w1.heap.size w1 w')
    (Ex : ∀ w1, Below w.heap.size w w1 → Calls Tryz.prog 23 #[.string A4, .slice ea n c] w1 fun e w' => e = .returned (.tuple #[vV x, .int .i64 fx, .int .i64 px]) ∧ Below w1.heap.size w1 w')
    (Ey : ∀ w1, Below w.heap.size w w1 → Calls Tryz.prog 23 #[.string O4, .slice ea n c] w1 fun e w' => e = .returned (.tuple #[vV y, .int .i64 fy, .int .i64 py]) ∧ Below w1.heap.size w1 w')
    (Ez : ∀ w1, Below w.heap.size w w1 → Calls Tryz.prog 23 #[.string N2, .slice ea n c] w1 fun e w' => e = .returned (.tuple #[vV z, .int .i64 fz, .int .i64 pz]) ∧ Below w1.heap.size w1 w')
    (hf : (fv != 0) = false) (hg : (fu != 0) = false) (hx : (fx == 0) = true) (cx : kAnd v u = x) (hy : (fy == 0) = false) (bgy : bigB fy = true) (hz : (fz == 0) = true) (cz : notV v = z) :
    Calls Tryz.prog 7 #[.string p, .string q, .slice ea n c] w fun e w' => e = .returned (.bool true) ∧ Below w.heap.size w w' := by
  have HRD := hide RD
  have Hv := hide Ev
  have Hu := hide Eu
  have Hx := hide Ex
  have Hy := hide Ey
  have Hz := hide Ez
  clear RD Ev Eu Ex Ey Ez
  simp only [vV] at Hv Hu Hx Hy Hz
  have Cx : Hid (∀ w, Calls Tryz.prog 25 #[vV v, vV u] w fun e w' => e = .returned (vV x) ∧ Below w.heap.size w w') := hide (fun w => cx ▸ kAnd_any v u w)
  simp only [vV] at Cx
  have qx : ∀ w, (binOp .eql 26 (.agg #[.int .i64 x.kind, .int .i64 x.num, .string (BS x.str)]) (.agg #[.int .i64 x.kind, .int .i64 x.num, .string (BS x.str)])).run Tryz.prog w = .ok (.bool true) w := fun w => by have := eql_v x x w; simpa [vV] using this
  clear cx
  have Cz : Hid (∀ w, Calls Tryz.prog 27 #[vV v] w fun e w' => e = .returned (vV z) ∧ Below w.heap.size w w') := hide (fun w => cz ▸ kNot_any v w)
  simp only [vV] at Cz
  have qz : ∀ w, (binOp .eql 26 (.agg #[.int .i64 z.kind, .int .i64 z.num, .string (BS z.str)]) (.agg #[.int .i64 z.kind, .int .i64 z.num, .string (BS z.str)])).run Tryz.prog w = .ok (.bool true) w := fun w => by have := eql_v z z w; simpa [vV] using this
  clear cz
  have HB : Hid (Below w.heap.size w w) := hide (Below.refl _ _)
  go_enter Tryz.func7, Tryz.ntmps7
  go_wp2_with fail
  refine (unhide HRD _ (unhide HB)).mono ?_
  rintro e w0 ⟨rfl, hb⟩
  replace HB := hide (below_any (unhide HB) hb)
  clear hb
  go_wp2_with fail
  refine (unhide Hv _ (unhide HB)).mono ?_
  rintro e w1 ⟨rfl, hb⟩
  replace HB := hide (below_alloc (below_any (unhide HB) hb) (.cells #[.int .i64 v.kind, .int .i64 v.num, .string (BS v.str)] 26))
  have Kv := hide (vat_new w1 v)
  clear hb
  go_wp2_with fail
  refine (unhide Hu _ (unhide HB)).mono ?_
  rintro e w2 ⟨rfl, hb⟩
  replace HB := hide (below_alloc (below_any (unhide HB) hb) (.cells #[.int .i64 u.kind, .int .i64 u.num, .string (BS u.str)] 26))
  replace Kv := hide ((unhide Kv).step hb u)
  have Ku := hide (vat_new w2 u)
  clear hb
  go_wp2_with fail
  refine (unhide Hx _ (unhide HB)).mono ?_
  rintro e w3 ⟨rfl, hb⟩
  replace HB := hide (below_alloc (below_any (unhide HB) hb) (.cells #[.int .i64 x.kind, .int .i64 x.num, .string (BS x.str)] 26))
  replace Kv := hide ((unhide Kv).step hb x)
  replace Ku := hide ((unhide Ku).step hb x)
  have Kx := hide (vat_new w3 x)
  clear hb
  go_wp2_with fail
  refine (unhide Hy _ (unhide HB)).mono ?_
  rintro e w4 ⟨rfl, hb⟩
  replace HB := hide (below_alloc (below_any (unhide HB) hb) (.cells #[.int .i64 y.kind, .int .i64 y.num, .string (BS y.str)] 26))
  replace Kv := hide ((unhide Kv).step hb y)
  replace Ku := hide ((unhide Ku).step hb y)
  replace Kx := hide ((unhide Kx).step hb y)
  have Ky := hide (vat_new w4 y)
  clear hb
  go_wp2_with fail
  refine (unhide Hz _ (unhide HB)).mono ?_
  rintro e w5 ⟨rfl, hb⟩
  replace HB := hide (below_alloc (below_any (unhide HB) hb) (.cells #[.int .i64 z.kind, .int .i64 z.num, .string (BS z.str)] 26))
  replace Kv := hide ((unhide Kv).step hb z)
  replace Ku := hide ((unhide Ku).step hb z)
  replace Kx := hide ((unhide Kx).step hb z)
  replace Ky := hide ((unhide Ky).step hb z)
  have Kz := hide (vat_new w5 z)
  clear hb
  obtain ⟨x0, x1, x2, xl⟩ := unhide Kx
  obtain ⟨v0, v1, v2, vl⟩ := unhide Kv
  obtain ⟨u0, u1, u2, ul⟩ := unhide Ku
  go_wp2_with (go_at_call 24; refine (tooBig_any _ _).mono ?_; rintro e wt ⟨rfl, hwt⟩; subst wt)
  go_cut [23] (fun s wx => s = .bool true ∧ Hid (Below w.heap.size w wx ∧ VatAll wx v w1.heap.size u w2.heap.size x w3.heap.size y w4.heap.size z w5.heap.size))
  case first =>
    go_region_held3 (fun W => W.cell? ⟨w3.heap.size, 0, none⟩ = some (.int .i64 x.kind) ∧ W.cell? ⟨w3.heap.size, 1, none⟩ = some (.int .i64 x.num) ∧ W.cell? ⟨w3.heap.size, 2, none⟩ = some (.string (BS x.str)) ∧ W.cell? ⟨w1.heap.size, 0, none⟩ = some (.int .i64 v.kind) ∧ W.cell? ⟨w1.heap.size, 1, none⟩ = some (.int .i64 v.num) ∧ W.cell? ⟨w1.heap.size, 2, none⟩ = some (.string (BS v.str)) ∧ W.cell? ⟨w2.heap.size, 0, none⟩ = some (.int .i64 u.kind) ∧ W.cell? ⟨w2.heap.size, 1, none⟩ = some (.int .i64 u.num) ∧ W.cell? ⟨w2.heap.size, 2, none⟩ = some (.string (BS u.str))) (go_keep) (first | (go_at_call 25; refine (unhide Cx _).mono ?_; rintro e w6 ⟨rfl, hb⟩; have HB6 := hide (below_any (unhide HB).drew hb); have AL := hide (VatAll.below (VatAll.drew ⟨unhide Kv, unhide Ku, unhide Kx, unhide Ky, unhide Kz⟩) hb); have x0' := ((bcell hb).1 _ 0 xl).trans x0; have x1' := ((bcell hb).1 _ 1 xl).trans x1; have x2' := ((bcell hb).1 _ 2 xl).trans x2; have v0' := ((bcell hb).1 _ 0 vl).trans v0; have v1' := ((bcell hb).1 _ 1 vl).trans v1; have v2' := ((bcell hb).1 _ 2 vl).trans v2; have u0' := ((bcell hb).1 _ 0 ul).trans u0; have u1' := ((bcell hb).1 _ 1 ul).trans u1; have u2' := ((bcell hb).1 _ 2 ul).trans u2; clear hb))
    all_goals (go_wp2_with fail; go_meet; exact ⟨rfl, hide ⟨unhide HB6, unhide AL⟩⟩)
  case rest =>
  obtain ⟨rfl, hc⟩ := hcut
  replace HB := hide (unhide hc).1
  obtain ⟨Kv', Ku', Kx', Ky', Kz'⟩ := (unhide hc).2
  have Kv := hide Kv'
  have Ku := hide Ku'
  have Kx := hide Kx'
  have Ky := hide Ky'
  have Kz := hide Kz'
  clear hc Kv' Ku' Kx' Ky' Kz'
  go_wp2_with (go_at_call 24; refine (tooBig_any _ _).mono ?_; rintro e wt ⟨rfl, hwt⟩; subst wt)
  obtain ⟨z0, z1, z2, zl⟩ := unhide Kz
  obtain ⟨v0, v1, v2, vl⟩ := unhide Kv
  go_wp2_with (go_at_call 24; refine (tooBig_any _ _).mono ?_; rintro e wt ⟨rfl, hwt⟩; subst wt)
  go_cut [25] (fun s wx => s = .bool true ∧ Hid (Below w.heap.size w wx ∧ VatAll wx v w1.heap.size u w2.heap.size x w3.heap.size y w4.heap.size z w5.heap.size))
  case first =>
    go_region_held3 (fun W => W.cell? ⟨w5.heap.size, 0, none⟩ = some (.int .i64 z.kind) ∧ W.cell? ⟨w5.heap.size, 1, none⟩ = some (.int .i64 z.num) ∧ W.cell? ⟨w5.heap.size, 2, none⟩ = some (.string (BS z.str)) ∧ W.cell? ⟨w1.heap.size, 0, none⟩ = some (.int .i64 v.kind) ∧ W.cell? ⟨w1.heap.size, 1, none⟩ = some (.int .i64 v.num) ∧ W.cell? ⟨w1.heap.size, 2, none⟩ = some (.string (BS v.str))) (go_keep) (first | (go_at_call 27; refine (unhide Cz _).mono ?_; rintro e w7 ⟨rfl, hb⟩; have HB7 := hide (below_any (unhide HB).drew hb); have AL := hide (VatAll.below (VatAll.drew ⟨unhide Kv, unhide Ku, unhide Kx, unhide Ky, unhide Kz⟩) hb); have z0' := ((bcell hb).1 _ 0 zl).trans z0; have z1' := ((bcell hb).1 _ 1 zl).trans z1; have z2' := ((bcell hb).1 _ 2 zl).trans z2; have v0' := ((bcell hb).1 _ 0 vl).trans v0; have v1' := ((bcell hb).1 _ 1 vl).trans v1; have v2' := ((bcell hb).1 _ 2 vl).trans v2; clear hb))
    all_goals (go_wp2_with fail; go_meet; exact ⟨rfl, hide ⟨unhide HB7, unhide AL⟩⟩)
  case rest =>
  obtain ⟨rfl, hc⟩ := hcut
  replace HB := hide (unhide hc).1
  obtain ⟨Kv', Ku', Kx', Ky', Kz'⟩ := (unhide hc).2
  have Kv := hide Kv'
  have Ku := hide Ku'
  have Kx := hide Kx'
  have Ky := hide Ky'
  have Kz := hide Kz'
  clear hc Kv' Ku' Kx' Ky' Kz'
  go_wp2_with fail
  go_ret
  exact ⟨rfl, unhide HB⟩
end

section
set_option maxHeartbeats 4000000 in
set_option maxRecDepth 100000 in
theorem logic_cobb (p q A1 A2 A3 A4 O2 O3 O4 N1 N2 : ByteArray) (ea : Option Addr) (n c : Nat) (v u x y z : V) (fv fu fx fy fz pv pu px py pz : Int) (w : World)
    (a1 : ∀ w : World, (Op.stringOp .add ⟨#[40]⟩ p).run Tryz.prog w = .ok (.string A1) w) (a2 : ∀ w : World, (Op.stringOp .add A1 ⟨#[41, 32, 65, 78, 68, 32, 40]⟩).run Tryz.prog w = .ok (.string A2) w) (a3 : ∀ w : World, (Op.stringOp .add A2 q).run Tryz.prog w = .ok (.string A3) w) (a4 : ∀ w : World, (Op.stringOp .add A3 ⟨#[41]⟩).run Tryz.prog w = .ok (.string A4) w)
    (o2 : ∀ w : World, (Op.stringOp .add A1 ⟨#[41, 32, 79, 82, 32, 40]⟩).run Tryz.prog w = .ok (.string O2) w) (o3 : ∀ w : World, (Op.stringOp .add O2 q).run Tryz.prog w = .ok (.string O3) w) (o4 : ∀ w : World, (Op.stringOp .add O3 ⟨#[41]⟩).run Tryz.prog w = .ok (.string O4) w)
    (n1 : ∀ w : World, (Op.stringOp .add ⟨#[78, 79, 84, 32, 40]⟩ p).run Tryz.prog w = .ok (.string N1) w) (n2 : ∀ w : World, (Op.stringOp .add N1 ⟨#[41]⟩).run Tryz.prog w = .ok (.string N2) w)
    (RD : ∀ w1, Below w.heap.size w w1 → Calls Tryz.prog 22 #[] w1 fun e w' => e = .returned (.bool true) ∧ Below w1.heap.size w1 w')
    (Ev : ∀ w1, Below w.heap.size w w1 → Calls Tryz.prog 23 #[.string p, .slice ea n c] w1 fun e w' => e = .returned (.tuple #[vV v, .int .i64 fv, .int .i64 pv]) ∧ Below w1.heap.size w1 w')
    (Eu : ∀ w1, Below w.heap.size w w1 → Calls Tryz.prog 23 #[.string q, .slice ea n c] w1 fun e w' => e = .returned (.tuple #[vV u, .int .i64 fu, .int .i64 pu]) ∧ Below w1.heap.size w1 w')
    (Ex : ∀ w1, Below w.heap.size w w1 → Calls Tryz.prog 23 #[.string A4, .slice ea n c] w1 fun e w' => e = .returned (.tuple #[vV x, .int .i64 fx, .int .i64 px]) ∧ Below w1.heap.size w1 w')
    (Ey : ∀ w1, Below w.heap.size w w1 → Calls Tryz.prog 23 #[.string O4, .slice ea n c] w1 fun e w' => e = .returned (.tuple #[vV y, .int .i64 fy, .int .i64 py]) ∧ Below w1.heap.size w1 w')
    (Ez : ∀ w1, Below w.heap.size w w1 → Calls Tryz.prog 23 #[.string N2, .slice ea n c] w1 fun e w' => e = .returned (.tuple #[vV z, .int .i64 fz, .int .i64 pz]) ∧ Below w1.heap.size w1 w')
    (hf : (fv != 0) = false) (hg : (fu != 0) = false) (hx : (fx == 0) = true) (cx : kAnd v u = x) (hy : (fy == 0) = false) (bgy : bigB fy = true) (hz : (fz == 0) = false) (bgz : bigB fz = true) :
    Calls Tryz.prog 7 #[.string p, .string q, .slice ea n c] w fun e w' => e = .returned (.bool true) ∧ Below w.heap.size w w' := by
  have HRD := hide RD
  have Hv := hide Ev
  have Hu := hide Eu
  have Hx := hide Ex
  have Hy := hide Ey
  have Hz := hide Ez
  clear RD Ev Eu Ex Ey Ez
  simp only [vV] at Hv Hu Hx Hy Hz
  have Cx : Hid (∀ w, Calls Tryz.prog 25 #[vV v, vV u] w fun e w' => e = .returned (vV x) ∧ Below w.heap.size w w') := hide (fun w => cx ▸ kAnd_any v u w)
  simp only [vV] at Cx
  have qx : ∀ w, (binOp .eql 26 (.agg #[.int .i64 x.kind, .int .i64 x.num, .string (BS x.str)]) (.agg #[.int .i64 x.kind, .int .i64 x.num, .string (BS x.str)])).run Tryz.prog w = .ok (.bool true) w := fun w => by have := eql_v x x w; simpa [vV] using this
  clear cx
  have HB : Hid (Below w.heap.size w w) := hide (Below.refl _ _)
  go_enter Tryz.func7, Tryz.ntmps7
  go_wp2_with fail
  refine (unhide HRD _ (unhide HB)).mono ?_
  rintro e w0 ⟨rfl, hb⟩
  replace HB := hide (below_any (unhide HB) hb)
  clear hb
  go_wp2_with fail
  refine (unhide Hv _ (unhide HB)).mono ?_
  rintro e w1 ⟨rfl, hb⟩
  replace HB := hide (below_alloc (below_any (unhide HB) hb) (.cells #[.int .i64 v.kind, .int .i64 v.num, .string (BS v.str)] 26))
  have Kv := hide (vat_new w1 v)
  clear hb
  go_wp2_with fail
  refine (unhide Hu _ (unhide HB)).mono ?_
  rintro e w2 ⟨rfl, hb⟩
  replace HB := hide (below_alloc (below_any (unhide HB) hb) (.cells #[.int .i64 u.kind, .int .i64 u.num, .string (BS u.str)] 26))
  replace Kv := hide ((unhide Kv).step hb u)
  have Ku := hide (vat_new w2 u)
  clear hb
  go_wp2_with fail
  refine (unhide Hx _ (unhide HB)).mono ?_
  rintro e w3 ⟨rfl, hb⟩
  replace HB := hide (below_alloc (below_any (unhide HB) hb) (.cells #[.int .i64 x.kind, .int .i64 x.num, .string (BS x.str)] 26))
  replace Kv := hide ((unhide Kv).step hb x)
  replace Ku := hide ((unhide Ku).step hb x)
  have Kx := hide (vat_new w3 x)
  clear hb
  go_wp2_with fail
  refine (unhide Hy _ (unhide HB)).mono ?_
  rintro e w4 ⟨rfl, hb⟩
  replace HB := hide (below_alloc (below_any (unhide HB) hb) (.cells #[.int .i64 y.kind, .int .i64 y.num, .string (BS y.str)] 26))
  replace Kv := hide ((unhide Kv).step hb y)
  replace Ku := hide ((unhide Ku).step hb y)
  replace Kx := hide ((unhide Kx).step hb y)
  have Ky := hide (vat_new w4 y)
  clear hb
  go_wp2_with fail
  refine (unhide Hz _ (unhide HB)).mono ?_
  rintro e w5 ⟨rfl, hb⟩
  replace HB := hide (below_alloc (below_any (unhide HB) hb) (.cells #[.int .i64 z.kind, .int .i64 z.num, .string (BS z.str)] 26))
  replace Kv := hide ((unhide Kv).step hb z)
  replace Ku := hide ((unhide Ku).step hb z)
  replace Kx := hide ((unhide Kx).step hb z)
  replace Ky := hide ((unhide Ky).step hb z)
  have Kz := hide (vat_new w5 z)
  clear hb
  obtain ⟨x0, x1, x2, xl⟩ := unhide Kx
  obtain ⟨v0, v1, v2, vl⟩ := unhide Kv
  obtain ⟨u0, u1, u2, ul⟩ := unhide Ku
  go_wp2_with (go_at_call 24; refine (tooBig_any _ _).mono ?_; rintro e wt ⟨rfl, hwt⟩; subst wt)
  go_cut [23] (fun s wx => s = .bool true ∧ Hid (Below w.heap.size w wx ∧ VatAll wx v w1.heap.size u w2.heap.size x w3.heap.size y w4.heap.size z w5.heap.size))
  case first =>
    go_region_held3 (fun W => W.cell? ⟨w3.heap.size, 0, none⟩ = some (.int .i64 x.kind) ∧ W.cell? ⟨w3.heap.size, 1, none⟩ = some (.int .i64 x.num) ∧ W.cell? ⟨w3.heap.size, 2, none⟩ = some (.string (BS x.str)) ∧ W.cell? ⟨w1.heap.size, 0, none⟩ = some (.int .i64 v.kind) ∧ W.cell? ⟨w1.heap.size, 1, none⟩ = some (.int .i64 v.num) ∧ W.cell? ⟨w1.heap.size, 2, none⟩ = some (.string (BS v.str)) ∧ W.cell? ⟨w2.heap.size, 0, none⟩ = some (.int .i64 u.kind) ∧ W.cell? ⟨w2.heap.size, 1, none⟩ = some (.int .i64 u.num) ∧ W.cell? ⟨w2.heap.size, 2, none⟩ = some (.string (BS u.str))) (go_keep) (first | (go_at_call 25; refine (unhide Cx _).mono ?_; rintro e w6 ⟨rfl, hb⟩; have HB6 := hide (below_any (unhide HB).drew hb); have AL := hide (VatAll.below (VatAll.drew ⟨unhide Kv, unhide Ku, unhide Kx, unhide Ky, unhide Kz⟩) hb); have x0' := ((bcell hb).1 _ 0 xl).trans x0; have x1' := ((bcell hb).1 _ 1 xl).trans x1; have x2' := ((bcell hb).1 _ 2 xl).trans x2; have v0' := ((bcell hb).1 _ 0 vl).trans v0; have v1' := ((bcell hb).1 _ 1 vl).trans v1; have v2' := ((bcell hb).1 _ 2 vl).trans v2; have u0' := ((bcell hb).1 _ 0 ul).trans u0; have u1' := ((bcell hb).1 _ 1 ul).trans u1; have u2' := ((bcell hb).1 _ 2 ul).trans u2; clear hb))
    all_goals (go_wp2_with fail; go_meet; exact ⟨rfl, hide ⟨unhide HB6, unhide AL⟩⟩)
  case rest =>
  obtain ⟨rfl, hc⟩ := hcut
  replace HB := hide (unhide hc).1
  obtain ⟨Kv', Ku', Kx', Ky', Kz'⟩ := (unhide hc).2
  have Kv := hide Kv'
  have Ku := hide Ku'
  have Kx := hide Kx'
  have Ky := hide Ky'
  have Kz := hide Kz'
  clear hc Kv' Ku' Kx' Ky' Kz'
  go_wp2_with (go_at_call 24; refine (tooBig_any _ _).mono ?_; rintro e wt ⟨rfl, hwt⟩; subst wt)
  go_wp2_with (go_at_call 24; refine (tooBig_any _ _).mono ?_; rintro e wt ⟨rfl, hwt⟩; subst wt)
  go_wp2_with fail
  go_ret
  exact ⟨rfl, unhide HB⟩
end

end Go.Proofs.YtfkcaldjphakpaaGreatDoor
