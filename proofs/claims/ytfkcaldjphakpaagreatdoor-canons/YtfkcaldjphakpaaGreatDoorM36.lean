/- The document's answer: different texts, rising: what sorting and striking gives. The document's answer: a name is one of some texts: the texts, each once, rising. -/
import Derived.Test.YtfkcaldjphakpaaGreatDoorM35
import Derived.Sort.Walk0
import Derived.Deep.CutBlock
import Derived.Deep.DeepCutAuto
import Derived.Deep.QuietTactic
import Derived.BigQuiet
namespace Go.Proofs.YtfkcaldjphakpaaGreatDoor
open Go.RowKit
section
section
variable {x y z:List UInt8}
theorem bl_lt:Op.bytesLess x y=decide (x<y):=bytesLess_eq x y
theorem lt_tr (h:x<y) (k:y<z):x<z:=List.lt_trans h k
theorem lt_ir:¬x<x:=List.lt_irrefl x
theorem le_tot:x≤y∨y≤x:=List.le_total x y
theorem le_tr (h:x≤y) (k:y≤z):x≤z:=List.le_trans h k
theorem qx3 (h:x≤y) (k:x≠y):x<y:=by
 by_cases hlt:x<y
 ·exact hlt
 ·exact absurd (List.le_antisymm h (List.not_lt.1 hlt)) k
theorem le_lt (h:x≤y) (k:y<z):x<z:=by
 by_cases e:x=y
 ·rw [e];exact k
 ·exact lt_tr (qx3 h e) k
end
theorem sort_pw (ts:List (List UInt8)):(ts.mergeSort fun x y=>decide (x≤y)).Pairwise (·≤·):=by
 have:=List.pairwise_mergeSort (le:=fun x y:List UInt8=>decide (x≤y)) (fun a b c h k=>by simp only [decide_eq_true_eq] at *;exact le_tr h k) (fun a b=>by simp only [Bool.or_eq_true,decide_eq_true_eq];exact le_tot) ts
 exact this.imp (fun h=>by simpa using h)
theorem upto_mem {zs:List (List UInt8)}:∀m,m≤zs.length→∀j,j<m→zs.toArray[j]!∈Lib.compactUpTo zs.toArray m:=by
 intro m
 induction m with
 | zero=>intro _ j hj;omega
 | succ m ih=>
  intro hm j hj
  rw [Lib.compactUpTo_succ]
  by_cases hjm:j=m
  ·subst hjm
   by_cases hk:Lib.keeps zs.toArray j=true
   ·rw [if_pos hk];exact List.mem_append_right _ (List.mem_singleton.2 rfl)
   ·have h0:0<j:=by
     apply Decidable.byContradiction
     intro h0
     exact hk (Lib.keeps_lt_one _ j (by omega))
    have he:zs.toArray[j]! = zs.toArray[j - 1]! := by
     apply Decidable.byContradiction
     intro hne
     exact hk (Lib.keeps_pos hne)
    rw [he]
    exact List.mem_append_left _ (ih (by omega) (j - 1) (by omega))
  ·exact List.mem_append_left _ (ih (by omega) j (by omega))
theorem va0 {ts:List (List UInt8)} {x:List UInt8}:x∈qf4 ts↔x∈ts:=by
 unfold qf4
 have hs:x∈(ts.mergeSort fun x y=>decide (x≤y))↔x∈ts:=List.mem_mergeSort
 rw [←hs]
 generalize (ts.mergeSort fun x y=>decide (x≤y))=zs
 constructor
 ·intro h
  unfold Lib.compact Lib.compactUpTo at h
  obtain ⟨i,hi,rfl⟩:=List.mem_map.1 h
  have:=List.mem_range.1 (List.mem_filter.1 hi).1
  simp only [List.getElem!_toArray]
  rw [List.getElem!_eq_getElem?_getD,List.getElem?_eq_getElem this]
  exact List.getElem_mem _
 ·intro h
  obtain ⟨j,hj⟩:=List.getElem?_of_mem h
  have hl:=(List.getElem?_eq_some_iff.1 hj).1
  have:=upto_mem zs.length (Nat.le_refl _) j hl
  simp only [List.getElem!_toArray] at this
  rw [List.getElem!_eq_getElem?_getD,hj] at this
  exact this
theorem ve5 (ts:List (List UInt8)):(qf4 ts).Pairwise (·<·):=by
 unfold qf4 Lib.compact Lib.compactUpTo
 have hp:=sort_pw ts
 generalize (ts.mergeSort fun x y=>decide (x≤y))=zs at *
 rw [List.pairwise_map]
 have hr:((List.range zs.length).filter (Lib.keeps zs.toArray)).Pairwise (·<·):=List.Pairwise.sublist List.filter_sublist List.pairwise_lt_range
 refine hr.imp_of_mem ?_
 intro a b ha hb hab
 obtain ⟨ha1,ha2⟩:=List.mem_filter.1 ha
 obtain ⟨hb1,hb2⟩:=List.mem_filter.1 hb
 have la:=List.mem_range.1 ha1
 have lb:=List.mem_range.1 hb1
 have ge:∀i,i<zs.length→zs.toArray[i]! = zs[i]! := fun i _=>by simp only [List.getElem!_toArray]
 have hle:∀i j (hi:i<zs.length) (hj:j<zs.length),i≤j→zs[i]!≤zs[j]! := by
  intro i j hi hj hij
  rw [List.getElem!_eq_getElem?_getD,List.getElem!_eq_getElem?_getD,List.getElem?_eq_getElem hi,List.getElem?_eq_getElem hj]
  by_cases e:i=j
  ·subst e;exact List.le_refl _
  ·exact List.pairwise_iff_getElem.1 hp i j hi hj (by omega)
 have hne:zs.toArray[b]!≠zs.toArray[b - 1]! := by
  intro he
  rw [Lib.keeps_neg (by omega) he] at hb2
  cases hb2
 rw [ge b lb,ge (b - 1) (by omega)] at hne
 rw [ge a la,ge b lb]
 exact le_lt (hle a (b - 1) la (by omega) (by omega)) (qx3 (hle (b - 1) b (by omega) lb (by omega)) (fun e=>hne e.symm))
end
section
attribute [local go_sem ↓] qj6
def qw6 (S:List (List UInt8)) (k:Nat) (t:List UInt8):Bool:=k==0||Op.bytesLess (S.getD (k - 1) []) t
def qh9 (ts S:List (List UInt8)) (k:Nat):Nat→Int
 | 0=>-1
 | m+1=>if qw6 S k (ts.getD m [])&&(decide (qh9 ts S k m<0)||Op.bytesLess (ts.getD m []) (ts.getD (qh9 ts S k m).toNat [])) then m else qh9 ts S k m
theorem vk8 (ts S:List (List UInt8)) (k:Nat):∀m,-1≤qh9 ts S k m∧qh9 ts S k m<m:=by
 intro m
 induction m with
 | zero=>exact ⟨Int.le_refl _,by show (-1:Int)<0;decide⟩
 | succ m ih=>
  unfold qh9
  split
  ·exact ⟨by omega,by omega⟩
  ·exact ⟨ih.1,by omega⟩
theorem best_is (ts S:List (List UInt8)) (k:Nat):∀m,m≤ts.length→(qh9 ts S k m<0→∀i,i<m→qw6 S k (ts.getD i [])=false)∧(0≤qh9 ts S k m→qw6 S k (ts.getD (qh9 ts S k m).toNat [])=true∧∀i,i<m→qw6 S k (ts.getD i [])=true→¬ts.getD i []<ts.getD (qh9 ts S k m).toNat []):=by
 intro m
 induction m with
 | zero=>intro _;exact ⟨fun _ i hi=>absurd hi (by omega),fun h=>by simp [qh9] at h⟩
 | succ m ih=>
  intro hm
  obtain ⟨ih1,ih2⟩:=ih (by omega)
  have hr:=vk8 ts S k m
  unfold qh9
  by_cases hc:(qw6 S k (ts.getD m [])&&(decide (qh9 ts S k m<0)||Op.bytesLess (ts.getD m []) (ts.getD (qh9 ts S k m).toNat [])))=true
  ·rw [if_pos hc]
   rw [Bool.and_eq_true,Bool.or_eq_true,decide_eq_true_eq] at hc
   refine ⟨fun h=>absurd h (by omega),fun _=>?_⟩
   simp only [Int.toNat_natCast]
   refine ⟨hc.1,fun i hi hl=>?_⟩
   by_cases him:i=m
   ·subst him;exact lt_ir
   ·rcases hc.2 with h|h
    ·rw [ih1 h i (by omega)] at hl;cases hl
    ·rw [bl_lt,decide_eq_true_eq] at h
     by_cases hb:qh9 ts S k m<0
     ·rw [ih1 hb i (by omega)] at hl;cases hl
     ·intro hlt
      exact (ih2 (by omega)).2 i (by omega) hl (lt_tr hlt h)
  ·rw [if_neg hc]
   rw [Bool.and_eq_true,Bool.or_eq_true,decide_eq_true_eq] at hc
   refine ⟨fun h i hi=>?_,fun h=>⟨(ih2 h).1,fun i hi hl=>?_⟩⟩
   ·by_cases him:i=m
    ·subst him
     cases hl:qw6 S k (ts.getD i []) with
     | false=>rfl
     | true=>exact absurd ⟨hl,.inl h⟩ hc
    ·exact ih1 h i (by omega)
   ·by_cases him:i=m
    ·subst him
     intro hlt
     exact hc ⟨hl,.inr (by rw [bl_lt,decide_eq_true_eq];exact hlt)⟩
    ·exact (ih2 h).2 i (by omega) hl
theorem vm4 {ts:List (List UInt8)} {i:Nat} (h:i<ts.length):ts.getD i []∈ts:=by
 rw [List.getD_eq_getElem?_getD,List.getElem?_eq_getElem h];exact List.getElem_mem _
theorem vm9 {ts:List (List UInt8)} {x:List UInt8} (h:x∈ts):∃i,i<ts.length∧ts.getD i []=x:=by
 obtain ⟨i,hi⟩:=List.getElem?_of_mem h
 exact ⟨i,(List.getElem?_eq_some_iff.1 hi).1,by rw [List.getD_eq_getElem?_getD,hi];rfl⟩
theorem pw_lt {S:List (List UInt8)} (h:S.Pairwise (·<·)) {i j:Nat} (hj:j<S.length) (hij:i<j):S.getD i []<S.getD j []:=by
 rw [List.getD_eq_getElem?_getD,List.getD_eq_getElem?_getD,List.getElem?_eq_getElem (by omega),List.getElem?_eq_getElem hj]
 exact List.pairwise_iff_getElem.1 h i j (by omega) hj hij
theorem vm6 {S:List (List UInt8)} (h:S.Pairwise (·<·)) {k i:Nat} (hk:k≤S.length) (hi:i<S.length):qw6 S k (S.getD i [])=decide (k≤i):=by
 unfold qw6
 by_cases h0:k=0
 ·subst h0;simp
 ·rw [show (k==0)=false by simpa using h0,Bool.false_or,bl_lt]
  by_cases hki:k≤i
  ·rw [decide_eq_true (pw_lt h hi (by omega)),decide_eq_true hki]
  ·rw [decide_eq_false hki,decide_eq_false]
   intro hlt
   by_cases e:i=k - 1
   ·subst e;exact lt_ir hlt
   ·exact lt_ir (lt_tr hlt (pw_lt h (by omega) (by omega)))
theorem best_none {ts:List (List UInt8)} {k:Nat} (hk:k≤(qf4 ts).length) (h:qh9 ts (qf4 ts) k ts.length<0):k=(qf4 ts).length:=by
 apply Decidable.byContradiction
 intro hne
 have hm:=va0.1 (vm4 (ts:=qf4 ts) (i:=k) (by omega))
 obtain ⟨i,hi,e⟩:=vm9 hm
 have:=(best_is ts (qf4 ts) k ts.length (Nat.le_refl _)).1 h i hi
 rw [e,vm6 (ve5 ts) hk (by omega)] at this
 simp at this
theorem best_next {ts:List (List UInt8)} {k:Nat} (hk:k≤(qf4 ts).length) (h:0≤qh9 ts (qf4 ts) k ts.length):k<(qf4 ts).length∧ts.getD (qh9 ts (qf4 ts) k ts.length).toNat []=(qf4 ts).getD k []:=by
 have hr:=vk8 ts (qf4 ts) k ts.length
 obtain ⟨hl,hmin⟩:=(best_is ts (qf4 ts) k ts.length (Nat.le_refl _)).2 h
 obtain ⟨b,hb⟩:∃b,(qh9 ts (qf4 ts) k ts.length).toNat=b:=⟨_,rfl⟩
 rw [hb] at hl hmin ⊢
 have hm:=va0.2 (vm4 (ts:=ts) (i:=b) (by omega))
 obtain ⟨i,hi,e⟩:=vm9 hm
 rw [←e,vm6 (ve5 ts) hk hi,decide_eq_true_eq] at hl
 have hkS:k<(qf4 ts).length:=by omega
 refine ⟨hkS, ?_⟩
 by_cases hik:i=k
 ·rw [←e,hik]
 ·have hm2:=va0.1 (vm4 (ts:=qf4 ts) (i:=k) hkS)
  obtain ⟨j,hj,e2⟩:=vm9 hm2
  have:=hmin j hj (by rw [e2,vm6 (ve5 ts) hk hkS,decide_eq_true_eq];exact Nat.le_refl _)
  rw [e2,←e] at this
  exact absurd (pw_lt (ve5 ts) hi (by omega)) this
end
end Go.Proofs.YtfkcaldjphakpaaGreatDoor
