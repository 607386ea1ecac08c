/- The contract of events.Valid. The contract of events.Valid of lists that are no event. The document's answer: sums, differences, products, quotients. The document's answer: products and quotients of values. The document's answer: And. -/
import Derived.Test.YtfkcaldjphakpaaGreatDoorE24
import Derived.Deep.RegionWith
import Derived.RegionTactic
import Derived.Deep.RegionHeld3
import Derived.Deep.DeepCutAuto
set_option maxHeartbeats 4000000
namespace Go.Proofs.YtfkcaldjphakpaaGreatDoor
open Go.RowKit
section
def vd3 (ps:List Pr) (k:Nat):Bool:=match ps[k]? with
 | some p=>qi2 p.name&&qx5 p.val&&!vk5 (ps.take k) p.name
 | none=>true
def qz5 (ps:List Pr):Bool:=decide (ps.length≤8)&&(List.range ps.length).all (vd3 ps)
theorem vn4 {ps:List Pr} (h:¬ps.length≤8):qz5 ps=false:=by unfold qz5;rw [decide_eq_false h];rfl
theorem evOk_bad {ps:List Pr} {k:Nat} (hk:k<ps.length) (h:vd3 ps k=false):qz5 ps=false:=by
 unfold qz5
 rw [Bool.and_eq_false_iff];right
 rw [List.all_eq_false]
 exact ⟨k,List.mem_range.2 hk,by rw [h];simp⟩
theorem vn3 {ps:List Pr} (h8:ps.length≤8) (h:∀j,j<ps.length→vd3 ps j=true):qz5 ps=true:=by
 unfold qz5
 rw [decide_eq_true h8,Bool.true_and,List.all_eq_true]
 exact fun j hj=>h j (List.mem_range.1 hj)
theorem EvAt.take {w:World} {b off:Nat} {ps:List Pr} (h:EvAt w b off ps) (k:Nat):EvAt w b off (ps.take k):=by
 intro j p hj
 rw [List.getElem?_take] at hj
 split at hj
 ·exact h j p hj
 ·cases hj
def Short (ps:List Pr):Prop:=∀p∈ps,p.name.length≤140737488355328∧p.val.str.length≤140737488355328
theorem has_k {qs:List Pr} {k:Nat} (hq:qs.length=k) (cap:Nat) {b off:Nat} (s:ByteArray) (w:World) (hk:k≤8) (hw:EvAt w b off qs) (hlt:b<w.heap.size) :
  Calls Tryz.prog 60 #[.slice (some ⟨b,off,none⟩) k cap,.string s] w fun e w'=>e=.returned (.bool (vk5 qs s.data.toList))∧Below w.heap.size w w':=by
 subst hq;exact has_any b off cap qs s w hk hw hlt
theorem EvAt.later {w W w1 w2:World} {b off:Nat} {ps:List Pr} {o:Obj} (h:EvAt w b off ps) (hW:W=(w.alloc o).drew) (hlt:b<w.heap.size) (hb1:Below W.heap.size W w1) (hb2:Below w1.heap.size w1 w2):EvAt w2 b off ps:=by
 subst hW
 have h1:EvAt (w.alloc o).drew b off ps:=h.below ((Below.refl _ _).alloc (Nat.le_refl _) o).drew hlt
 have hlt1:b<(w.alloc o).drew.heap.size:=by show b<(w.alloc o).heap.size;simp;omega
 exact (h1.below hb1 hlt1).below hb2 (Nat.lt_of_lt_of_le hlt1 hb1.size)
theorem jh5 (b off cap:Nat) (ps:List Pr) (w:World) (hcap:ps.length≤cap) (hbig:ps.length≤140737488355328) (hsh:Short ps) (hw:EvAt w b off ps) (hlt:b<w.heap.size) (hok:qz5 ps=true) :
  Calls Tryz.prog 37 #[.slice (some ⟨b,off,none⟩) ps.length cap] w fun e w'=>e=.returned (.bool true)∧Below w.heap.size w w':=by
 obtain ⟨h8,hg⟩:ps.length≤8∧∀j,j<ps.length→vd3 ps j=true:=by
  unfold qz5 at hok
  rw [Bool.and_eq_true,decide_eq_true_eq,List.all_eq_true] at hok
  exact ⟨hok.1,fun j hj=>hok.2 j (List.mem_range.2 hj)⟩
 have HG:=v7 hg
 clear hg hok
 go_enter Tryz.func37,Tryz.ntmps37
 go_wp2_with fail
 go_loopw [3,4,10] (fun _ _ i wr=>∃k:Nat,k≤ps.length∧i=.int .i64 k∧Hid (∀j,j<k→vd3 ps j=true)∧Below w.heap.size w wr) (fun _ _ i _=>ps.length - (intOf i).toNat)
 case atStart=>exact ⟨0,Nat.zero_le _,rfl,v7 (fun j hj=>absurd hj (by omega)),Below.refl _ _⟩
 case round=>
  obtain ⟨k,hk,rfl,hh,hb⟩:=hrel
  by_cases hlt2:k<ps.length
  ·obtain ⟨p,hp⟩:∃p,ps[k]?=some p:=⟨_,List.getElem?_eq_getElem hlt2⟩
   have hwr:=hw.below hb hlt
   have hltr:b<wr.heap.size:=Nat.lt_of_lt_of_le hlt hb.size
   obtain ⟨h1,h2,h3,h4⟩:=hwr k p hp
   obtain ⟨hs1,hs2⟩:=hsh p (List.mem_of_getElem? hp)
   have hok:vd3 ps k=(qi2 p.name&&qx5 p.val&&!vk5 (ps.take k) p.name):=by unfold vd3;rw [hp]
   have htl:(ps.take k).length=k:=by rw [List.length_take];omega
   have HTK:=v7 (hwr.take k)
   have HL:=v7 htl
   clear hp hwr htl
   have hall:=q9 HG k hlt2
   rw [hok] at hall
   simp only [Bool.and_eq_true,Bool.not_eq_true'] at hall
   obtain ⟨⟨hn,hv⟩,hx⟩:=hall
   have HN:=v7 hn
   have HV:=v7 hv
   have HOK:Hid (∀j,j<k+1→vd3 ps j=true):=v7 (fun j hj=>by
    by_cases hjk:j<k
    ·exact q9 hh j hjk
    ·have:j=k:=by omega
     rw [this,hok,hn,hv,hx];rfl)
   have HH:=v7 hx
   clear hn hok hv hx
   go_wp2_with fail
   go_region_with (first|(go_at_call 58;refine (qk2 _ (by exact hs1) _).mono ?_;rintro e w1 ⟨rfl,hb1⟩;rw [show qi2 (BS p.name).data.toList=true from q9 HN];obtain ⟨hc1,hf1⟩:=v9 hb1;have hz1:wr.heap.size<w1.heap.size:=(by have:=hb1.size;simp at this;omega);have hB1:Below w.heap.size w w1:=v8 (qg9 hb _).drew hb1)|(go_at_call 59;refine (qk9 p.val hs2 _).mono ?_;rintro e w2 ⟨rfl,hb2⟩;rw [q9 HV];obtain ⟨hc2,hf2⟩:=v9 hb2;have hz2:wr.heap.size<w2.heap.size:=(by have:=hb2.size;omega);have hB2:Below w.heap.size w w2:=v8 hB1 hb2)|(go_at_call 60;refine (has_k (q9 HL) cap (BS p.name) _ (by omega) (by exact (q9 HTK).later rfl hltr hb1 hb2) (by omega)).mono ?_;rintro e w3 ⟨rfl,hb3⟩;rw [show vk5 (ps.take k) (BS p.name).data.toList=false from q9 HH];have hB3:Below w.heap.size w w3:=v8 hB2 hb3))
   all_goals (go_wp2_with fail)
   all_goals exact ⟨⟨k+1,by omega,by go_num,HOK,hB3⟩,by simp [intOf];omega⟩
  ·clear hh
   go_wp2_with fail
   go_ret
   exact ⟨rfl,hb⟩
end
section
theorem jh6 (a:Option Addr) (n cap:Nat) (h8:8<n) (hbig:n≤140737488355328) (w:World) :
  Calls Tryz.prog 37 #[.slice a n cap] w fun e w'=>e=.returned (.bool false)∧Below w.heap.size w w':=by
 go_enter Tryz.func37,Tryz.ntmps37
 go_wp2_with fail
 go_ret
 exact ⟨rfl,Below.refl _ _⟩
theorem valid_bad (b off cap:Nat) (ps:List Pr) (w:World) (hcap:ps.length≤cap) (hbig:ps.length≤140737488355328) (hsh:Short ps) (hw:EvAt w b off ps) (hlt:b<w.heap.size) (h8:ps.length≤8) (hok:qz5 ps=false) :
  Calls Tryz.prog 37 #[.slice (some ⟨b,off,none⟩) ps.length cap] w fun e w'=>e=.returned (.bool false)∧Below w.heap.size w w':=by
 have HNO:=v7 hok
 clear hok
 go_enter Tryz.func37,Tryz.ntmps37
 go_wp2_with fail
 go_loopw [3,4,10] (fun _ _ i wr=>∃k:Nat,k≤ps.length∧i=.int .i64 k∧Hid (∀j,j<k→vd3 ps j=true)∧Below w.heap.size w wr) (fun _ _ i _=>ps.length - (intOf i).toNat)
 case atStart=>exact ⟨0,Nat.zero_le _,rfl,v7 (fun j hj=>absurd hj (by omega)),Below.refl _ _⟩
 case round=>
  obtain ⟨k,hk,rfl,hh,hb⟩:=hrel
  by_cases hlt2:k<ps.length
  ·obtain ⟨p,hp⟩:∃p,ps[k]?=some p:=⟨_,List.getElem?_eq_getElem hlt2⟩
   have hwr:=hw.below hb hlt
   have hltr:b<wr.heap.size:=Nat.lt_of_lt_of_le hlt hb.size
   obtain ⟨h1,h2,h3,h4⟩:=hwr k p hp
   obtain ⟨hs1,hs2⟩:=hsh p (List.mem_of_getElem? hp)
   have hok:vd3 ps k=(qi2 p.name&&qx5 p.val&&!vk5 (ps.take k) p.name):=by unfold vd3;rw [hp]
   have htl:(ps.take k).length=k:=by rw [List.length_take];omega
   have HTK:=v7 (hwr.take k)
   have HL:=v7 htl
   clear hp hwr htl
   cases hn:qi2 p.name with
   | false=>
    have HN:=v7 hn
    clear hn hok
    go_wp2_with fail
    first | go_region_with (first | (go_at_call 58; refine (qk2 _ (by exact hs1) _).mono ?_; rintro e w1 ⟨rfl, hb1⟩; rw [show qi2 (BS p.name).data.toList = false from q9 HN]; obtain ⟨hc1, hf1⟩ := v9 hb1; have hz1 : wr.heap.size < w1.heap.size := (by have := hb1.size; simp at this; omega); have hB1 : Below w.heap.size w w1 := v8 (qg9 hb _).drew hb1)) | fail "no region"
    all_goals (go_wp2_with fail)
    all_goals (go_ret;exact ⟨rfl,hB1⟩)
   | true=>
    have HN:=v7 hn
    cases hv:qx5 p.val with
    | false=>
     have HV:=v7 hv
     clear hn hv hok
     go_wp2_with fail
     first | go_region_with (first | (go_at_call 58; refine (qk2 _ (by exact hs1) _).mono ?_; rintro e w1 ⟨rfl, hb1⟩; rw [show qi2 (BS p.name).data.toList = true from q9 HN]; obtain ⟨hc1, hf1⟩ := v9 hb1; have hz1 : wr.heap.size < w1.heap.size := (by have := hb1.size; simp at this; omega); have hB1 : Below w.heap.size w w1 := v8 (qg9 hb _).drew hb1) | (go_at_call 59; refine (qk9 p.val hs2 _).mono ?_; rintro e w2 ⟨rfl, hb2⟩; rw [q9 HV]; obtain ⟨hc2, hf2⟩ := v9 hb2; have hz2 : wr.heap.size < w2.heap.size := (by have := hb2.size; omega); have hB2 : Below w.heap.size w w2 := v8 hB1 hb2)) | fail "no region"
     all_goals (go_wp2_with fail)
     all_goals (go_ret;exact ⟨rfl,hB2⟩)
    | true=>
     have HV:=v7 hv
     cases hx:vk5 (ps.take k) p.name with
     | true=>
      have HH:=v7 hx
      clear hn hv hx hok
      go_wp2_with fail
      first | go_region_with (first | (go_at_call 58; refine (qk2 _ (by exact hs1) _).mono ?_; rintro e w1 ⟨rfl, hb1⟩; rw [show qi2 (BS p.name).data.toList = true from q9 HN]; obtain ⟨hc1, hf1⟩ := v9 hb1; have hz1 : wr.heap.size < w1.heap.size := (by have := hb1.size; simp at this; omega); have hB1 : Below w.heap.size w w1 := v8 (qg9 hb _).drew hb1) | (go_at_call 59; refine (qk9 p.val hs2 _).mono ?_; rintro e w2 ⟨rfl, hb2⟩; rw [q9 HV]; obtain ⟨hc2, hf2⟩ := v9 hb2; have hz2 : wr.heap.size < w2.heap.size := (by have := hb2.size; omega); have hB2 : Below w.heap.size w w2 := v8 hB1 hb2) | (go_at_call 60; refine (has_k (q9 HL) cap (BS p.name) _ (by omega) (by exact (q9 HTK).later rfl hltr hb1 hb2) (by omega)).mono ?_; rintro e w3 ⟨rfl, hb3⟩; rw [show vk5 (ps.take k) (BS p.name).data.toList = true from q9 HH]; have hB3 : Below w.heap.size w w3 := v8 hB2 hb3)) | fail "no region"
      all_goals (go_wp2_with fail)
      all_goals (go_ret;exact ⟨rfl,hB3⟩)
     | false=>
      have HH:=v7 hx
      have HOK:Hid (∀j,j<k+1→vd3 ps j=true):=v7 (fun j hj=>by
       by_cases hjk:j<k
       ·exact q9 hh j hjk
       ·have:j=k:=by omega
        rw [this,hok,hn,hv,hx];rfl)
      clear hn hv hx hok
      go_wp2_with fail
      first | go_region_with (first | (go_at_call 58; refine (qk2 _ (by exact hs1) _).mono ?_; rintro e w1 ⟨rfl, hb1⟩; rw [show qi2 (BS p.name).data.toList = true from q9 HN]; obtain ⟨hc1, hf1⟩ := v9 hb1; have hz1 : wr.heap.size < w1.heap.size := (by have := hb1.size; simp at this; omega); have hB1 : Below w.heap.size w w1 := v8 (qg9 hb _).drew hb1) | (go_at_call 59; refine (qk9 p.val hs2 _).mono ?_; rintro e w2 ⟨rfl, hb2⟩; rw [q9 HV]; obtain ⟨hc2, hf2⟩ := v9 hb2; have hz2 : wr.heap.size < w2.heap.size := (by have := hb2.size; omega); have hB2 : Below w.heap.size w w2 := v8 hB1 hb2) | (go_at_call 60; refine (has_k (q9 HL) cap (BS p.name) _ (by omega) (by exact (q9 HTK).later rfl hltr hb1 hb2) (by omega)).mono ?_; rintro e w3 ⟨rfl, hb3⟩; rw [show vk5 (ps.take k) (BS p.name).data.toList = false from q9 HH]; have hB3 : Below w.heap.size w w3 := v8 hB2 hb3)) | fail "no region"
      all_goals (go_wp2_with fail)
      all_goals exact ⟨⟨k+1,by omega,by go_num,HOK,hB3⟩,by simp [intOf];omega⟩
  ·have hkn:k=ps.length:=by omega
   have:=vn3 h8 (fun j hj=>q9 hh j (by omega))
   rw [q9 HNO] at this
   cases this
theorem vu2 (b off cap:Nat) (ps:List Pr) (w:World) (hcap:ps.length≤cap) (hbig:ps.length≤140737488355328) (hsh:Short ps) (hw:EvAt w b off ps) (hlt:b<w.heap.size) :
  Calls Tryz.prog 37 #[.slice (some ⟨b,off,none⟩) ps.length cap] w fun e w'=>e=.returned (.bool (qz5 ps))∧Below w.heap.size w w':=by
 cases hok:qz5 ps with
 | true=>exact jh5 b off cap ps w hcap hbig hsh hw hlt hok
 | false=>
  by_cases h8:ps.length≤8
  ·exact valid_bad b off cap ps w hcap hbig hsh hw hlt h8 hok
  ·exact jh6 _ _ cap (by omega) hbig w
theorem vy5 (a:Option Addr) (cap:Nat) (w:World) :
  Calls Tryz.prog 37 #[.slice a 0 cap] w fun e w'=>e=.returned (.bool true)∧Below w.heap.size w w':=by
 go_enter Tryz.func37,Tryz.ntmps37
 go_wp2_with fail
 go_loopw [3,4,10] (fun _ _ i wr=>i=.int .i64 0∧wr=w) (fun _ _ _ _=>0)
 case atStart=>exact ⟨rfl,rfl⟩
 case round=>
  obtain ⟨rfl,rfl⟩:=hrel
  go_wp2_with fail
  go_ret
  exact ⟨rfl,Below.refl _ _⟩
end
section
section
variable {a b:Int}
theorem add_same (ha:Rng a) (hb:Rng b) (h:a<0↔b<0):(wrap64 (a+b)<0↔a<0)↔qm7 (a+b)=true:=by
 unfold Rng at ha hb
 simp only [qm7,wrap64,Bool.and_eq_true,decide_eq_true_eq]
 omega
theorem add_diff (ha:Rng a) (hb:Rng b) (h:¬(a<0↔b<0)):qm7 (a+b)=true:=by
 unfold Rng at ha hb
 simp only [qm7,Bool.and_eq_true,decide_eq_true_eq]
 omega
theorem sub_same (ha:Rng a) (hb:Rng b) (h:a<0↔b<0):qm7 (a - b)=true:=by
 unfold Rng at ha hb
 simp only [qm7,Bool.and_eq_true,decide_eq_true_eq]
 omega
theorem sub_diff (ha:Rng a) (hb:Rng b) (h:¬(a<0↔b<0)):(wrap64 (a - b)<0↔a<0)↔qm7 (a - b)=true:=by
 unfold Rng at ha hb
 simp only [qm7,wrap64,Bool.and_eq_true,decide_eq_true_eq]
 omega
end
theorem ja1 (x y:V) (hx:Rng x.num) (hy:Rng y.num) (w:World):Calls Tryz.prog 219 #[.string ⟨#[43]⟩,vV x,vV y] w fun e w'=>e=.returned (vV (vk4 x y))∧Below w.heap.size w w':=by
 cases h:qg4 x y with
 | false=>
  have e:vk4 x y=nV:=by unfold vk4;rw [h];rfl
  rw [e]
  exact qm3 _ x y h w
 | true=>
  have e:vk4 x y=if qm7 (x.num+y.num) then iV (x.num+y.num) else nV:=by unfold vk4;rw [h,Bool.true_and]
  rw [e]
  have hx':(x.kind != 2)=false:=by unfold qg4 at h;simp at h;simp [h.1]
  have hy':(y.kind != 2)=false:=by unfold qg4 at h;simp at h;simp [h.2]
  clear e h
  by_cases hs:x.num<0↔y.num<0
  ·have hq:=add_same hx hy hs
   by_cases hf:qm7 (x.num+y.num)=true
   ·rw [if_pos hf]
    have hq':=hq.2 hf
    have HW:=v7 (qi7 hf)
    clear hf hq
    conv=>arg 3;simp only [vV]
    by_cases h1:x.num<0
    ·have h2:y.num<0:=by omega
     have h3:wrap64 (x.num+y.num)<0:=hq'.2 h1
     clear hs hq'
     go_enter Tryz.func219,Tryz.ntmps219
     go_wp2_with fail
     refine bodyPost_ret (by simp [results,Tryz.results219,go_sem]<;>first|rfl|exact ⟨rfl,rfl,rfl⟩) rfl ⟨?_, ?_⟩
     ·rw [q9 HW];rfl
     ·repeat' (first|exact x4 _ _ _ _|refine Below.setCell ?_ (by simp) _)
    ·have h2:¬y.num<0:=by omega
     have h3:¬wrap64 (x.num+y.num)<0:=fun q=>h1 (hq'.1 q)
     clear hs hq'
     go_enter Tryz.func219,Tryz.ntmps219
     go_wp2_with fail
     refine bodyPost_ret (by simp [results,Tryz.results219,go_sem]<;>first|rfl|exact ⟨rfl,rfl,rfl⟩) rfl ⟨?_, ?_⟩
     ·rw [q9 HW];rfl
     ·repeat' (first|exact x4 _ _ _ _|refine Below.setCell ?_ (by simp) _)
   ·rw [if_neg hf]
    conv=>arg 3;simp only [vV]
    by_cases h1:x.num<0
    ·have h2:y.num<0:=by omega
     have h3:¬wrap64 (x.num+y.num)<0:=fun q=>hf (hq.1 ⟨fun _=>h1,fun _=>q⟩)
     clear hs hq hf
     go_enter Tryz.func219,Tryz.ntmps219
     go_wp2_with fail
     refine bodyPost_ret (by simp [results,Tryz.results219,go_sem]<;>first|rfl|exact ⟨rfl,rfl,rfl⟩) rfl ⟨?_, ?_⟩
     ·rfl
     ·repeat' (first|exact x4 _ _ _ _|refine Below.setCell ?_ (by simp) _)
    ·have h2:¬y.num<0:=by omega
     have h3:wrap64 (x.num+y.num)<0:=by
      by_cases q:wrap64 (x.num+y.num)<0
      ·exact q
      ·exact absurd (hq.1 ⟨fun r=>absurd r q,fun r=>absurd r h1⟩) hf
     clear hs hq hf
     go_enter Tryz.func219,Tryz.ntmps219
     go_wp2_with fail
     refine bodyPost_ret (by simp [results,Tryz.results219,go_sem]<;>first|rfl|exact ⟨rfl,rfl,rfl⟩) rfl ⟨?_, ?_⟩
     ·rfl
     ·repeat' (first|exact x4 _ _ _ _|refine Below.setCell ?_ (by simp) _)
  ·have hf:=add_diff hx hy hs
   rw [if_pos hf]
   have HW:=v7 (qi7 hf)
   clear hf
   conv=>arg 3;simp only [vV]
   by_cases h1:x.num<0
   ·have h2:¬y.num<0:=by omega
    clear hs
    go_enter Tryz.func219,Tryz.ntmps219
    go_wp2_with fail
    refine bodyPost_ret (by simp [results,Tryz.results219,go_sem]<;>first|rfl|exact ⟨rfl,rfl,rfl⟩) rfl ⟨?_, ?_⟩
    ·rw [q9 HW];rfl
    ·repeat' (first|exact x4 _ _ _ _|refine Below.setCell ?_ (by simp) _)
   ·have h2:y.num<0:=by omega
    clear hs
    go_enter Tryz.func219,Tryz.ntmps219
    go_wp2_with fail
    refine bodyPost_ret (by simp [results,Tryz.results219,go_sem]<;>first|rfl|exact ⟨rfl,rfl,rfl⟩) rfl ⟨?_, ?_⟩
    ·rw [q9 HW];rfl
    ·repeat' (first|exact x4 _ _ _ _|refine Below.setCell ?_ (by simp) _)
theorem ja2 (x y:V) (hx:Rng x.num) (hy:Rng y.num) (w:World):Calls Tryz.prog 219 #[.string ⟨#[45]⟩,vV x,vV y] w fun e w'=>e=.returned (vV (vk6 x y))∧Below w.heap.size w w':=by
 cases h:qg4 x y with
 | false=>
  have e:vk6 x y=nV:=by unfold vk6;rw [h];rfl
  rw [e]
  exact qm3 _ x y h w
 | true=>
  have e:vk6 x y=if qm7 (x.num - y.num) then iV (x.num - y.num) else nV:=by unfold vk6;rw [h,Bool.true_and]
  rw [e]
  have hx':(x.kind != 2)=false:=by unfold qg4 at h;simp at h;simp [h.1]
  have hy':(y.kind != 2)=false:=by unfold qg4 at h;simp at h;simp [h.2]
  clear e h
  by_cases hs:x.num<0↔y.num<0
  ·have hf:=sub_same hx hy hs
   rw [if_pos hf]
   have HW:=v7 (qi7 hf)
   clear hf
   conv=>arg 3;simp only [vV]
   by_cases h1:x.num<0
   ·have h2:y.num<0:=by omega
    clear hs
    go_enter Tryz.func219,Tryz.ntmps219
    go_wp2_with fail
    refine bodyPost_ret (by simp [results,Tryz.results219,go_sem]<;>first|rfl|exact ⟨rfl,rfl,rfl⟩) rfl ⟨?_, ?_⟩
    ·rw [q9 HW];rfl
    ·repeat' (first|exact x4 _ _ _ _|refine Below.setCell ?_ (by simp) _)
   ·have h2:¬y.num<0:=by omega
    clear hs
    go_enter Tryz.func219,Tryz.ntmps219
    go_wp2_with fail
    refine bodyPost_ret (by simp [results,Tryz.results219,go_sem]<;>first|rfl|exact ⟨rfl,rfl,rfl⟩) rfl ⟨?_, ?_⟩
    ·rw [q9 HW];rfl
    ·repeat' (first|exact x4 _ _ _ _|refine Below.setCell ?_ (by simp) _)
  ·have hq:=sub_diff hx hy hs
   by_cases hf:qm7 (x.num - y.num)=true
   ·rw [if_pos hf]
    have hq':=hq.2 hf
    have HW:=v7 (qi7 hf)
    clear hf hq
    conv=>arg 3;simp only [vV]
    by_cases h1:x.num<0
    ·have h2:¬y.num<0:=by omega
     have h3:wrap64 (x.num - y.num)<0:=hq'.2 h1
     clear hs hq'
     go_enter Tryz.func219,Tryz.ntmps219
     go_wp2_with fail
     refine bodyPost_ret (by simp [results,Tryz.results219,go_sem]<;>first|rfl|exact ⟨rfl,rfl,rfl⟩) rfl ⟨?_, ?_⟩
     ·rw [q9 HW];rfl
     ·repeat' (first|exact x4 _ _ _ _|refine Below.setCell ?_ (by simp) _)
    ·have h2:y.num<0:=by omega
     have h3:¬wrap64 (x.num - y.num)<0:=fun q=>h1 (hq'.1 q)
     clear hs hq'
     go_enter Tryz.func219,Tryz.ntmps219
     go_wp2_with fail
     refine bodyPost_ret (by simp [results,Tryz.results219,go_sem]<;>first|rfl|exact ⟨rfl,rfl,rfl⟩) rfl ⟨?_, ?_⟩
     ·rw [q9 HW];rfl
     ·repeat' (first|exact x4 _ _ _ _|refine Below.setCell ?_ (by simp) _)
   ·rw [if_neg hf]
    conv=>arg 3;simp only [vV]
    by_cases h1:x.num<0
    ·have h2:¬y.num<0:=by omega
     have h3:¬wrap64 (x.num - y.num)<0:=fun q=>hf (hq.1 ⟨fun _=>h1,fun _=>q⟩)
     clear hs hq hf
     go_enter Tryz.func219,Tryz.ntmps219
     go_wp2_with fail
     refine bodyPost_ret (by simp [results,Tryz.results219,go_sem]<;>first|rfl|exact ⟨rfl,rfl,rfl⟩) rfl ⟨?_, ?_⟩
     ·rfl
     ·repeat' (first|exact x4 _ _ _ _|refine Below.setCell ?_ (by simp) _)
    ·have h2:y.num<0:=by omega
     have h3:wrap64 (x.num - y.num)<0:=by
      by_cases q:wrap64 (x.num - y.num)<0
      ·exact q
      ·exact absurd (hq.1 ⟨fun r=>absurd r q,fun r=>absurd r h1⟩) hf
     clear hs hq hf
     go_enter Tryz.func219,Tryz.ntmps219
     go_wp2_with fail
     refine bodyPost_ret (by simp [results,Tryz.results219,go_sem]<;>first|rfl|exact ⟨rfl,rfl,rfl⟩) rfl ⟨?_, ?_⟩
     ·rfl
     ·repeat' (first|exact x4 _ _ _ _|refine Below.setCell ?_ (by simp) _)
end
section
theorem reck_mul (x y:V) (hx:Rng x.num) (hy:Rng y.num) (w:World):Calls Tryz.prog 219 #[.string ⟨#[42]⟩,vV x,vV y] w fun e w'=>e=.returned (vV (je1 x y))∧Below w.heap.size w w':=by
 cases h:qg4 x y with
 | false=>
  have e:je1 x y=nV:=by unfold je1;rw [h];rfl
  rw [e]
  exact qm3 _ x y h w
 | true=>
  have e:je1 x y=if qm7 (x.num * y.num) then iV (x.num * y.num) else nV:=by unfold je1;rw [h,Bool.true_and]
  rw [e]
  have hx':(x.kind != 2)=false:=by unfold qg4 at h;simp at h;simp [h.1]
  have hy':(y.kind != 2)=false:=by unfold qg4 at h;simp at h;simp [h.2]
  have P:=vr1 x.num y.num hx hy
  clear e h
  cases hf:qm7 (x.num * y.num) with
  | true=>
   have PR:Hid (∀w,Calls Tryz.prog 260 #[.int .i64 x.num,.int .i64 y.num] w fun e w'=>e=.returned (.tuple #[.int .i64 (x.num * y.num),.bool true])∧w'=w):=v7 fun w=>(P w).mono (by rintro e w' ⟨n,ok,rfl,h1,h2,rfl⟩;rw [h1,h2 hf,hf];exact ⟨rfl,rfl⟩)
   rw [if_pos rfl]
   clear P hf
   conv=>arg 3;simp only [vV]
   go_enter Tryz.func219,Tryz.ntmps219
   go_wp2_with (go_at_call 260;refine (q9 PR _).mono ?_;rintro e w' ⟨rfl,rfl⟩)
   refine bodyPost_ret (by simp [results,Tryz.results219,go_sem]<;>first|rfl|exact ⟨rfl,rfl,rfl⟩) rfl ⟨rfl, ?_⟩
   repeat' (first|exact x4 _ _ _ _|refine Below.setCell ?_ (by simp) _)
  | false=>
   have PR:Hid (∀w,Calls Tryz.prog 260 #[.int .i64 x.num,.int .i64 y.num] w fun e w'=>∃n,e=.returned (.tuple #[.int .i64 n,.bool false])∧w'=w):=v7 fun w=>(P w).mono (by rintro e w' ⟨n,ok,rfl,h1,h2,rfl⟩;rw [h1,hf];exact ⟨n,rfl,rfl⟩)
   rw [if_neg (by decide)]
   clear P hf
   conv=>arg 3;simp only [vV]
   go_enter Tryz.func219,Tryz.ntmps219
   go_wp2_with (go_at_call 260;refine (q9 PR _).mono ?_;rintro e w' ⟨n,rfl,rfl⟩)
   refine bodyPost_ret (by simp [results,Tryz.results219,go_sem]<;>first|rfl|exact ⟨rfl,rfl,rfl⟩) rfl ⟨rfl, ?_⟩
   repeat' (first|exact x4 _ _ _ _|refine Below.setCell ?_ (by simp) _)
theorem reck_div (x y:V) (hx:Rng x.num) (w:World):Calls Tryz.prog 219 #[.string ⟨#[47]⟩,vV x,vV y] w fun e w'=>e=.returned (vV (jc7 x y))∧Below w.heap.size w w':=by
 cases h:qg4 x y with
 | false=>
  have e:jc7 x y=nV:=by unfold jc7;rw [h];rfl
  rw [e]
  exact qm3 _ x y h w
 | true=>
  have e:jc7 x y=if (!(y.num==0)&&qm7 (x.num.tdiv y.num)) then iV (x.num.tdiv y.num) else nV:=by unfold jc7;rw [h,Bool.true_and]
  rw [e]
  have hx':(x.kind != 2)=false:=by unfold qg4 at h;simp at h;simp [h.1]
  have hy':(y.kind != 2)=false:=by unfold qg4 at h;simp at h;simp [h.2]
  clear e h
  by_cases h0:y.num=0
  ·have h0':(y.num != 0)=false:=by simp [h0]
   rw [if_neg (by simp [h0])]
   clear h0
   conv=>arg 3;simp only [vV]
   go_enter Tryz.func219,Tryz.ntmps219
   go_wp2_with fail
   refine bodyPost_ret (by simp [results,Tryz.results219,go_sem]<;>first|rfl|exact ⟨rfl,rfl,rfl⟩) rfl ⟨rfl, ?_⟩
   repeat' (first|exact x4 _ _ _ _|refine Below.setCell ?_ (by simp) _)
  ·have h0':(y.num != 0)=true:=by simpa using h0
   have hdt:=vz1 (b:=y.num) hx
   cases hf:qm7 (x.num.tdiv y.num) with
   | true=>
    rw [if_pos (by simp [h0])]
    have HW:=v7 (qi7 hf)
    rw [hf,Bool.not_true] at hdt
    by_cases hl:x.num=-9223372036854775808
    ·have hl':(x.num != -9223372036854775808)=false:=by simp [hl]
     have hm':(y.num != -1)=true:=by
      rw [hl] at hdt
      simpa using hdt
     clear hdt hf hl
     conv=>arg 3;simp only [vV]
     go_enter Tryz.func219,Tryz.ntmps219
     go_wp2_with fail
     refine bodyPost_ret (by simp [results,Tryz.results219,go_sem]<;>first|rfl|exact ⟨rfl,rfl,rfl⟩) rfl ⟨?_, ?_⟩
     ·first|rfl|(rw [q9 HW];rfl)
     ·repeat' (first|exact x4 _ _ _ _|refine Below.setCell ?_ (by simp) _)
    ·have hl':(x.num != -9223372036854775808)=true:=by simpa using hl
     clear hdt hf hl
     conv=>arg 3;simp only [vV]
     go_enter Tryz.func219,Tryz.ntmps219
     go_wp2_with fail
     refine bodyPost_ret (by simp [results,Tryz.results219,go_sem]<;>first|rfl|exact ⟨rfl,rfl,rfl⟩) rfl ⟨?_, ?_⟩
     ·first|rfl|(rw [q9 HW];rfl)
     ·repeat' (first|exact x4 _ _ _ _|refine Below.setCell ?_ (by simp) _)
   | false=>
    rw [if_neg (by simp)]
    rw [hf,Bool.not_false] at hdt
    have hl':(x.num != -9223372036854775808)=false:=by simp only [Bool.and_eq_true,beq_iff_eq] at hdt;simp [hdt.1]
    have hm':(y.num != -1)=false:=by simp only [Bool.and_eq_true,beq_iff_eq] at hdt;simp [hdt.2]
    clear hdt hf
    conv=>arg 3;simp only [vV]
    go_enter Tryz.func219,Tryz.ntmps219
    go_wp2_with fail
    refine bodyPost_ret (by simp [results,Tryz.results219,go_sem]<;>first|rfl|exact ⟨rfl,rfl,rfl⟩) rfl ⟨rfl, ?_⟩
    repeat' (first|exact x4 _ _ _ _|refine Below.setCell ?_ (by simp) _)
end
section
theorem ja0 (x y:V) (w:World):Calls Tryz.prog 220 #[vV x,vV y] w fun e w'=>e=.returned (vV (jb6 x y))∧Below w.heap.size w w':=by
 have ex:=fun w=>qr3 x (bV false) w
 have ey:=fun w=>qr3 y (bV false) w
 have fx:=fun w=>qr3 x (bV true) w
 have fy:=fun w=>qr3 y (bV true) w
 simp only [vV] at ex ey fx fy
 unfold jb6
 generalize decide (x=bV false)=a at *
 generalize decide (y=bV false)=b at *
 generalize decide (x=bV true)=c at *
 generalize decide (y=bV true)=d at *
 generalize hW0:((w.alloc (.cells #[.int .i64 x.kind,.int .i64 x.num,.string (BS x.str)] 26)).alloc (.cells #[.int .i64 y.kind,.int .i64 y.num,.string (BS y.str)] 26)).alloc (.cells #[.int .i64 0,.int .i64 0,.string ⟨#[]⟩] 26)=W0
 have hbase:Below w.heap.size w W0:=by rw [←hW0];exact x4 _ _ _ _
 have hsz:W0.heap.size=w.heap.size+3:=by rw [←hW0];simp
 have x0:W0.cell? ⟨w.heap.size,0,none⟩=some (.int .i64 x.kind):=by rw [←hW0,World.cell?_alloc_past _ _ _ (by simp;omega),World.cell?_alloc_past _ _ _ (by simp)];simp
 have x1:W0.cell? ⟨w.heap.size,1,none⟩=some (.int .i64 x.num):=by rw [←hW0,World.cell?_alloc_past _ _ _ (by simp;omega),World.cell?_alloc_past _ _ _ (by simp)];simp
 have x2:W0.cell? ⟨w.heap.size,2,none⟩=some (.string (BS x.str)):=by rw [←hW0,World.cell?_alloc_past _ _ _ (by simp;omega),World.cell?_alloc_past _ _ _ (by simp)];simp
 have y0:W0.cell? ⟨w.heap.size+1,0,none⟩=some (.int .i64 y.kind):=by rw [←hW0,World.cell?_alloc_past _ _ _ (by simp)];simp
 have y1:W0.cell? ⟨w.heap.size+1,1,none⟩=some (.int .i64 y.num):=by rw [←hW0,World.cell?_alloc_past _ _ _ (by simp)];simp
 have y2:W0.cell? ⟨w.heap.size+1,2,none⟩=some (.string (BS y.str)):=by rw [←hW0,World.cell?_alloc_past _ _ _ (by simp)];simp
 have z0:W0.cell? ⟨w.heap.size+2,0,none⟩=some (.int .i64 0):=by rw [←hW0,World.cell?_alloc_at _ _ _ _ (by simp)];rfl
 have z1:W0.cell? ⟨w.heap.size+2,1,none⟩=some (.int .i64 0):=by rw [←hW0,World.cell?_alloc_at _ _ _ _ (by simp)];rfl
 have z2:W0.cell? ⟨w.heap.size+2,2,none⟩=some (.string ⟨#[]⟩):=by rw [←hW0,World.cell?_alloc_at _ _ _ _ (by simp)];rfl
 have zf:∀j,W0.frozen? ⟨w.heap.size+2,j,none⟩=false:=by intro j;rw [←hW0,World.frozen?_alloc_at _ _ _ _ (by simp)]
 have HW:=v7 hW0
 clear hW0
 have HB:Hid (Below W0.heap.size W0 W0.drew):=v7 (Below.refl _ _).drew
 cases a with
 | true=>
  rw [Bool.true_or,if_pos rfl]
  conv=>arg 3;simp only [vV]
  go_enter Tryz.func220,Tryz.ntmps220
  go_wp2_with fail
  rw [q9 HW]
  go_cut [5] (fun s5 wx=>s5=.bool true∧Hid (Below W0.heap.size W0 wx))
  case first=>
   first | go_region_with (go_at_call 132; refine (j8 _ _).mono ?_; rintro e w1 ⟨rfl, hb1⟩; replace HB := v7 (v8 (q9 HB) hb1); obtain ⟨hc1, hf1⟩ := v9 (q9 HB); clear hb1; simp only [vV]) | fail "no region"
   all_goals (go_wp2_with fail;go_meet;exact ⟨rfl,HB⟩)
  case rest=>
   obtain ⟨rfl,hB⟩:=hcut
   obtain ⟨hc,hf⟩:=v9 (q9 hB)
   have hwz:w.heap.size+2<wc.heap.size:=by have:=(q9 hB).size;omega
   have p0:=(hc _ 0 (by omega)).trans z0
   have p1:=(hc _ 1 (by omega)).trans z1
   have p2:=(hc _ 2 (by omega)).trans z2
   have pf:∀j,wc.frozen? ⟨w.heap.size+2,j,none⟩=false:=fun j=>(hf _ j (by omega)).trans (zf j)
   have HBW:=v7 (v8 hbase (q9 hB))
   clear hc hf x0 x1 x2 y0 y1 y2 z0 z1 z2 zf
   go_wp2_with (go_at_call 132;refine (j8 _ _).mono ?_;rintro e w2 ⟨rfl,hb2⟩;have hz2:w.heap.size+2<w2.heap.size:=(by have:=hb2.size;omega);have q0:=((v9 hb2).1 _ 0 hwz).trans p0;have q1:=((v9 hb2).1 _ 1 hwz).trans p1;have q2:=((v9 hb2).1 _ 2 hwz).trans p2;have qf:∀j,w2.frozen? ⟨w.heap.size+2,j,none⟩=false:=(fun j=>((v9 hb2).2 _ j hwz).trans (pf j));have HB2:=v7 (v8 (q9 HBW) hb2);clear hb2;simp only [vV])
   refine bodyPost_ret (by simp [results,Tryz.results220,go_sem,q0,q1,q2]<;>rfl) rfl ⟨rfl, ?_⟩
   exact (((q9 HB2).setCell (by first|omega|(simp<;>omega)) _).setCell (by first|omega|(simp<;>omega)) _).setCell (by first|omega|(simp<;>omega)) _
 | false=>
  cases b with
  | true=>
   rw [Bool.false_or,if_pos rfl]
   conv=>arg 3;simp only [vV]
   go_enter Tryz.func220,Tryz.ntmps220
   go_wp2_with fail
   rw [q9 HW]
   go_cut [5] (fun s5 wx=>s5=.bool true∧Hid (Below W0.heap.size W0 wx))
   case first=>
    first | go_region_with (go_at_call 132; refine (j8 _ _).mono ?_; rintro e w1 ⟨rfl, hb1⟩; replace HB := v7 (v8 (q9 HB) hb1); obtain ⟨hc1, hf1⟩ := v9 (q9 HB); clear hb1; simp only [vV]) | fail "no region"
    all_goals (go_wp2_with fail;go_meet;exact ⟨rfl,HB⟩)
   case rest=>
    obtain ⟨rfl,hB⟩:=hcut
    obtain ⟨hc,hf⟩:=v9 (q9 hB)
    have hwz:w.heap.size+2<wc.heap.size:=by have:=(q9 hB).size;omega
    have p0:=(hc _ 0 (by omega)).trans z0
    have p1:=(hc _ 1 (by omega)).trans z1
    have p2:=(hc _ 2 (by omega)).trans z2
    have pf:∀j,wc.frozen? ⟨w.heap.size+2,j,none⟩=false:=fun j=>(hf _ j (by omega)).trans (zf j)
    have HBW:=v7 (v8 hbase (q9 hB))
    clear hc hf x0 x1 x2 y0 y1 y2 z0 z1 z2 zf
    go_wp2_with (go_at_call 132;refine (j8 _ _).mono ?_;rintro e w2 ⟨rfl,hb2⟩;have hz2:w.heap.size+2<w2.heap.size:=(by have:=hb2.size;omega);have q0:=((v9 hb2).1 _ 0 hwz).trans p0;have q1:=((v9 hb2).1 _ 1 hwz).trans p1;have q2:=((v9 hb2).1 _ 2 hwz).trans p2;have qf:∀j,w2.frozen? ⟨w.heap.size+2,j,none⟩=false:=(fun j=>((v9 hb2).2 _ j hwz).trans (pf j));have HB2:=v7 (v8 (q9 HBW) hb2);clear hb2;simp only [vV])
    refine bodyPost_ret (by simp [results,Tryz.results220,go_sem,q0,q1,q2]<;>rfl) rfl ⟨rfl, ?_⟩
    exact (((q9 HB2).setCell (by first|omega|(simp<;>omega)) _).setCell (by first|omega|(simp<;>omega)) _).setCell (by first|omega|(simp<;>omega)) _
  | false=>
   rw [Bool.false_or,if_neg (by decide)]
   cases c with
   | false=>
    rw [Bool.false_and,if_neg (by decide)]
    conv=>arg 3;simp only [vV]
    go_enter Tryz.func220,Tryz.ntmps220
    go_wp2_with fail
    rw [q9 HW]
    go_cut [5] (fun s5 wx=>s5=.bool false∧Hid (Below W0.heap.size W0 wx))
    case first=>
     first | go_region_with (go_at_call 132; refine (j8 _ _).mono ?_; rintro e w1 ⟨rfl, hb1⟩; replace HB := v7 (v8 (q9 HB) hb1); obtain ⟨hc1, hf1⟩ := v9 (q9 HB); clear hb1; simp only [vV]) | fail "no region"
     all_goals (go_wp2_with fail;go_meet;exact ⟨rfl,HB⟩)
    case rest=>
     obtain ⟨rfl,hB⟩:=hcut
     obtain ⟨hc0,hf0⟩:=v9 (q9 hB)
     replace HB:=v7 (q9 hB).drew
     go_wp2_with fail
     go_cut [15] (fun s15 wx=>s15=.bool false∧Hid (Below W0.heap.size W0 wx))
     case first=>
      first | go_region_with (go_at_call 132; refine (j8 _ _).mono ?_; rintro e w1 ⟨rfl, hb1⟩; replace HB := v7 (v8 (q9 HB) hb1); obtain ⟨hc1, hf1⟩ := v9 (q9 HB); clear hb1; simp only [vV]) | fail "no region"
      all_goals (go_wp2_with fail;go_meet;exact ⟨rfl,HB⟩)
     case rest=>
      clear hB hc0 hf0 HB
      obtain ⟨rfl,hB⟩:=hcut
      obtain ⟨hc,hf⟩:=v9 (q9 hB)
      have hwz:w.heap.size+2<wc.heap.size:=by have:=(q9 hB).size;omega
      have p0:=(hc _ 0 (by omega)).trans z0
      have p1:=(hc _ 1 (by omega)).trans z1
      have p2:=(hc _ 2 (by omega)).trans z2
      have pf:∀j,wc.frozen? ⟨w.heap.size+2,j,none⟩=false:=fun j=>(hf _ j (by omega)).trans (zf j)
      have HBW:=v7 (v8 hbase (q9 hB))
      clear hc hf x0 x1 x2 y0 y1 y2 z0 z1 z2 zf
      go_wp2_with fail
      refine bodyPost_ret (by simp [results,Tryz.results220,go_sem,p0,p1,p2]<;>first|rfl|exact ⟨rfl,rfl,rfl⟩) rfl ⟨rfl, ?_⟩
      exact (((q9 HBW).setCell (by first|omega|(simp<;>omega)) _).setCell (by first|omega|(simp<;>omega)) _).setCell (by first|omega|(simp<;>omega)) _
   | true=>
    cases d with
    | false=>
     rw [Bool.and_false,if_neg (by decide)]
     conv=>arg 3;simp only [vV]
     go_enter Tryz.func220,Tryz.ntmps220
     go_wp2_with fail
     rw [q9 HW]
     go_cut [5] (fun s5 wx=>s5=.bool false∧Hid (Below W0.heap.size W0 wx))
     case first=>
      first | go_region_with (go_at_call 132; refine (j8 _ _).mono ?_; rintro e w1 ⟨rfl, hb1⟩; replace HB := v7 (v8 (q9 HB) hb1); obtain ⟨hc1, hf1⟩ := v9 (q9 HB); clear hb1; simp only [vV]) | fail "no region"
      all_goals (go_wp2_with fail;go_meet;exact ⟨rfl,HB⟩)
     case rest=>
      obtain ⟨rfl,hB⟩:=hcut
      obtain ⟨hc0,hf0⟩:=v9 (q9 hB)
      replace HB:=v7 (q9 hB).drew
      go_wp2_with fail
      go_cut [15] (fun s15 wx=>s15=.bool false∧Hid (Below W0.heap.size W0 wx))
      case first=>
       first | go_region_with (go_at_call 132; refine (j8 _ _).mono ?_; rintro e w1 ⟨rfl, hb1⟩; replace HB := v7 (v8 (q9 HB) hb1); obtain ⟨hc1, hf1⟩ := v9 (q9 HB); clear hb1; simp only [vV]) | fail "no region"
       all_goals (go_wp2_with fail;go_meet;exact ⟨rfl,HB⟩)
      case rest=>
       clear hB hc0 hf0 HB
       obtain ⟨rfl,hB⟩:=hcut
       obtain ⟨hc,hf⟩:=v9 (q9 hB)
       have hwz:w.heap.size+2<wc.heap.size:=by have:=(q9 hB).size;omega
       have p0:=(hc _ 0 (by omega)).trans z0
       have p1:=(hc _ 1 (by omega)).trans z1
       have p2:=(hc _ 2 (by omega)).trans z2
       have pf:∀j,wc.frozen? ⟨w.heap.size+2,j,none⟩=false:=fun j=>(hf _ j (by omega)).trans (zf j)
       have HBW:=v7 (v8 hbase (q9 hB))
       clear hc hf x0 x1 x2 y0 y1 y2 z0 z1 z2 zf
       go_wp2_with fail
       refine bodyPost_ret (by simp [results,Tryz.results220,go_sem,p0,p1,p2]<;>first|rfl|exact ⟨rfl,rfl,rfl⟩) rfl ⟨rfl, ?_⟩
       exact (((q9 HBW).setCell (by first|omega|(simp<;>omega)) _).setCell (by first|omega|(simp<;>omega)) _).setCell (by first|omega|(simp<;>omega)) _
    | true=>
     rw [Bool.and_true,if_pos rfl]
     conv=>arg 3;simp only [vV]
     go_enter Tryz.func220,Tryz.ntmps220
     go_wp2_with fail
     rw [q9 HW]
     go_cut [5] (fun s5 wx=>s5=.bool false∧Hid (Below W0.heap.size W0 wx))
     case first=>
      first | go_region_with (go_at_call 132; refine (j8 _ _).mono ?_; rintro e w1 ⟨rfl, hb1⟩; replace HB := v7 (v8 (q9 HB) hb1); obtain ⟨hc1, hf1⟩ := v9 (q9 HB); clear hb1; simp only [vV]) | fail "no region"
      all_goals (go_wp2_with fail;go_meet;exact ⟨rfl,HB⟩)
     case rest=>
      obtain ⟨rfl,hB⟩:=hcut
      obtain ⟨hc0,hf0⟩:=v9 (q9 hB)
      replace HB:=v7 (q9 hB).drew
      go_wp2_with fail
      go_cut [15] (fun s15 wx=>s15=.bool true∧Hid (Below W0.heap.size W0 wx))
      case first=>
       first | go_region_with (go_at_call 132; refine (j8 _ _).mono ?_; rintro e w1 ⟨rfl, hb1⟩; replace HB := v7 (v8 (q9 HB) hb1); obtain ⟨hc1, hf1⟩ := v9 (q9 HB); clear hb1; simp only [vV]) | fail "no region"
       all_goals (go_wp2_with fail;go_meet;exact ⟨rfl,HB⟩)
      case rest=>
       clear hB hc0 hf0 HB
       obtain ⟨rfl,hB⟩:=hcut
       obtain ⟨hc,hf⟩:=v9 (q9 hB)
       have hwz:w.heap.size+2<wc.heap.size:=by have:=(q9 hB).size;omega
       have p0:=(hc _ 0 (by omega)).trans z0
       have p1:=(hc _ 1 (by omega)).trans z1
       have p2:=(hc _ 2 (by omega)).trans z2
       have pf:∀j,wc.frozen? ⟨w.heap.size+2,j,none⟩=false:=fun j=>(hf _ j (by omega)).trans (zf j)
       have HBW:=v7 (v8 hbase (q9 hB))
       clear hc hf x0 x1 x2 y0 y1 y2 z0 z1 z2 zf
       go_wp2_with (go_at_call 132;refine (j8 _ _).mono ?_;rintro e w2 ⟨rfl,hb2⟩;have hz2:w.heap.size+2<w2.heap.size:=(by have:=hb2.size;omega);have q0:=((v9 hb2).1 _ 0 hwz).trans p0;have q1:=((v9 hb2).1 _ 1 hwz).trans p1;have q2:=((v9 hb2).1 _ 2 hwz).trans p2;have qf:∀j,w2.frozen? ⟨w.heap.size+2,j,none⟩=false:=(fun j=>((v9 hb2).2 _ j hwz).trans (pf j));have HB2:=v7 (v8 (q9 HBW) hb2);clear hb2;simp only [vV])
       refine bodyPost_ret (by simp [results,Tryz.results220,go_sem,q0,q1,q2]<;>rfl) rfl ⟨rfl, ?_⟩
       exact (((q9 HB2).setCell (by first|omega|(simp<;>omega)) _).setCell (by first|omega|(simp<;>omega)) _).setCell (by first|omega|(simp<;>omega)) _
end
end Go.Proofs.YtfkcaldjphakpaaGreatDoor
