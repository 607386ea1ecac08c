/- strconv.ErrRange lies where the rows say. The contract of events.Valid of lists that are no event. Texts in a slice: Values, AppendSeq, Collect. -/
import Derived.Test.YtfkcaldjphakpabGreatDoorF00
import Derived.Test.YtfkcaldjphakpabGreatDoorRows
import Derived.LaidLaws
import Derived.Lib.LaidU8
import Derived.MakeChecks
import Derived.Test.YtfkcaldjphakpabGreatDoorF16
import Derived.RegionTactic
import Derived.Deep.RegionHeld3
import Derived.RangeFuncBox
import Derived.RangeFuncLeaves
import Derived.Shelf.Abstract
import Derived.WalkKit
import Derived.OwnWalkIn
import Derived.TacticsInMore
import Derived.LoopNIn
import Derived.LoopIn
import Derived.Maps.AppendAt
import Derived.Test.YtfkcaldjphakpabGreatDoorF03
set_option maxHeartbeats 4000000
set_option maxRecDepth 100000
namespace Go.Proofs.YtfkcaldjphakpabGreatDoor
open Go.RowKit
section
theorem jr0 : Tryz.prog.globalNamed "strconv.ErrRange" = some 3 := by kernel_rfl
theorem jb3:(Tryz.prog.globals[3]?).map (·.type)=some 278:=by kernel_rfl
theorem err_of {W : World} {l : List (String × DataW Unit)} (hm : ("strconv.ErrRange", Rows.laid_strconv_ErrRange) ∈ l) (h : laidMet Tryz.prog l W) : ErrOk W := by
 obtain ⟨g,t,cs,fuel,p,h1,h2,h3,h4⟩:=Lib.laidMet.reads h hm
 obtain rfl:3=g:=Option.some.inj (jr0.symm.trans h1)
 obtain rfl:278=t:=Option.some.inj (jb3.symm.trans h2)
 obtain ⟨f1,u,v,hcs,_,_⟩:=iface_of_trod Tryz.underlying278 h4
 unfold World.var? at h3
 rw [jr0] at h3
 simp only [Option.bind_some] at h3
 split at h3
 ·rename_i c ty fz hh
  injection h3 with h3
  subst h3
  refine ⟨(Array.getElem?_eq_some_iff.1 hh).1,.iface u v, ?_,.inr ⟨u,v,rfl⟩⟩
  have h0:c[0]?=some (.iface u v):=by
   rw [←Array.getElem?_toList,hcs];rfl
  rw [World.cell?]
  simp [hh,h0]
 ·cases h3
end
section
theorem zc2 (a:Option Addr) (n cap:Nat) (h8:8<n) (hbig:n≤140737488355328) (w:World) :
  Calls Tryz.prog 40 #[.slice a n cap] w fun e w'=>e=.returned (.bool false)∧Below w.heap.size w w':=by
 go_enter Tryz.func40,Tryz.ntmps40
 go_wp2_with fail
 go_ret
 exact ⟨rfl,Below.refl _ _⟩
theorem valid_bad (b off cap:Nat) (ps:List Pr) (w:World) (hcap:ps.length≤cap) (hbig:ps.length≤140737488355328) (hsh:Short ps) (hw:EvAt w b off ps) (hlt:b<w.heap.size) (h8:ps.length≤8) (hok:ve2 ps=false) :
  Calls Tryz.prog 40 #[.slice (some ⟨b,off,none⟩) ps.length cap] w fun e w'=>e=.returned (.bool false)∧Below w.heap.size w w':=by
 have HNO:=v7 hok
 clear hok
 go_enter Tryz.func40,Tryz.ntmps40
 go_wp2_with fail
 go_loopw [3,4,10] (fun _ _ i wr=>∃k:Nat,k≤ps.length∧i=.int .i64 k∧Hid (∀j,j<k→zd0 ps j=true)∧Below w.heap.size w wr) (fun _ _ i _=>ps.length - (intOf i).toNat)
 case atStart=>exact ⟨0,Nat.zero_le _,rfl,v7 (fun j hj=>absurd hj (by omega)),Below.refl _ _⟩
 case round=>
  obtain ⟨k,hk,rfl,hh,hb⟩:=hrel
  by_cases hlt2:k<ps.length
  ·obtain ⟨p,hp⟩:∃p,ps[k]?=some p:=⟨_,List.getElem?_eq_getElem hlt2⟩
   have hwr:=hw.below hb hlt
   have hltr:b<wr.heap.size:=Nat.lt_of_lt_of_le hlt hb.size
   obtain ⟨h1,h2,h3,h4⟩:=hwr k p hp
   obtain ⟨hs1,hs2⟩:=hsh p (List.mem_of_getElem? hp)
   have hok:zd0 ps k=(qw8 p.name&&vy3 p.val&&!jj2 (ps.take k) p.name):=by unfold zd0;rw [hp]
   have htl:(ps.take k).length=k:=by rw [List.length_take];omega
   have HTK:=v7 (hwr.take k)
   have HL:=v7 htl
   clear hp hwr htl
   cases hn:qw8 p.name with
   | false=>
    have HN:=v7 hn
    clear hn hok
    go_wp2_with fail
    first | go_region_with (first | (go_at_call 64; refine (qk7 _ (by exact hs1) _).mono ?_; rintro e w1 ⟨rfl, hb1⟩; rw [show qw8 (BS p.name).data.toList = false from q9 HN]; obtain ⟨hc1, hf1⟩ := j6 hb1; have hz1 : wr.heap.size < w1.heap.size := (by have := hb1.size; simp at this; omega); have hB1 : Below w.heap.size w w1 := v8 (x3 hb _).drew hb1)) | fail "no region"
    all_goals (go_wp2_with fail)
    all_goals (go_ret;exact ⟨rfl,hB1⟩)
   | true=>
    have HN:=v7 hn
    cases hv:vy3 p.val with
    | false=>
     have HV:=v7 hv
     clear hn hv hok
     go_wp2_with fail
     first | go_region_with (first | (go_at_call 64; refine (qk7 _ (by exact hs1) _).mono ?_; rintro e w1 ⟨rfl, hb1⟩; rw [show qw8 (BS p.name).data.toList = true from q9 HN]; obtain ⟨hc1, hf1⟩ := j6 hb1; have hz1 : wr.heap.size < w1.heap.size := (by have := hb1.size; simp at this; omega); have hB1 : Below w.heap.size w w1 := v8 (x3 hb _).drew hb1) | (go_at_call 65; refine (qn1 p.val hs2 _).mono ?_; rintro e w2 ⟨rfl, hb2⟩; rw [q9 HV]; obtain ⟨hc2, hf2⟩ := j6 hb2; have hz2 : wr.heap.size < w2.heap.size := (by have := hb2.size; omega); have hB2 : Below w.heap.size w w2 := v8 hB1 hb2)) | fail "no region"
     all_goals (go_wp2_with fail)
     all_goals (go_ret;exact ⟨rfl,hB2⟩)
    | true=>
     have HV:=v7 hv
     cases hx:jj2 (ps.take k) p.name with
     | true=>
      have HH:=v7 hx
      clear hn hv hx hok
      go_wp2_with fail
      first | go_region_with (first | (go_at_call 64; refine (qk7 _ (by exact hs1) _).mono ?_; rintro e w1 ⟨rfl, hb1⟩; rw [show qw8 (BS p.name).data.toList = true from q9 HN]; obtain ⟨hc1, hf1⟩ := j6 hb1; have hz1 : wr.heap.size < w1.heap.size := (by have := hb1.size; simp at this; omega); have hB1 : Below w.heap.size w w1 := v8 (x3 hb _).drew hb1) | (go_at_call 65; refine (qn1 p.val hs2 _).mono ?_; rintro e w2 ⟨rfl, hb2⟩; rw [q9 HV]; obtain ⟨hc2, hf2⟩ := j6 hb2; have hz2 : wr.heap.size < w2.heap.size := (by have := hb2.size; omega); have hB2 : Below w.heap.size w w2 := v8 hB1 hb2) | (go_at_call 66; refine (has_k (q9 HL) cap (BS p.name) _ (by omega) (by exact (q9 HTK).later rfl hltr hb1 hb2) (by omega)).mono ?_; rintro e w3 ⟨rfl, hb3⟩; rw [show jj2 (ps.take k) (BS p.name).data.toList = true from q9 HH]; have hB3 : Below w.heap.size w w3 := v8 hB2 hb3)) | fail "no region"
      all_goals (go_wp2_with fail)
      all_goals (go_ret;exact ⟨rfl,hB3⟩)
     | false=>
      have HH:=v7 hx
      have HOK:Hid (∀j,j<k+1→zd0 ps j=true):=v7 (fun j hj=>by
       by_cases hjk:j<k
       ·exact q9 hh j hjk
       ·have:j=k:=by omega
        rw [this,hok,hn,hv,hx];rfl)
      clear hn hv hx hok
      go_wp2_with fail
      first | go_region_with (first | (go_at_call 64; refine (qk7 _ (by exact hs1) _).mono ?_; rintro e w1 ⟨rfl, hb1⟩; rw [show qw8 (BS p.name).data.toList = true from q9 HN]; obtain ⟨hc1, hf1⟩ := j6 hb1; have hz1 : wr.heap.size < w1.heap.size := (by have := hb1.size; simp at this; omega); have hB1 : Below w.heap.size w w1 := v8 (x3 hb _).drew hb1) | (go_at_call 65; refine (qn1 p.val hs2 _).mono ?_; rintro e w2 ⟨rfl, hb2⟩; rw [q9 HV]; obtain ⟨hc2, hf2⟩ := j6 hb2; have hz2 : wr.heap.size < w2.heap.size := (by have := hb2.size; omega); have hB2 : Below w.heap.size w w2 := v8 hB1 hb2) | (go_at_call 66; refine (has_k (q9 HL) cap (BS p.name) _ (by omega) (by exact (q9 HTK).later rfl hltr hb1 hb2) (by omega)).mono ?_; rintro e w3 ⟨rfl, hb3⟩; rw [show jj2 (ps.take k) (BS p.name).data.toList = false from q9 HH]; have hB3 : Below w.heap.size w w3 := v8 hB2 hb3)) | fail "no region"
      all_goals (go_wp2_with fail)
      all_goals exact ⟨⟨k+1,by omega,by go_num,HOK,hB3⟩,by simp [intOf];omega⟩
  ·have hkn:k=ps.length:=by omega
   have:=evOk_good h8 (fun j hj=>q9 hh j (by omega))
   rw [q9 HNO] at this
   cases this
theorem jh3 (b off cap:Nat) (ps:List Pr) (w:World) (hcap:ps.length≤cap) (hbig:ps.length≤140737488355328) (hsh:Short ps) (hw:EvAt w b off ps) (hlt:b<w.heap.size) :
  Calls Tryz.prog 40 #[.slice (some ⟨b,off,none⟩) ps.length cap] w fun e w'=>e=.returned (.bool (ve2 ps))∧Below w.heap.size w w':=by
 cases hok:ve2 ps with
 | true=>exact zc1 b off cap ps w hcap hbig hsh hw hlt hok
 | false=>
  by_cases h8:ps.length≤8
  ·exact valid_bad b off cap ps w hcap hbig hsh hw hlt h8 hok
  ·exact zc2 _ _ cap (by omega) hbig w
theorem jp3 (a:Option Addr) (cap:Nat) (w:World) :
  Calls Tryz.prog 40 #[.slice a 0 cap] w fun e w'=>e=.returned (.bool true)∧Below w.heap.size w w':=by
 go_enter Tryz.func40,Tryz.ntmps40
 go_wp2_with fail
 go_loopw [3,4,10] (fun _ _ i wr=>i=.int .i64 0∧wr=w) (fun _ _ _ _=>0)
 case atStart=>exact ⟨rfl,rfl⟩
 case round=>
  obtain ⟨rfl,rfl⟩:=hrel
  go_wp2_with fail
  go_ret
  exact ⟨rfl,Below.refl _ _⟩
end
section
open Go.RowKit Go.Shelf
attribute [local go_sem] Oper.semAt_some
def vd7 (ts:List (List UInt8)) (k:Nat):List (List UInt8):=(List.range k).map fun j=>ts[j]?.getD []
theorem jp0 (ts:List (List UInt8)) (k:Nat):vd7 ts (k+1)=vd7 ts k++[ts[k]?.getD []]:=by simp [vd7,List.range_succ]
theorem vd8 (ts:List (List UInt8)) (k:Nat):(vd7 ts k).length=k:=by simp [vd7]
theorem zc0 (ts:List (List UInt8)):vd7 ts ts.length=ts:=by
 apply List.ext_getElem
 ·simp [vd7]
 ·intro i h1 h2
  simp [vd7,h2]
theorem zc5 (n:Nat) (hn:1≤n) (l Bs n₀ b cap:Nat) (ts:List (List UInt8)) (hlen:ts.length≤1000) (hb:b<n₀) (J Jx:List (List UInt8)→World→Prop)
  (hY:∀pre x W,J pre W→pre.length<ts.length→YieldAt Fence.wide (n - 1) Tryz.prog l #[.string (BS x)] W fun e W'=>
   (e=.returned (.bool true)∧J (pre++[x]) W'∧Below n₀ W W')∨(e=.returned (.bool false)∧Jx (pre++[x]) W'))
  (W:World) (hBs:W.cell? ⟨Bs,0,none⟩=some (.slice (some ⟨b,0,none⟩) ts.length cap)) (hc:∀j,j<ts.length→W.cell? ⟨b,j,none⟩=some (.string (BS (ts[j]?.getD [])))) (h0:J [] W) :
  CallsIn Fence.wide n Tryz.prog 188 #[.func (.yield l) #[] #[],.pointer (some ⟨Bs,0,none⟩)] W fun e W'=>(∃v,e=.returned v) ∧
   ((∃ys,ys=ts∧J ys W')∨(∃pre,pre.length≤ts.length∧Jx pre W')):=by
 obtain ⟨len,hl⟩:∃len,ts.length=len:=⟨_,rfl⟩
 rw [hl] at hlen hY hBs hc
 have HL:=v7 hl
 clear hl
 refine callsIn_of_wp Tryz.func188 rfl trivial ?_ rfl
 simp only [Tryz.ntmps188,List.size_toArray,List.length_cons,List.length_nil,Nat.reduceAdd,Nat.reduceSub,Array.replicate_succ,Array.replicate_zero,List.push_toArray,List.append_toArray,List.nil_append,List.cons_append]
 gi_wp2
 gi_loopw [7] (fun i wr=>∃k:Nat,k≤len∧i=.int .i64 k∧J (vd7 ts k) wr∧Below n₀ W wr)
  (fun i _=>len - (intOf i).toNat)
 case atStart=>exact ⟨0,Nat.zero_le _,rfl,h0,Below.refl _ _⟩
 case round=>
  obtain ⟨k,hk,rfl,hJs,hnx⟩:=hrel
  have hcx:k<len→wr.cell? ⟨b,k,none⟩=some (.string (BS (ts[k]?.getD []))):=fun h=>(hnx.cell (p:=⟨b,k,none⟩) hb).trans (hc k h)
  by_cases hlt:k<len
  ·obtain ⟨fn,tmps,assign,body,hy,hR⟩:=hY _ (ts[k]?.getD []) wr hJs (by rw [vd8];exact hlt)
   have hcx':=hcx hlt
   gi_wp2
   refine hR.mono ?_
   rintro e W3 (⟨rfl,hJ3,hk3⟩|⟨rfl,hJx3⟩)
   ·gi_wp2
    go_roundw
    case rel=>exact ⟨k+1,by omega,by simp,by rw [jp0];exact hJ3,hnx.trans hk3⟩
    case measure=>simp [intOf];omega
   ·gi_wp2
    refine bodyPost_ret (results_none rfl _ _ _) rfl ?_
    exact ⟨⟨_,rfl⟩,.inr ⟨_,by rw [List.length_append,vd8,q9 HL];simp;omega,hJx3⟩⟩
  ·obtain rfl:k=len:=by omega
   gi_wp2
   go_end0
   exact ⟨⟨_,rfl⟩,.inl ⟨_,by rw [←q9 HL,zc0],hJs⟩⟩
theorem jf4 (n:Nat) (hn:1≤n) (Bs n₀ b cap:Nat) (ts:List (List UInt8)) (hlen:ts.length≤1000) (hb:b<n₀) (w:World) (hBs:Bs<w.heap.size) (hn₀:n₀≤w.heap.size)
  (hc:w.cell? ⟨Bs,0,none⟩=some (.slice (some ⟨b,0,none⟩) ts.length cap)) (hcs:∀j,j<ts.length→w.cell? ⟨b,j,none⟩=some (.string (BS (ts[j]?.getD [])))) :
  SeqStopsK Fence.wide n Tryz.prog 188 #[.pointer (some ⟨Bs,0,none⟩)] (fun x:List UInt8=>#[Value.string (BS x)]) (Below n₀) (fun ys=>ys=ts) (fun pre=>pre.length≤ts.length) ts.length w:=fun l J Jx W hW _ _ hY h0=>
 zc5 n hn l Bs n₀ b cap ts hlen hb J Jx hY W ((hW.cell (p:=⟨Bs,0,none⟩) hBs).trans hc) (fun j hj=>((hW.mono hn₀).cell (p:=⟨b,j,none⟩) hb).trans (hcs j hj)) h0
theorem jb8:(Tryz.prog.info? 9).map (fun i=>(i.zero,i.size,i.bytes))=some (some (.string ⟨#[]⟩),1,16):=by kernel_rfl
theorem ja0 (n:Nat) (hn:2≤n) (Bs b cap:Nat) (ts:List (List UInt8)) (hlen:ts.length≤1000) (w:World) (hb:b<w.heap.size) (hBs:Bs<w.heap.size)
  (hc:w.cell? ⟨Bs,0,none⟩=some (.slice (some ⟨b,0,none⟩) ts.length cap)) (hcs:∀j,j<ts.length→w.cell? ⟨b,j,none⟩=some (.string (BS (ts[j]?.getD [])))) :
  CallsIn Fence.wide n Tryz.prog 217 #[.slice none 0 0,.func (.func 188) #[] #[.pointer (some ⟨Bs,0,none⟩)]] w fun e w'=>∃v,e=.returned v∧w'.ownsRow w.heap.size 9 1 v ts.length (ts.map fun x=>.string (BS x))∧Below w.heap.size w w':=by
 have h1:1≤n:=by omega
 obtain ⟨i0,hi,hz0,hz1,hz2⟩:=info_parts jb8
 refine callsIn_of_wp_marks Tryz.func217 rfl trivial ?_ rfl
 simp only [Tryz.ntmps217,List.size_toArray,List.length_cons,List.length_nil,Nat.reduceAdd,Nat.reduceSub,Array.replicate_succ,Array.replicate_zero,List.push_toArray,List.append_toArray,List.nil_append,List.cons_append]
 gi_wp2
 have bO:=Boxed.new w 30 (.slice none 0 0)
 have hB0:Below w.heap.size w (w.alloc (.cells #[.slice none 0 0] 30)):=(Below.refl _ w).alloc (Nat.le_refl _) _
 refine wpIn_rangeFunc_ownG rfl h1 (gf:=188) (lb:=#[.pointer (some ⟨Bs,0,none⟩)]) rfl trivial (enters_of Tryz.func188 (by kernel_rfl) rfl)
  (jf4 (n - 1) (by omega) Bs w.heap.size b cap ts hlen hb (w.alloc (.cells #[.slice none 0 0] 30)) (by simp;omega) (by simp) ((hB0.cell (p:=⟨Bs,0,none⟩) hBs).trans hc) (fun j hj=>(hB0.cell (p:=⟨b,j,none⟩) hb).trans (hcs j hj))) belowK_t (belowK_b (by simp)) (Below.refl _ _) (fun _=>rfl)
  (fun (pre:List (List UInt8)) W=>(∃v,Boxed W w.heap.size 30 v∧W.ownsRow w.heap.size 9 1 v pre.length (pre.map fun x=>.string (BS x))∧True)∧Below w.heap.size w W)
  (fun _ _ _=>False)
  (OwnFrom.and (Own.from (holdsRow_own w.heap.size w.heap.size 30 9 1 (fun (pre:List (List UInt8))=>pre.length) (fun (pre:List (List UInt8))=>pre.map fun x=>Value.string (BS x)) (fun _ _=>True)) _) (ownFrom_below (Nat.le_refl _) (by simp)))
  (fun _ _ _ _ _ hs _ _=>hs)
  ⟨⟨_,bO,World.ownsRow_nil _ _ _ _,trivial⟩,hB0⟩
  (fun x=>{ tmps:=#[.slice none 0 0,.func (.func 188) #[] #[.pointer (some ⟨Bs,0,none⟩)],.pointer (some ⟨w.heap.size,0,none⟩),undef,.slice none 0 0,.string (BS x),.func (.func 188) #[] #[.pointer (some ⟨Bs,0,none⟩)],.string (BS x),undef,undef,undef,undef,undef],defers:=[] }) ?assign ?body ?done ?stop
 case assign=>
  intro l x W K hK
  gi_wp2
  exact hK
 case body=>
  rintro l pre x W ⟨⟨v,hv,hrow,_⟩,hB⟩ hlt
  have hc:=hv.cell
  gi_wp2_with (gi_at_builtin;refine wpListIn_append_own _ rfl _ _ 30 rfl w.heap.size 9 i0 (.string ⟨#[]⟩) 1 16 Tryz.underlying30 hi hz0 hz1 hz2 rfl (by decide) _ _ _ rfl (hrow.alloc _) ⟨W.heap.size,0,none⟩ 1 1 [.string (BS x)] rfl rfl (cell_one_new _ _ _) (by simp [Value.oneCell']) (by unfold maxLen;omega) (by omega) (by have:=hB.size;simp;omega) ?_;intro v' w1 hown' hgrow _;obtain ⟨g',cap',rfl⟩:=ownsRow_succ hown';obtain ⟨hv1,hv2,hr2,hk2,hb2⟩:=hv.appended (by decide) hrow hB.size (Nat.le_refl _) hown' hgrow;have hc1:=hv1.cell;have hf1:=hv1.frozen)
  exact ⟨hk2.from _,hb2,⟨_,hv2,by simpa using hr2,trivial⟩,hB.trans hb2⟩
 case done=>
  rintro D ys W hD rfl ⟨⟨v,hv,hrow,_⟩,hB⟩ hK
  have hc:=hv.cell
  gi_wp2
  refine ⟨by simp,.inl ⟨_,_,rfl,run_takeDeferred hK, ?_⟩⟩
  exact ⟨_,results_tmp rfl _ _ _,v,rfl,ownsRow_putObj hrow _ hK rfl,hB.trans (belowK_b (w:=w) (Nat.le_refl _) W D _ _ (by simp at hD;omega) hK rfl rfl)⟩
 case stop=>
  rintro D c pre W _ _ h _
  exact h.elim
end
end Go.Proofs.YtfkcaldjphakpabGreatDoor
