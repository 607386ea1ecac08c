/- The document's answer: BETWEEN. -/
import Derived.Test.YtfkcaldjphakpaaGreatDoorE15
import Derived.Test.YtfkcaldjphakpaaGreatDoorE06
namespace Go.Proofs.YtfkcaldjphakpaaGreatDoor
open Go.RowKit
attribute [local go_sem ↓] qv7
def negA (neg:Bool) (pl:Int) (t:Ast):Ast:=if neg=true then .un ⟨5,pl,0,[],[],[]⟩ t else t
def negR (neg:Bool) (pl:Int) (r:Res):Res:=match r with
 | .ok t st=>.ok (negA neg pl t) st
 | .err en p=>.err en p
theorem RT.own_lt {w:World} {rb:Nat} {s:ByteArray} {ns:List RN} {j:Nat} {st:St} (h:RT w rb s ns j st) (k:Nat) (ho:qv5 w rb k):k<w.heap.size:=by
 obtain ⟨nv,hT,⟨rs,_,hn,_⟩,_⟩:=h
 rcases ho with rfl|⟨nv',h1,h2⟩
 ·exact hT.lt
 ·rw [hT.c0] at h1;injection h1 with h1;subst h1;exact (hn.lt k h2).2
theorem RE.own_lt {w:World} {rb:Nat} {s:ByteArray} {en pl:Int} {op m:Nat} (h:RE w rb s en pl op m) (k:Nat) (ho:qv5 w rb k):k<w.heap.size:=by
 obtain ⟨nv,a,ns,hT,_,⟨rs,_,hn,_⟩,_⟩:=h
 rcases ho with rfl|⟨nv',h1,h2⟩
 ·exact hT.lt
 ·rw [hT.c0] at h1;injection h1 with h1;subst h1;exact (hn.lt k h2).2
theorem betR_e1 {s:ByteArray} {f:St→Res} {l:Ast} {st:St} {en pl:Int} (hk:st.tk.kind=10) (h:f (v6 s st)=.err en pl):qa0 s f l st=.err en pl:=by unfold qa0;rw [if_pos hk,h]
theorem betR_e2 {s:ByteArray} {f:St→Res} {l lo:Ast} {st st1:St} (hk:st.tk.kind=10) (h:f (v6 s st)=.ok lo st1) (k5:¬st1.tk.kind=5):qa0 s f l st=.err 2 st1.place:=by unfold qa0;rw [if_pos hk,h];simp only [if_neg k5]
theorem betR_e3 {s:ByteArray} {f:St→Res} {l lo:Ast} {st st1:St} {en pl:Int} (hk:st.tk.kind=10) (h:f (v6 s st)=.ok lo st1) (k5:st1.tk.kind=5) (h2:f (v6 s st1)=.err en pl):qa0 s f l st=.err en pl:=by unfold qa0;rw [if_pos hk,h];simp only [if_pos k5,h2]
theorem betR_ok {s:ByteArray} {f:St→Res} {l lo hi:Ast} {st st1 st2:St} (hk:st.tk.kind=10) (h:f (v6 s st)=.ok lo st1) (k5:st1.tk.kind=5) (h2:f (v6 s st1)=.ok hi st2):qa0 s f l st=.ok (.tri ⟨20,st.place,0,[],[],[]⟩ l lo hi) st2:=by unfold qa0;rw [if_pos hk,h];simp only [if_pos k5,h2]
theorem btail {W:World} {rb L g:Nat} {ty:TypeId} {cs:Array Value} {i0:Nat} (hlt:rb<W.heap.size) (hv:VN W rb L ty cs) (hg:W.cell? ⟨g,0,none⟩=some (.int .i64 i0)) (how:∀k,qv5 W rb k→k<W.heap.size) (a b:Nat) :
  ∃g1 cap1 w6 g2 cap2 w7,(appR #[52,52] 52 #[.slice (some ⟨g,0,none⟩) 1 1,.slice (some ⟨W.heap.size,0,none⟩) 1 1]).run Tryz.prog (W.alloc (.cells #[.int .i64 a] 3))=.ok (.slice (some ⟨g1,0,none⟩) 2 cap1) w6 ∧
   (appR #[52,52] 52 #[.slice (some ⟨g1,0,none⟩) 2 cap1,.slice (some ⟨w6.heap.size,0,none⟩) 1 1]).run Tryz.prog ((w6.setCell ⟨L,2,none⟩ (.slice (some ⟨g1,0,none⟩) 2 cap1)).alloc (.cells #[.int .i64 b] 3))=.ok (.slice (some ⟨g2,0,none⟩) 3 cap2) w7 ∧
   (∀i,w6.cell? ⟨L,i,none⟩=cs[i]?)∧(∀i,w6.frozen? ⟨L,i,none⟩=false)∧(∀i,w7.cell? ⟨L,i,none⟩=(cs.setIfInBounds 2 (.slice (some ⟨g1,0,none⟩) 2 cap1))[i]?)∧(∀i,w7.frozen? ⟨L,i,none⟩=false) ∧
   Hid (But L W (w7.setCell ⟨L,2,none⟩ (.slice (some ⟨g2,0,none⟩) 3 cap2)))∧Hid (RowOf (w7.setCell ⟨L,2,none⟩ (.slice (some ⟨g2,0,none⟩) 3 cap2)) rb 3 (.slice (some ⟨g2,0,none⟩) 3 cap2) (qv6 [i0,a,b])):=by
 have hL:=hv.lt
 have hp:=hv.past
 obtain ⟨g1,cap1,w6,hap1,HO1,HB1⟩:=app_int1 hg a
 have hb6:But L W w6:=(But.refl L W).below (q9 HB1)
 have hz6:=hb6.size
 have hv6:VN w6 rb L ty cs:=⟨((q9 HB1).block L hL).trans hv.blk,hp,hb6.no hv hlt⟩
 have hO1:(w6.setCell ⟨L,2,none⟩ (.slice (some ⟨g1,0,none⟩) 2 cap1)).ownsRow W.heap.size 3 1 (.slice (some ⟨g1,0,none⟩) 2 cap1) 2 [.int .i64 i0,.int .i64 a]:=ownsRow_setCell_below (q9 HO1) (by show L<_;omega) _
 have hv6':=hv6.set 2 (.slice (some ⟨g1,0,none⟩) 2 cap1)
 obtain ⟨g2,cap2,w7,hap2,HO2,HG2,hBg⟩:=app_int2 hO1 (by simp;omega) b
 rw [qa8] at hap2
 have hb7:But L W w7:=(hb6.set 2 (.slice (some ⟨g1,0,none⟩) 2 cap1)).grown (q9 HG2) (fun g' e=>by have:=Option.some.inj e;omega)
 have hg1:g1≠L:=by omega
 have hv7:VN w7 rb L ty (cs.setIfInBounds 2 (.slice (some ⟨g1,0,none⟩) 2 cap1)):=⟨((q9 HG2).block L (by simp;omega) (fun e=>hg1 (Option.some.inj e).symm)).trans hv6'.blk,hp,hb7.no hv hlt⟩
 have hb8:=hb7.set 2 (.slice (some ⟨g2,0,none⟩) 3 cap2)
 have hO2:(w7.setCell ⟨L,2,none⟩ (.slice (some ⟨g2,0,none⟩) 3 cap2)).ownsRow W.heap.size 3 1 (.slice (some ⟨g2,0,none⟩) 3 cap2) 3 [.int .i64 i0,.int .i64 a,.int .i64 b]:=ownsRow_setCell_below (q9 HO2) (by show L<_;omega) _
 refine ⟨g1,cap1,w6,g2,cap2,w7,hap1,hap2,hv6.cell,hv6.frz,hv7.cell,hv7.frz,v7 hb8,v7 (own_row hO2 hlt fun ho=>?_)⟩
 have:=how g2 ((hb8.own hlt (by omega) g2).1 ho)
 have:=(hO2.lt g2 rfl).1
 omega
set_option maxHeartbeats 4000000 in
set_option maxRecDepth 100000 in
theorem qz8 (rb:Nat) (s:ByteArray) (hs:s.size≤200) (op m:Nat) (hm:200≤m) (hm':m≤900) (f:St→Res) (hf:RReads 320 rb s op m f) (eS:qm1 320 rb s) (w:World) (st:St) (ns new:List RN) (j:Nat) (l:Ast) (h:RT w rb s (ns++new) j st) (ho:st.op=op) (hk:st.tk.kind=10) (hfl:Flat l ns.length new) (i0:Nat) (hi0:i0=ns.length+new.length - 1) (g:Nat) (hg:VN w rb g 3 #[.int .i64 i0]) (neg:Bool) (pl0:Int) :
  Calls Tryz.prog 323 #[.pointer (some ⟨rb,0,none⟩),.agg #[.string ⟨#[]⟩,.int .i64 st.place,.slice (some ⟨g,0,none⟩) 1 1,.string ⟨#[]⟩,.string ⟨#[]⟩,.slice none 0 0,.int .i64 0,.bool neg,.int .i64 0]] w (REnds rb s w op (m+1) ns j st.place (negR neg pl0 (qa0 s f l st))):=by
 have hlt:=h.lt
 have n0:¬w.heap.size=rb:=by omega
 have n1:¬rb=w.heap.size:=by omega
 have hglt:=hg.lt
 have hV0:VN (w.alloc (.cells #[.string ⟨#[66,69,84,87,69,69,78]⟩,.int .i64 st.place,.slice (some ⟨g,0,none⟩) 1 1,.string ⟨#[]⟩,.string ⟨#[]⟩,.slice none 0 0,.int .i64 0,.bool neg,.int .i64 0] 241)) rb w.heap.size 241 #[.string ⟨#[66,69,84,87,69,69,78]⟩,.int .i64 st.place,.slice (some ⟨g,0,none⟩) 1 1,.string ⟨#[]⟩,.string ⟨#[]⟩,.slice none 0 0,.int .i64 0,.bool neg,.int .i64 0]:=VN.new h _ _ rfl
 have hK0:TKept rb w (w.alloc (.cells #[.string ⟨#[66,69,84,87,69,69,78]⟩,.int .i64 st.place,.slice (some ⟨g,0,none⟩) 1 1,.string ⟨#[]⟩,.string ⟨#[]⟩,.slice none 0 0,.int .i64 0,.bool neg,.int .i64 0] 241)):=(TKept.refl rb w).alloc hlt _
 have h0:RT (w.alloc (.cells #[.string ⟨#[66,69,84,87,69,69,78]⟩,.int .i64 st.place,.slice (some ⟨g,0,none⟩) 1 1,.string ⟨#[]⟩,.string ⟨#[]⟩,.slice none 0 0,.int .i64 0,.bool neg,.int .i64 0] 241)) rb s (ns++new) j st:=h.alloc _
 have hG0:VN (w.alloc (.cells #[.string ⟨#[66,69,84,87,69,69,78]⟩,.int .i64 st.place,.slice (some ⟨g,0,none⟩) 1 1,.string ⟨#[]⟩,.string ⟨#[]⟩,.slice none 0 0,.int .i64 0,.bool neg,.int .i64 0] 241)) rb g 3 #[.int .i64 i0]:=hg.alloc hlt _
 have hpl:=h.fine.step_place (by omega)
 have H0:=v7 h0
 have HK0:=v7 hK0
 have HV0:=v7 hV0
 have HG0:=v7 hG0
 have HF:=v7 hf
 have ES:=v7 eS
 have HFL:=v7 hfl
 have HI0:=v7 hi0
 clear h hK0 h0 hV0 hG0 hg hf eS hfl hi0
 cases hf1:f (v6 s st) with
 | err en pl=>
  rw [betR_e1 hk hf1]
  have HF1:=v7 hf1
  clear hf1
  go_enter Tryz.func323,Tryz.ntmps323
  go_wp2_with (first|(go_at_call 172;refine (j7 (q9 H0) hs (by omega) (by omega)).mono ?_;rintro e w1 ⟨rfl,hk1,hr1⟩;have HV1:=v7 ((q9 HV0).kept hk1);have HG1:=v7 ((q9 HG0).kept hk1);have HK1:=v7 ((q9 HK0).trans hk1);have HR1:=v7 hr1;clear hk1 hr1)|(go_at_call 320;refine (q9 HF w1 (v6 s st) (ns++new) (j+1) (q9 HR1) ho).mono ?_;rintro e w2 ⟨hk2,h2⟩;rw [q9 HF1] at h2;obtain ⟨a,rfl,hr2⟩:=h2;have HV2:=v7 ((q9 HV1).kept hk2);have HG2:=v7 ((q9 HG1).kept hk2);have HK2:=v7 ((q9 HK1).trans hk2);have HR2:=v7 hr2;clear hk2 hr2)|(go_at_call 343;refine (vj2 (q9 HR2) (by decide)).mono ?_;rintro e w3 ⟨rfl,hk3,hr3⟩;have HV3:=v7 ((q9 HV2).kept hk3);have HG3:=v7 ((q9 HG2).kept hk3);have HK3:=v7 ((q9 HK2).trans hk3);have HR3:=v7 hr3;clear hk3 hr3)|(go_at_call 320;refine (q9 ES w3 _ _ _ _ (q9 HR3)).mono ?_;rintro e w4 ⟨b,rfl,hk4,hr4⟩;have HV4:=v7 ((q9 HV3).kept hk4);have HG4:=v7 ((q9 HG3).kept hk4);have HK4:=v7 ((q9 HK3).trans hk4);have HR4:=v7 hr4;clear hk4 hr4;obtain ⟨g1,cap1,w6,g2,cap2,w7,hap1,hap2,x6,z6,x7,z7,HB8,HRW⟩:=btail (q9 HR4).lt (q9 HV4) ((q9 HG4).cell 0) (q9 HR4).own_lt a b;have p2:w4.cell? ⟨w.heap.size,2,none⟩=some (.slice (some ⟨g,0,none⟩) 1 1):=(q9 HV4).cell 2;have q2:w6.cell? ⟨w.heap.size,2,none⟩=some (.slice (some ⟨g,0,none⟩) 1 1):=x6 2;have r0:w7.cell? ⟨w.heap.size,0,none⟩=some (.string ⟨#[66,69,84,87,69,69,78]⟩):=x7 0;have r1:w7.cell? ⟨w.heap.size,1,none⟩=some (.int .i64 st.place):=x7 1;have r2:w7.cell? ⟨w.heap.size,2,none⟩=some (.slice (some ⟨g1,0,none⟩) 2 cap1):=x7 2;have r3:w7.cell? ⟨w.heap.size,3,none⟩=some (.string ⟨#[]⟩):=x7 3;have r4:w7.cell? ⟨w.heap.size,4,none⟩=some (.string ⟨#[]⟩):=x7 4;have r5:w7.cell? ⟨w.heap.size,5,none⟩=some (.slice none 0 0):=x7 5;have r6:w7.cell? ⟨w.heap.size,6,none⟩=some (.int .i64 0):=x7 6;have r7:w7.cell? ⟨w.heap.size,7,none⟩=some (.bool neg):=x7 7;have r8:w7.cell? ⟨w.heap.size,8,none⟩=some (.int .i64 0):=x7 8;clear x6 x7)|(go_at_call 216;refine (qy6 ((q9 HB8).re (q9 HV4) (by decide) (by decide) (q9 HR4)) (by omega) [i0,a,b] [] neg (q9 HRW) (RowOf.no _ _ _)).mono ?_;rintro e w9 ⟨i9,rfl,hk9,hr9⟩;have HK9:=v7 (((q9 HK4).but (q9 HB8) hlt (Nat.le_refl _)).trans hk9);have HR9:=v7 hr9;clear hk9 hr9))
  go_ret
  exact ⟨q9 HK9,i9,rfl,(q9 HR9).more (by omega)⟩
 | ok lo st1=>
  have HF1:=v7 hf1
  by_cases k5:st1.tk.kind=5
  ·cases hf2:f (v6 s st1) with
   | err en pl=>
    rw [betR_e3 hk hf1 k5 hf2]
    clear hf1
    have HF2:=v7 hf2
    clear hf2
    go_enter Tryz.func323,Tryz.ntmps323
    go_wp2_with (first|(go_at_call 172;refine (j7 (q9 H0) hs (by omega) (by omega)).mono ?_;rintro e w1 ⟨rfl,hk1,hr1⟩;have HV1:=v7 ((q9 HV0).kept hk1);have HG1:=v7 ((q9 HG0).kept hk1);have HK1:=v7 ((q9 HK0).trans hk1);have HR1:=v7 hr1;clear hk1 hr1)|(go_at_call 320;refine (q9 HF w3 (v6 s st1) (ns++new++new1) (j+1+1) (q9 HR3) ho2).mono ?_;rintro e w4 ⟨hk4,h4⟩;rw [q9 HF2] at h4;obtain ⟨b,rfl,hr4⟩:=h4;have HV4:=v7 ((q9 HV3).kept hk4);have HG4:=v7 ((q9 HG3).kept hk4);have HK4:=v7 ((q9 HK3).trans hk4);have HR4:=v7 hr4;clear hk4 hr4;obtain ⟨g1,cap1,w6,g2,cap2,w7,hap1,hap2,x6,z6,x7,z7,HB8,HRW⟩:=btail (q9 HR4).lt (q9 HV4) ((q9 HG4).cell 0) (q9 HR4).own_lt a b;have p2:w4.cell? ⟨w.heap.size,2,none⟩=some (.slice (some ⟨g,0,none⟩) 1 1):=(q9 HV4).cell 2;have q2:w6.cell? ⟨w.heap.size,2,none⟩=some (.slice (some ⟨g,0,none⟩) 1 1):=x6 2;have r0:w7.cell? ⟨w.heap.size,0,none⟩=some (.string ⟨#[66,69,84,87,69,69,78]⟩):=x7 0;have r1:w7.cell? ⟨w.heap.size,1,none⟩=some (.int .i64 st.place):=x7 1;have r2:w7.cell? ⟨w.heap.size,2,none⟩=some (.slice (some ⟨g1,0,none⟩) 2 cap1):=x7 2;have r3:w7.cell? ⟨w.heap.size,3,none⟩=some (.string ⟨#[]⟩):=x7 3;have r4:w7.cell? ⟨w.heap.size,4,none⟩=some (.string ⟨#[]⟩):=x7 4;have r5:w7.cell? ⟨w.heap.size,5,none⟩=some (.slice none 0 0):=x7 5;have r6:w7.cell? ⟨w.heap.size,6,none⟩=some (.int .i64 0):=x7 6;have r7:w7.cell? ⟨w.heap.size,7,none⟩=some (.bool neg):=x7 7;have r8:w7.cell? ⟨w.heap.size,8,none⟩=some (.int .i64 0):=x7 8;clear x6 x7)|(go_at_call 320;refine (q9 HF w1 (v6 s st) (ns++new) (j+1) (q9 HR1) ho).mono ?_;rintro e w2 ⟨hk2,h2⟩;rw [q9 HF1] at h2;obtain ⟨new1,he,hr2,ho2,hp2,hfl1⟩:=h2;obtain ⟨a,ha⟩:∃k:Nat,(ns++new).length+new1.length - 1=k:=⟨_,rfl⟩;rw [ha] at he;subst he;have Ha:=v7 ha;clear ha;have HFL1:=v7 hfl1;clear hfl1;have HV2:=v7 ((q9 HV1).kept hk2);have HG2:=v7 ((q9 HG1).kept hk2);have HK2:=v7 ((q9 HK1).trans hk2);have HR2:=v7 hr2;clear hk2 hr2)|(go_at_call 343;refine (qw7 (q9 HR2) hs 5 rfl (by decide) (by decide) rfl k5).mono ?_;rintro e w3 ⟨rfl,hk3,hr3⟩;have HV3:=v7 ((q9 HV2).kept hk3);have HG3:=v7 ((q9 HG2).kept hk3);have HK3:=v7 ((q9 HK2).trans hk3);have HR3:=v7 hr3;clear hk3 hr3)|(go_at_call 216;refine (qy6 ((q9 HB8).re (q9 HV4) (by decide) (by decide) (q9 HR4)) (by omega) [i0,a,b] [] neg (q9 HRW) (RowOf.no _ _ _)).mono ?_;rintro e w9 ⟨i9,rfl,hk9,hr9⟩;have HK9:=v7 (((q9 HK4).but (q9 HB8) hlt (Nat.le_refl _)).trans hk9);have HR9:=v7 hr9;clear hk9 hr9))
    go_ret
    exact ⟨q9 HK9,i9,rfl,(q9 HR9).more (by omega)⟩
   | ok hi st2=>
    rw [betR_ok hk hf1 k5 hf2]
    clear hf1
    have HF2:=v7 hf2
    clear hf2
    go_enter Tryz.func323,Tryz.ntmps323
    go_wp2_with (first|(go_at_call 172;refine (j7 (q9 H0) hs (by omega) (by omega)).mono ?_;rintro e w1 ⟨rfl,hk1,hr1⟩;have HV1:=v7 ((q9 HV0).kept hk1);have HG1:=v7 ((q9 HG0).kept hk1);have HK1:=v7 ((q9 HK0).trans hk1);have HR1:=v7 hr1;clear hk1 hr1)|(go_at_call 320;refine (q9 HF w3 (v6 s st1) (ns++new++new1) (j+1+1) (q9 HR3) ho2).mono ?_;rintro e w4 ⟨hk4,h4⟩;rw [q9 HF2] at h4;obtain ⟨new2,he,hr4,ho4,hp4,hfl2⟩:=h4;obtain ⟨b,hb⟩:∃k:Nat,(ns++new++new1).length+new2.length - 1=k:=⟨_,rfl⟩;rw [hb] at he;subst he;have Hb:=v7 hb;clear hb;have HFL2:=v7 hfl2;clear hfl2;have HV4:=v7 ((q9 HV3).kept hk4);have HG4:=v7 ((q9 HG3).kept hk4);have HK4:=v7 ((q9 HK3).trans hk4);have HR4:=v7 hr4;clear hk4 hr4;obtain ⟨g1,cap1,w6,g2,cap2,w7,hap1,hap2,x6,z6,x7,z7,HB8,HRW⟩:=btail (q9 HR4).lt (q9 HV4) ((q9 HG4).cell 0) (q9 HR4).own_lt a b;have p2:w4.cell? ⟨w.heap.size,2,none⟩=some (.slice (some ⟨g,0,none⟩) 1 1):=(q9 HV4).cell 2;have q2:w6.cell? ⟨w.heap.size,2,none⟩=some (.slice (some ⟨g,0,none⟩) 1 1):=x6 2;have r0:w7.cell? ⟨w.heap.size,0,none⟩=some (.string ⟨#[66,69,84,87,69,69,78]⟩):=x7 0;have r1:w7.cell? ⟨w.heap.size,1,none⟩=some (.int .i64 st.place):=x7 1;have r2:w7.cell? ⟨w.heap.size,2,none⟩=some (.slice (some ⟨g1,0,none⟩) 2 cap1):=x7 2;have r3:w7.cell? ⟨w.heap.size,3,none⟩=some (.string ⟨#[]⟩):=x7 3;have r4:w7.cell? ⟨w.heap.size,4,none⟩=some (.string ⟨#[]⟩):=x7 4;have r5:w7.cell? ⟨w.heap.size,5,none⟩=some (.slice none 0 0):=x7 5;have r6:w7.cell? ⟨w.heap.size,6,none⟩=some (.int .i64 0):=x7 6;have r7:w7.cell? ⟨w.heap.size,7,none⟩=some (.bool neg):=x7 7;have r8:w7.cell? ⟨w.heap.size,8,none⟩=some (.int .i64 0):=x7 8;clear x6 x7)|(go_at_call 320;refine (q9 HF w1 (v6 s st) (ns++new) (j+1) (q9 HR1) ho).mono ?_;rintro e w2 ⟨hk2,h2⟩;rw [q9 HF1] at h2;obtain ⟨new1,he,hr2,ho2,hp2,hfl1⟩:=h2;obtain ⟨a,ha⟩:∃k:Nat,(ns++new).length+new1.length - 1=k:=⟨_,rfl⟩;rw [ha] at he;subst he;have Ha:=v7 ha;clear ha;have HFA:=v7 hr2.fine;have HFL1:=v7 hfl1;clear hfl1;have HV2:=v7 ((q9 HV1).kept hk2);have HG2:=v7 ((q9 HG1).kept hk2);have HK2:=v7 ((q9 HK1).trans hk2);have HR2:=v7 hr2;clear hk2 hr2)|(go_at_call 343;refine (qw7 (q9 HR2) hs 5 rfl (by decide) (by decide) rfl k5).mono ?_;rintro e w3 ⟨rfl,hk3,hr3⟩;have HV3:=v7 ((q9 HV2).kept hk3);have HG3:=v7 ((q9 HG2).kept hk3);have HK3:=v7 ((q9 HK2).trans hk3);have HR3:=v7 hr3;clear hk3 hr3)|(go_at_call 216;refine (vq4 ((q9 HB8).rt (q9 HV4) (by decide) (by decide) (q9 HR4)) hs ⟨20,st.place,0,[],[],[]⟩ rfl [i0,a,b] neg rfl rfl rfl (q9 HRW) (RowOf.no _ _ _)).mono ?_;rintro e w9 ⟨rfl,hk9,hr9⟩;have HK9:=v7 (((q9 HK4).but (q9 HB8) hlt (Nat.le_refl _)).trans hk9);have HR9:=v7 hr9;clear hk9 hr9))
    go_ret
    refine ⟨q9 HK9,new++new1++new2++[qi3 ⟨20,st.place,0,[],[],[]⟩ [ns.length+new.length - 1,ns.length+new.length+new1.length - 1,ns.length+new.length+new1.length+new2.length - 1] neg],qf7 (by simp;omega), ?_,ho4, ?_, ?_⟩
    ·have:=q9 HR9
     rw [q9 HI0,←q9 Ha,←q9 Hb] at this
     simp only [List.length_append] at this
     have:=this.less (j':=j) (by omega)
     simpa only [List.append_assoc] using this
    ·have e1:=qf2 s st1
     have e2:=(q9 HFA).long (by omega)
     omega
    ·have f1:=q9 HFL1
     have f2:=q9 HFL2
     rw [List.length_append] at f1
     rw [List.length_append,List.length_append] at f2
     cases neg with
     | false=>exact Flat.tri _ (q9 HFL) f1 f2
     | true=>exact Flat.neg3 _ _ rfl (q9 HFL) f1 f2
  ·rw [betR_e2 hk hf1 k5]
   clear hf1
   go_enter Tryz.func323,Tryz.ntmps323
   go_wp2_with (first|(go_at_call 172;refine (j7 (q9 H0) hs (by omega) (by omega)).mono ?_;rintro e w1 ⟨rfl,hk1,hr1⟩;have HV1:=v7 ((q9 HV0).kept hk1);have HG1:=v7 ((q9 HG0).kept hk1);have HK1:=v7 ((q9 HK0).trans hk1);have HR1:=v7 hr1;clear hk1 hr1)|(go_at_call 320;refine (q9 ES w3 _ _ _ _ (q9 HR3)).mono ?_;rintro e w4 ⟨b,rfl,hk4,hr4⟩;have HV4:=v7 ((q9 HV3).kept hk4);have HG4:=v7 ((q9 HG3).kept hk4);have HK4:=v7 ((q9 HK3).trans hk4);have HR4:=v7 hr4;clear hk4 hr4;obtain ⟨g1,cap1,w6,g2,cap2,w7,hap1,hap2,x6,z6,x7,z7,HB8,HRW⟩:=btail (q9 HR4).lt (q9 HV4) ((q9 HG4).cell 0) (q9 HR4).own_lt a b;have p2:w4.cell? ⟨w.heap.size,2,none⟩=some (.slice (some ⟨g,0,none⟩) 1 1):=(q9 HV4).cell 2;have q2:w6.cell? ⟨w.heap.size,2,none⟩=some (.slice (some ⟨g,0,none⟩) 1 1):=x6 2;have r0:w7.cell? ⟨w.heap.size,0,none⟩=some (.string ⟨#[66,69,84,87,69,69,78]⟩):=x7 0;have r1:w7.cell? ⟨w.heap.size,1,none⟩=some (.int .i64 st.place):=x7 1;have r2:w7.cell? ⟨w.heap.size,2,none⟩=some (.slice (some ⟨g1,0,none⟩) 2 cap1):=x7 2;have r3:w7.cell? ⟨w.heap.size,3,none⟩=some (.string ⟨#[]⟩):=x7 3;have r4:w7.cell? ⟨w.heap.size,4,none⟩=some (.string ⟨#[]⟩):=x7 4;have r5:w7.cell? ⟨w.heap.size,5,none⟩=some (.slice none 0 0):=x7 5;have r6:w7.cell? ⟨w.heap.size,6,none⟩=some (.int .i64 0):=x7 6;have r7:w7.cell? ⟨w.heap.size,7,none⟩=some (.bool neg):=x7 7;have r8:w7.cell? ⟨w.heap.size,8,none⟩=some (.int .i64 0):=x7 8;clear x6 x7)|(go_at_call 320;refine (q9 HF w1 (v6 s st) (ns++new) (j+1) (q9 HR1) ho).mono ?_;rintro e w2 ⟨hk2,h2⟩;rw [q9 HF1] at h2;obtain ⟨new1,he,hr2,ho2,hp2,hfl1⟩:=h2;obtain ⟨a,ha⟩:∃k:Nat,(ns++new).length+new1.length - 1=k:=⟨_,rfl⟩;rw [ha] at he;subst he;have Ha:=v7 ha;clear ha;have HFL1:=v7 hfl1;clear hfl1;have HV2:=v7 ((q9 HV1).kept hk2);have HG2:=v7 ((q9 HG1).kept hk2);have HK2:=v7 ((q9 HK1).trans hk2);have HR2:=v7 hr2;clear hk2 hr2)|(go_at_call 343;refine (qs1 (q9 HR2) hs 5 rfl (by decide) (by decide) rfl k5).mono ?_;rintro e w3 ⟨rfl,hk3,hr3⟩;have HV3:=v7 ((q9 HV2).kept hk3);have HG3:=v7 ((q9 HG2).kept hk3);have HK3:=v7 ((q9 HK2).trans hk3);have HR3:=v7 hr3;clear hk3 hr3)|(go_at_call 216;refine (qy6 ((q9 HB8).re (q9 HV4) (by decide) (by decide) (q9 HR4)) (by omega) [i0,a,b] [] neg (q9 HRW) (RowOf.no _ _ _)).mono ?_;rintro e w9 ⟨i9,rfl,hk9,hr9⟩;have HK9:=v7 (((q9 HK4).but (q9 HB8) hlt (Nat.le_refl _)).trans hk9);have HR9:=v7 hr9;clear hk9 hr9))
   go_ret
   exact ⟨q9 HK9,i9,rfl,ho2 ▸ (q9 HR9).more (by omega)⟩
end Go.Proofs.YtfkcaldjphakpaaGreatDoor
