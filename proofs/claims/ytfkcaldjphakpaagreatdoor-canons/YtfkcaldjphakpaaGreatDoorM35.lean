/- The document's answer: NOT of a core: the other walks. The document's answer: NOT of a core. -/
import Derived.Test.YtfkcaldjphakpaaGreatDoorM34
import Derived.Test.YtfkcaldjphakpaaGreatDoorM41
set_option maxHeartbeats 16000000
set_option maxRecDepth 100000
namespace Go.Proofs.YtfkcaldjphakpaaGreatDoor
open Go.RowKit
section
theorem rden_less {w:World} {f g h:RF} {O1 O2:ByteArray} {pb cap:Nat} (ho:(O1=⟨#[60]⟩∧O2=⟨#[60,61]⟩)∨(O1=⟨#[60,61]⟩∧O2=⟨#[60]⟩)) (h0:f.op=O1) (e1':f.pa=some ⟨pb,0,none⟩) (e2':f.pn=2) (e3':f.pc=cap) (hpb:pb<w.heap.size) (hc:∀k,k<12→w.cell? ⟨pb,k,none⟩=(qa3 g++qa3 h)[k]?)
  {P:RF→World→Prop} (H1:∀W,Below w.heap.size w W→w.heap.size+1+1≤W.heap.size→Calls Tryz.prog 227 #[.string O2,h.v,g.v] W fun e w'=>Below W.heap.size W w'∧∃r:RF,e=.returned r.v∧P r w')
  {Q:Ending→World→Prop} (HQ:∀r w1 w',Below w.heap.size w w1→P r w1→SixAt (w.heap.size+1) w1 w'→Q (.returned r.v) w'):Calls Tryz.prog 179 #[f.v] w Q:=by
 have c0:w.cell? ⟨pb,0,none⟩=some (.string g.op):=hc 0 (by omega)
 have c1:w.cell? ⟨pb,1,none⟩=some (.string (BS g.text)):=hc 1 (by omega)
 have c2:w.cell? ⟨pb,2,none⟩=some (.int .i64 g.cls):=hc 2 (by omega)
 have c3:w.cell? ⟨pb,3,none⟩=some (.slice g.pa g.pn g.pc):=hc 3 (by omega)
 have c4:w.cell? ⟨pb,4,none⟩=some (.slice g.ta g.tn g.tc):=hc 4 (by omega)
 have c5:w.cell? ⟨pb,5,none⟩=some (.slice g.ra g.rn g.rc):=hc 5 (by omega)
 have c6:w.cell? ⟨pb,6,none⟩=some (.string h.op):=hc 6 (by omega)
 have c7:w.cell? ⟨pb,7,none⟩=some (.string (BS h.text)):=hc 7 (by omega)
 have c8:w.cell? ⟨pb,8,none⟩=some (.int .i64 h.cls):=hc 8 (by omega)
 have c9:w.cell? ⟨pb,9,none⟩=some (.slice h.pa h.pn h.pc):=hc 9 (by omega)
 have c10:w.cell? ⟨pb,10,none⟩=some (.slice h.ta h.tn h.tc):=hc 10 (by omega)
 have c11:w.cell? ⟨pb,11,none⟩=some (.slice h.ra h.rn h.rc):=hc 11 (by omega)
 have np:¬pb=w.heap.size:=by omega
 have np1:¬pb=w.heap.size+1:=by omega
 have np2:¬w.heap.size+1=pb:=by omega
 have D1:=j4 H1
 have HQ':=j4 HQ
 simp only [RF.v] at D1 HQ' ⊢
 rw [h0,e1',e2',e3']
 clear HQ H1 hc h0 e1' e2' e3'
 have hW2:Hid (Below w.heap.size w ((w.alloc (.cells #[.string O1,.string (BS f.text),.int .i64 f.cls,.slice (some ⟨pb,0,none⟩) 2 cap,.slice f.ta f.tn f.tc,.slice f.ra f.rn f.rc] 184)).alloc (.cells #[.string ⟨#[]⟩,.string ⟨#[]⟩,.int .i64 0,.slice none 0 0,.slice none 0 0,.slice none 0 0] 184))):=j4 (((Below.refl _ _).alloc (Nat.le_refl _) _).alloc (by simp) _)
 rcases ho with ⟨rfl,rfl⟩|⟨rfl,rfl⟩
 all_goals
  go_enter Tryz.func179,Tryz.ntmps179
  go_wp2_with fail
  go_region_held3 (fun W=>W.cell? ⟨w.heap.size,3,none⟩=some (.slice (some ⟨pb,0,none⟩) 2 cap)∧W.cell? ⟨pb,0,none⟩=some (.string g.op)∧W.cell? ⟨pb,1,none⟩=some (.string (BS g.text))∧W.cell? ⟨pb,2,none⟩=some (.int .i64 g.cls)∧W.cell? ⟨pb,3,none⟩=some (.slice g.pa g.pn g.pc)∧W.cell? ⟨pb,4,none⟩=some (.slice g.ta g.tn g.tc)∧W.cell? ⟨pb,5,none⟩=some (.slice g.ra g.rn g.rc)∧W.cell? ⟨pb,6,none⟩=some (.string h.op)∧W.cell? ⟨pb,7,none⟩=some (.string (BS h.text))∧W.cell? ⟨pb,8,none⟩=some (.int .i64 h.cls)∧W.cell? ⟨pb,9,none⟩=some (.slice h.pa h.pn h.pc)∧W.cell? ⟨pb,10,none⟩=some (.slice h.ta h.tn h.tc)∧W.cell? ⟨pb,11,none⟩=some (.slice h.ra h.rn h.rc)) (first|with_reducible assumption|go_keep) ((go_at_call 227;refine (q9 D1 _ (q9 hW2).drew (by show _≤((w.alloc _).alloc _).heap.size;simp)).mono ?_;rintro e w1 ⟨hb1,r,rfl,hp⟩;have HB1:=j4 (j6 (q9 hW2).drew hb1);obtain ⟨hc1,hf1⟩:=qa9 hb1;have r0:w1.cell? ⟨w.heap.size+1,0,none⟩=some (.string ⟨#[]⟩):=(hc1 _ 0 (by show _<((w.alloc _).alloc _).heap.size;simp)).trans (by show ((w.alloc _).alloc _).cell? _=_;simp [go_sem]);have r1:w1.cell? ⟨w.heap.size+1,1,none⟩=some (.string ⟨#[]⟩):=(hc1 _ 1 (by show _<((w.alloc _).alloc _).heap.size;simp)).trans (by show ((w.alloc _).alloc _).cell? _=_;simp [go_sem]);have r2:w1.cell? ⟨w.heap.size+1,2,none⟩=some (.int .i64 0):=(hc1 _ 2 (by show _<((w.alloc _).alloc _).heap.size;simp)).trans (by show ((w.alloc _).alloc _).cell? _=_;simp [go_sem]);have r3:w1.cell? ⟨w.heap.size+1,3,none⟩=some (.slice none 0 0):=(hc1 _ 3 (by show _<((w.alloc _).alloc _).heap.size;simp)).trans (by show ((w.alloc _).alloc _).cell? _=_;simp [go_sem]);have r4:w1.cell? ⟨w.heap.size+1,4,none⟩=some (.slice none 0 0):=(hc1 _ 4 (by show _<((w.alloc _).alloc _).heap.size;simp)).trans (by show ((w.alloc _).alloc _).cell? _=_;simp [go_sem]);have r5:w1.cell? ⟨w.heap.size+1,5,none⟩=some (.slice none 0 0):=(hc1 _ 5 (by show _<((w.alloc _).alloc _).heap.size;simp)).trans (by show ((w.alloc _).alloc _).cell? _=_;simp [go_sem]);have rz:∀i,w1.frozen? ⟨w.heap.size+1,i,none⟩=false:=(fun i=>(hf1 _ i (by show _<((w.alloc _).alloc _).heap.size;simp)).trans (by show ((w.alloc _).alloc _).frozen? _=_;simp [go_sem]));have rl:w.heap.size+1<w1.heap.size:=(by have:=hb1.size;change ((w.alloc _).alloc _).heap.size≤_ at this;simp at this;omega);have hS:(w1.cell? ⟨w.heap.size,3,none⟩=some (.slice (some ⟨pb,0,none⟩) 2 cap)∧w1.cell? ⟨pb,0,none⟩=some (.string g.op)∧w1.cell? ⟨pb,1,none⟩=some (.string (BS g.text))∧w1.cell? ⟨pb,2,none⟩=some (.int .i64 g.cls)∧w1.cell? ⟨pb,3,none⟩=some (.slice g.pa g.pn g.pc)∧w1.cell? ⟨pb,4,none⟩=some (.slice g.ta g.tn g.tc)∧w1.cell? ⟨pb,5,none⟩=some (.slice g.ra g.rn g.rc)∧w1.cell? ⟨pb,6,none⟩=some (.string h.op)∧w1.cell? ⟨pb,7,none⟩=some (.string (BS h.text))∧w1.cell? ⟨pb,8,none⟩=some (.int .i64 h.cls)∧w1.cell? ⟨pb,9,none⟩=some (.slice h.pa h.pn h.pc)∧w1.cell? ⟨pb,10,none⟩=some (.slice h.ta h.tn h.tc)∧w1.cell? ⟨pb,11,none⟩=some (.slice h.ra h.rn h.rc)):=⟨(hc1 _ 3 (by show _<((w.alloc _).alloc _).heap.size;simp;omega)).trans (by show ((w.alloc _).alloc _).cell? _=_;simp [go_sem]),((q9 HB1).cell (p:=⟨pb,0,none⟩) hpb).trans c0,((q9 HB1).cell (p:=⟨pb,1,none⟩) hpb).trans c1,((q9 HB1).cell (p:=⟨pb,2,none⟩) hpb).trans c2,((q9 HB1).cell (p:=⟨pb,3,none⟩) hpb).trans c3,((q9 HB1).cell (p:=⟨pb,4,none⟩) hpb).trans c4,((q9 HB1).cell (p:=⟨pb,5,none⟩) hpb).trans c5,((q9 HB1).cell (p:=⟨pb,6,none⟩) hpb).trans c6,((q9 HB1).cell (p:=⟨pb,7,none⟩) hpb).trans c7,((q9 HB1).cell (p:=⟨pb,8,none⟩) hpb).trans c8,((q9 HB1).cell (p:=⟨pb,9,none⟩) hpb).trans c9,((q9 HB1).cell (p:=⟨pb,10,none⟩) hpb).trans c10,((q9 HB1).cell (p:=⟨pb,11,none⟩) hpb).trans c11⟩;have HPP:=j4 hp;clear hb1 hc1 hf1 hp))
  go_wp2_with fail
  refine bodyPost_ret (by simp [results,Tryz.results179,go_sem,r0,r1,r2,r3,r4,r5]<;>rfl) rfl ?_
  exact q9 HQ' r w1 _ (q9 HB1) (q9 HPP) (qj0 _ _ _ _ _ _ _ _)
theorem vu5 {w:World} {f:RF} {O1 O2:ByteArray} (ho:(O1=⟨#[84,82,85,69]⟩∧O2=⟨#[70,65,76,83,69]⟩)∨(O1=⟨#[70,65,76,83,69]⟩∧O2=⟨#[84,82,85,69]⟩)) (h0:f.op=O1)
  {P:RF→World→Prop} (H1:∀W,Below w.heap.size w W→w.heap.size+1+1≤W.heap.size→Calls Tryz.prog 224 #[.string O2,.string O2,.int .i64 1,.int .i64 0] W fun e w'=>Below W.heap.size W w'∧∃r:RF,e=.returned r.v∧P r w')
  {Q:Ending→World→Prop} (HQ:∀r w1 w',Below w.heap.size w w1→P r w1→SixAt (w.heap.size+1) w1 w'→Q (.returned r.v) w'):Calls Tryz.prog 179 #[f.v] w Q:=by
 have D1:=j4 H1
 have HQ':=j4 HQ
 simp only [RF.v] at D1 HQ' ⊢
 rw [h0]
 clear HQ H1 h0
 have hW2:Hid (Below w.heap.size w ((w.alloc (.cells #[.string O1,.string (BS f.text),.int .i64 f.cls,.slice f.pa f.pn f.pc,.slice f.ta f.tn f.tc,.slice f.ra f.rn f.rc] 184)).alloc (.cells #[.string ⟨#[]⟩,.string ⟨#[]⟩,.int .i64 0,.slice none 0 0,.slice none 0 0,.slice none 0 0] 184))):=j4 (((Below.refl _ _).alloc (Nat.le_refl _) _).alloc (by simp) _)
 rcases ho with ⟨rfl,rfl⟩|⟨rfl,rfl⟩
 all_goals
  go_enter Tryz.func179,Tryz.ntmps179
  go_wp2_with (go_at_call 224;refine (q9 D1 _ (q9 hW2) (by simp)).mono ?_;rintro e w1 ⟨hb1,r,rfl,hp⟩;have HB1:=j4 (j6 (q9 hW2) hb1);obtain ⟨hc1,hf1⟩:=qa9 hb1;have r0:w1.cell? ⟨w.heap.size+1,0,none⟩=some (.string ⟨#[]⟩):=(hc1 _ 0 (by simp)).trans (by simp [go_sem]);have r1:w1.cell? ⟨w.heap.size+1,1,none⟩=some (.string ⟨#[]⟩):=(hc1 _ 1 (by simp)).trans (by simp [go_sem]);have r2:w1.cell? ⟨w.heap.size+1,2,none⟩=some (.int .i64 0):=(hc1 _ 2 (by simp)).trans (by simp [go_sem]);have r3:w1.cell? ⟨w.heap.size+1,3,none⟩=some (.slice none 0 0):=(hc1 _ 3 (by simp)).trans (by simp [go_sem]);have r4:w1.cell? ⟨w.heap.size+1,4,none⟩=some (.slice none 0 0):=(hc1 _ 4 (by simp)).trans (by simp [go_sem]);have r5:w1.cell? ⟨w.heap.size+1,5,none⟩=some (.slice none 0 0):=(hc1 _ 5 (by simp)).trans (by simp [go_sem]);have rz:∀i,w1.frozen? ⟨w.heap.size+1,i,none⟩=false:=(fun i=>(hf1 _ i (by simp)).trans (by simp [go_sem]));have rl:w.heap.size+1<w1.heap.size:=(by have:=hb1.size;simp at this;omega);have HPP:=j4 hp;clear hb1 hc1 hf1 hp)
  refine bodyPost_ret (by simp [results,Tryz.results179,go_sem,r0,r1,r2,r3,r4,r5]<;>rfl) rfl ?_
  exact q9 HQ' r w1 _ (q9 HB1) (q9 HPP) (qj0 _ _ _ _ _ _ _ _)
end
section
def Tb (c:Co):Prop:=opC c=0∨vy3 (opC c)=1
def WT:Co→Prop
 | .leaf p=>0≤p.op∧p.op≤4
 | .un p x=>(p.op=5∨p.op=22∨p.op=23)∧(p.op=5→Tb x)∧WT x
 | .bin p x y=>qf0 p.op∧(p.op=6∨p.op=7→Tb x∧Tb y)∧WT x∧WT y
theorem WT.wf:∀{c:Co},WT c→WfC c
 | .leaf p,h=>by
  obtain ⟨op,a,b,d⟩:=p
  have h1:0≤op:=h.1
  have h2:op≤4:=h.2
  show qm4 op=true
  rcases (show op=0∨op=1∨op=2∨op=3∨op=4 by omega) with rfl|rfl|rfl|rfl|rfl<;>rfl
 | .un p x,h=>by
  obtain ⟨op,a,b,d⟩:=p
  refine ⟨?_,WT.wf h.2.2⟩
  show unB op=true
  rcases h.1 with e|e|e<;>(simp only at e;subst e;rfl)
 | .bin p x y,h=>by
  obtain ⟨op,a,b,d⟩:=p
  refine ⟨?_,WT.wf h.2.2.1,WT.wf h.2.2.2⟩
  show binB op=true
  rcases h.1 with e|e|e|e|e|e|e|e|e<;>(simp only at e;subst e;rfl)
theorem qw1 (o:Int) (x y:Co):(qb2 (j8 o x y)).length=(qb2 x).length+(qb2 y).length+1:=by
 unfold j8
 split<;>simp [qb2]<;>omega
theorem terms_not:∀c,(qb2 (qe3 c)).length≤(qb2 c).length+uC c:=by
 intro c
 induction c with
 | leaf p=>unfold qe3;split<;>(try split)<;>simp [qb2,uC]
 | un p x ih=>
  have:=jf7 x
  unfold qe3
  split
  ·simp [qb2,uC];omega
  ·simp [qb2,uC];omega
 | bin p x y ihx ihy=>
  have h1:=jf7 x
  have h2:=jf7 y
  unfold qe3
  by_cases h6:(p.op==6)=true
  ·rw [if_pos h6,qw1];simp [qb2,uC,h6];omega
  ·rw [if_neg h6]
   by_cases h7:(p.op==7)=true
   ·rw [if_pos h7,qw1];simp [qb2,uC,h7];omega
   ·rw [if_neg h7]
    by_cases h10:(p.op==10)=true
    ·rw [if_pos h10,qw1];simp [qb2];omega
    ·rw [if_neg h10]
     by_cases h11:(p.op==11)=true
     ·rw [if_pos h11,qw1];simp [qb2];omega
     ·rw [if_neg h11];simp [qb2,uC,h6,h7];omega
def SzC (c:Co):Prop:=(j9 c).length+7 * uC c≤400000000∧(qb2 c).length+uC c≤400000000
theorem SzC.big {c:Co} (h:SzC c):qt8 c:=⟨by have:=h.1;omega,by have:=h.2;omega⟩
theorem SzC.not {c:Co} (h:SzC c) (hw:WT c):qt8 (qe3 c):=⟨by have:=h.1;have:=qm9 c hw.wf;omega,by have:=h.2;have:=terms_not c;omega⟩
theorem qp8 {N:Nat→Prop} {w w1 w':World} {c:Co} {r:RF} (hN:∀b,N b→b<w.heap.size) (hb:Below w.heap.size w w1) (hp:RfAt (fun b=>N b∨w.heap.size+1+1≤b) w1 c r) (hs:SixAt (w.heap.size+1) w1 w'):qp5 N w c (.returned r.v) w':=
 ⟨hs.bel _ _ (by omega) hb,r,rfl,hs.rf hp (by rintro (h|h);have:=hN _ h;omega;omega) (fun b h _=>by rcases h with h|h<;>first|exact .inl h|(right;omega))⟩
theorem qx5 {N:Nat→Prop} {w W w':World} {c:Co} {e:Ending} (hz:w.heap.size+1+1≤W.heap.size) (h:qp5 N W c e w'):Below W.heap.size W w'∧∃r:RF,e=.returned r.v∧RfAt (fun b=>N b∨w.heap.size+1+1≤b) w' c r:=by
 obtain ⟨h1,r,e1,h2⟩:=h
 exact ⟨h1,r,e1,h2.keep (fun _ _ _=>rfl) (Nat.le_refl _) (fun b h _=>by rcases h with h|h<;>first|exact .inl h|(right;omega))⟩
theorem jc6 {N:Nat→Prop} {w:World} {b o:Nat} {c:Co} {p1 t1 r1:Value} (h:SideAt w b o c p1 t1 r1) (hr:RcAt N w c p1 t1 r1):∃f:RF,RfAt N w c f∧∀k,k<6→w.cell? ⟨b,o+k,none⟩=(qa3 f)[k]?:=by
 obtain ⟨⟨a,n,k,rfl⟩,⟨b',m,l,rfl⟩,d,p,q,rfl⟩:=hr.slices
 exact ⟨⟨_,j9 c,_,a,n,k,b',m,l,d,p,q⟩,⟨rfl,rfl,rfl,hr⟩,h⟩
theorem RfAt.one {N:Nat→Prop} {w:World} {p:CP} {x:Co} {f:RF} (h:RfAt N w (.un p x) f):∃pb g,f.pa=some ⟨pb,0,none⟩∧f.pn=1∧pb<w.heap.size∧RfAt N w x g∧∀k,k<6→w.cell? ⟨pb,k,none⟩=(qa3 g)[k]?:=by
 obtain ⟨⟨b,cap,p1,t1,r1,e,_,hlt,hs,hx⟩,_⟩:=h.at'
 obtain ⟨g,hg,hc⟩:=jc6 hs hx
 injection e with e1 e2 _
 exact ⟨b,g,e1,e2,hlt,hg,fun k hk=>by have:=hc k hk;rwa [Nat.zero_add] at this⟩
theorem RfAt.two {N:Nat→Prop} {w:World} {p:CP} {x y:Co} {f:RF} (h:RfAt N w (.bin p x y) f):∃pb g k,f.pa=some ⟨pb,0,none⟩∧f.pn=2∧pb<w.heap.size∧RfAt N w x g∧RfAt N w y k∧∀i,i<12→w.cell? ⟨pb,i,none⟩=(qa3 g++qa3 k)[i]?:=by
 obtain ⟨⟨b,cap,p1,t1,r1,p2,t2,r2,e,_,hlt,hs,hx,hs2,hy⟩,_⟩:=h.at'
 obtain ⟨g,hg,hc⟩:=jc6 hs hx
 obtain ⟨k,hk,hc2⟩:=jc6 hs2 hy
 injection e with e1 e2 _
 refine ⟨b,g,k,e1,e2,hlt,hg,hk,fun i hi=>?_⟩
 by_cases h6:i<6
 ·rw [List.getElem?_append_left (by exact h6)];have:=hc i h6;rwa [Nat.zero_add] at this
 ·rw [List.getElem?_append_right (by show 6≤i;omega)]
  have:=hc2 (i - 6) (by omega)
  rwa [show 6+(i - 6)=i by omega] at this
theorem vu9 {N:Nat→Prop} {w:World} {pb cap:Nat} (p:CP) {x:Co} (hp:PartsAt N w (.slice (some ⟨pb,0,none⟩) 1 cap) [x]) (hN:N pb) (hx:qt8 x) :
  Calls Tryz.prog 229 #[.string (BS (qb9 p.op)),.string (BS (j9 (.un p x))),.int .i64 (vy3 p.op),.slice (some ⟨pb,0,none⟩) 1 cap,.int .i64 (rawN p:Nat)] w (qp5 N w (.un p x)):=by
 have:=vv0 (BS (qb9 p.op)) (j9 (.un p x)) (vy3 p.op) (rawN p) hp (by simp) (by have:=hx.2;simp;omega)
 refine this.mono ?_
 rintro e w' ⟨hb,tv,rv,rfl,h1,h2⟩
 refine RcEnds.rf ⟨hb,_,tv,rv,rfl, ?_⟩
 obtain ⟨b,cap',e,hlt,hk⟩:=hp.below hb
 obtain ⟨p1,t1,r1,s1,a1⟩:=hk 0 x rfl
 have hbe:pb=b:=by injection e with e;injection e with e;injection e
 refine ⟨⟨b,cap',p1,t1,r1,e,.inl (hbe ▸ hN),hlt,s1,a1.mono (fun _ h _=>.inl h)⟩, ?_, ?_⟩
 ·have:=h1.keep (N':=fun b=>N b∨w.heap.size≤b) (fun _ _ _=>rfl) (Nat.le_refl _) (fun _ h _=>.inr h)
  simpa [qb2] using this
 ·have:=h2.keep (N':=fun b=>N b∨w.heap.size≤b) (fun _ _ _=>rfl) (Nat.le_refl _) (fun _ h _=>.inr h)
  simpa [qz2] using this
def vx3 (c:Co):Prop:=∀(N:Nat→Prop) (w:World) (f:RF),RfAt N w c f→(∀b,N b→b<w.heap.size)→Calls Tryz.prog 179 #[f.v] w (qp5 N w (qe3 c))
theorem den_hm {N:Nat→Prop} {w:World} {c:Co} {f:RF} (hf:RfAt N w c f) (hb:qt8 c):∀W,Below w.heap.size w W→w.heap.size+1+1<W.heap.size→(∀k,k<6→W.cell? ⟨w.heap.size+1+1,k,none⟩=(qa3 f)[k]?) →
   Calls Tryz.prog 229 #[.string ⟨#[78,79,84]⟩,.string (BS (j9 (.un (qb0 5) c))),.int .i64 1,.slice (some ⟨w.heap.size+1+1,0,none⟩) 1 1,.int .i64 0] W fun e w'=>Below W.heap.size W w'∧∃r:RF,e=.returned r.v∧RfAt (fun b=>N b∨w.heap.size+1+1≤b) w' (.un (qb0 5) c) r:=by
 intro W hb' hz hc
 have hp:=parts1 (N:=fun b=>N b∨b=w.heap.size+1+1) (cap:=1) ((hf.below hb').keep (fun _ _ _=>rfl) (Nat.le_refl _) (fun _ h _=>.inl h)) hz hc
 refine (vu9 (qb0 5) hp (.inr rfl) hb).mono ?_
 rintro e w' ⟨h1,r,e1,h2⟩
 exact ⟨h1,r,e1,h2.keep (fun _ _ _=>rfl) (Nat.le_refl _) (fun b h _=>by rcases h with (h|h)|h<;>first|exact .inl h|(right;omega))⟩
theorem je0 {c:Co} {f:RF} {N:Nat→Prop} {w:World} (hf:RfAt N w c f):j9 (.un (qb0 5) c)=[40,78,79,84,32]++f.text++[41]:=by
 rw [hf.text];rfl
theorem qn6 {c:Co} (o:Int) (hb:qt8 c) (hn:qe3 c=.un (qb0 5) c) (hoc:opC c=o) (ho:∀n∈[[78,79,84],[65,78,68],[79,82],[60],[60,61],[84,82,85,69],[70,65,76,83,69]],(qb9 o==n)=false):vx3 c:=by
 intro N w f hf hN
 rw [hn]
 rw [←hoc] at ho
 have key:∀n∈[[78,79,84],[65,78,68],[79,82],[60],[60,61],[84,82,85,69],[70,65,76,83,69]],(f.op.toList==n)=false:=fun n hm=>by rw [hf.op,qe0];exact ho n hm
 refine jj9 (key _ (by simp)) (key _ (by simp)) (key _ (by simp)) (key _ (by simp)) (key _ (by simp)) (key _ (by simp)) (key _ (by simp)) (by rw [hf.text];exact hb.1) (je0 hf) (den_hm hf hb) ?_
 intro r w1 w' h1 h2 h3
 exact qp8 hN h1 h2 h3
theorem qx4:∀c,WT c→Tb c→SzC c→vx3 c:=by
 intro c
 induction c with
 | leaf p=>
  intro hw ht hz
  obtain ⟨op,nu,st,es⟩:=p
  have h1:0≤op:=hw.1
  have h2:op≤4:=hw.2
  rcases (show op=0∨op=1∨op=2∨op=3∨op=4 by omega) with rfl|rfl|rfl|rfl|rfl
  ·exact qn6 0 hz.big rfl rfl (by decide)
  ·exact qn6 1 hz.big rfl rfl (by decide)
  ·exact qn6 2 hz.big rfl rfl (by decide)
  ·intro N w f hf hN
   refine vu5 (P:=fun r w1=>RfAt (fun b=>N b∨w.heap.size+1+1≤b) w1 (.leaf (qb0 4)) r) (.inl ⟨rfl,rfl⟩) hf.op ?_ (fun r w1 w'=>qp8 hN)
   intro W hb hz'
   exact (qv0 N (qb0 4) W).mono fun e w' h=>qx5 hz' h.rf
  ·intro N w f hf hN
   refine vu5 (P:=fun r w1=>RfAt (fun b=>N b∨w.heap.size+1+1≤b) w1 (.leaf (qb0 3)) r) (.inr ⟨rfl,rfl⟩) hf.op ?_ (fun r w1 w'=>qp8 hN)
   intro W hb hz'
   exact (qv0 N (qb0 3) W).mono fun e w' h=>qx5 hz' h.rf
 | un p x ih=>
  intro hw ht hz
  obtain ⟨op,nu,st,es⟩:=p
  rcases hw.1 with e|e|e
  ·simp only at e
   subst e
   by_cases hx0:opC x=0
   ·intro N w f hf hN
    obtain ⟨pb,g,e1,e2,hpb,hg,hc⟩:=hf.one
    have hnc:qe3 (.un ⟨5,nu,st,es⟩ x)=.un (qb0 5) (.un ⟨5,nu,st,es⟩ x):=by simp [qe3,hx0]
    rw [hnc]
    refine jk0 (cl:=g.cls) hf.op e1 e2 rfl hpb (hc 2 (by omega)) (by rw [hg.cls,hx0];decide) (by rw [hf.text];exact hz.big.1) (je0 hf) (den_hm hf hz.big) (fun r w1 w'=>qp8 hN)
   ·intro N w f hf hN
    obtain ⟨pb,g,e1,e2,hpb,hg,hc⟩:=hf.one
    have hnc:qe3 (.un ⟨5,nu,st,es⟩ x)=x:=by simp [qe3,hx0]
    rw [hnc]
    have hcl:g.cls=1:=by rw [hg.cls];exact ((hw.2.1 rfl).resolve_left hx0)
    refine rden_side hf.op e1 e2 rfl hpb hc hcl ?_
    intro w' hb
    exact ⟨hb,g,rfl,(hg.below hb).keep (fun _ _ _=>rfl) (Nat.le_refl _) (fun _ h _=>.inl h)⟩
  ·simp only at e
   subst e
   exact qn6 22 hz.big rfl rfl (by decide)
  ·simp only at e
   subst e
   exact qn6 23 hz.big rfl rfl (by decide)
 | bin p x y ihx ihy=>
  intro hw ht hz
  obtain ⟨op,nu,st,es⟩:=p
  have logic:∀o2,(op=6∧o2=7∨op=7∧o2=6)→qe3 (.bin ⟨op,nu,st,es⟩ x y)=j8 o2 (qe3 x) (qe3 y)→vx3 (.bin ⟨op,nu,st,es⟩ x y):=by
   intro o2 h67 hnc N w f hf hN
   rw [hnc]
   obtain ⟨pb,g,k,e1,e2,hpb,hg,hk,hc⟩:=hf.two
   obtain ⟨tx,ty⟩:=hw.2.1 (by rcases h67 with h|h;exact .inl h.1;exact .inr h.1)
   have hu:uC (.bin ⟨op,nu,st,es⟩ x y)=uC x+uC y:=by rcases h67 with ⟨h,_⟩|⟨h,_⟩<;>subst h<;>rfl
   have hlen:(j9 (.bin ⟨op,nu,st,es⟩ x y)).length=(j9 x).length+(j9 y).length+4+(qj8 op).length:=qm8 (p:=⟨op,nu,st,es⟩) hw.wf.1 x y
   have htl:(qb2 (.bin ⟨op,nu,st,es⟩ x y)).length=(qb2 x).length+(qb2 y).length+1:=by simp [qb2];omega
   have zx:SzC x:=⟨by have:=hz.1;rw [hu,hlen] at this;omega,by have:=hz.2;rw [hu,htl] at this;omega⟩
   have zy:SzC y:=⟨by have:=hz.1;rw [hu,hlen] at this;omega,by have:=hz.2;rw [hu,htl] at this;omega⟩
   refine rden_both (O2:=BS (qb9 o2)) (P1:=fun r w1=>RfAt (fun b=>N b∨w.heap.size+1+1≤b) w1 (qe3 x) r) (P2:=fun r w1=>RfAt (fun b=>N b∨w.heap.size+1+1≤b) w1 (qe3 y) r) (P3:=fun r w1=>RfAt (fun b=>N b∨w.heap.size+1+1≤b) w1 (j8 o2 (qe3 x) (qe3 y)) r) ?_ hf.op e1 e2 rfl hpb hc ?_ ?_ ?_ (fun r w1 w'=>qp8 hN)
   ·rcases h67 with ⟨h,h'⟩|⟨h,h'⟩<;>subst h h'
    ·exact .inl ⟨rfl,rfl⟩
    ·exact .inr ⟨rfl,rfl⟩
   ·intro W hb hz'
    exact (ihx hw.2.2.1 tx zx N W g (hg.below hb) (fun b h=>Nat.lt_of_lt_of_le (hN b h) hb.size)).mono fun e w' h=>qx5 hz' h
   ·intro W hb hz'
    exact (ihy hw.2.2.2 ty zy N W k (hk.below hb) (fun b h=>Nat.lt_of_lt_of_le (hN b h) hb.size)).mono fun e w' h=>qx5 hz' h
   ·intro W w1 w2 g1 g2 hb h1 hb12 h2 hb2 hz1
    have q1:RfAt (fun b=>(N b∨w.heap.size+1+1≤b)∧b<W.heap.size) W (qe3 x) g1:=(h1.below (j6 hb12 hb2)).keep (fun _ _ _=>rfl) (Nat.le_refl _) (fun b h hl=>⟨h,hl⟩)
    have q2:RfAt (fun b=>(N b∨w.heap.size+1+1≤b)∧b<W.heap.size) W (qe3 y) g2:=(h2.below hb2).keep (fun _ _ _=>rfl) (Nat.le_refl _) (fun b h hl=>⟨h,hl⟩)
    refine (qv9 (by rcases h67 with ⟨_,h'⟩|⟨_,h'⟩<;>subst h'<;>simp [qf0]) q1 q2 (zx.not hw.2.2.1) (zy.not hw.2.2.2) (fun b h=>h.2)).mono ?_
    rintro e w' ⟨h3,r,e3,h4⟩
    have hzW:w1.heap.size≤W.heap.size:=Nat.le_trans hb12.size hb2.size
    exact ⟨h3,r,e3,h4.keep (fun _ _ _=>rfl) (Nat.le_refl _) (fun b h _=>by rcases h with h|h;exact h.1;right;omega)⟩
  have less:∀o2,(op=10∧o2=11∨op=11∧o2=10)→qe3 (.bin ⟨op,nu,st,es⟩ x y)=j8 o2 y x→vx3 (.bin ⟨op,nu,st,es⟩ x y):=by
   intro o2 h67 hnc N w f hf hN
   rw [hnc]
   obtain ⟨pb,g,k,e1,e2,hpb,hg,hk,hc⟩:=hf.two
   have hlen:(j9 (.bin ⟨op,nu,st,es⟩ x y)).length=(j9 x).length+(j9 y).length+4+(qj8 op).length:=qm8 (p:=⟨op,nu,st,es⟩) hw.wf.1 x y
   have htl:(qb2 (.bin ⟨op,nu,st,es⟩ x y)).length=(qb2 x).length+(qb2 y).length+1:=by simp [qb2];omega
   have bx:qt8 x:=⟨by have:=hz.1;rw [hlen] at this;omega,by have:=hz.2;rw [htl] at this;omega⟩
   have by':qt8 y:=⟨by have:=hz.1;rw [hlen] at this;omega,by have:=hz.2;rw [htl] at this;omega⟩
   refine rden_less (O2:=BS (qb9 o2)) (P:=fun r w1=>RfAt (fun b=>N b∨w.heap.size+1+1≤b) w1 (j8 o2 y x) r) ?_ hf.op e1 e2 rfl hpb hc ?_ (fun r w1 w'=>qp8 hN)
   ·rcases h67 with ⟨h,h'⟩|⟨h,h'⟩<;>subst h h'
    ·exact .inl ⟨rfl,rfl⟩
    ·exact .inr ⟨rfl,rfl⟩
   ·intro W hb hz'
    exact (qv9 (by rcases h67 with ⟨_,h'⟩|⟨_,h'⟩<;>subst h'<;>simp [qf0]) (hk.below hb) (hg.below hb) by' bx (fun b h=>Nat.lt_of_lt_of_le (hN b h) hb.size)).mono fun e w' h=>qx5 hz' h
  rcases hw.1 with e|e|e|e|e|e|e|e|e<;>(simp only at e;subst e)
  ·exact logic 7 (.inl ⟨rfl,rfl⟩) rfl
  ·exact logic 6 (.inr ⟨rfl,rfl⟩) rfl
  ·exact qn6 8 hz.big rfl rfl (by decide)
  ·exact less 11 (.inl ⟨rfl,rfl⟩) rfl
  ·exact less 10 (.inr ⟨rfl,rfl⟩) rfl
  ·exact qn6 16 hz.big rfl rfl (by decide)
  ·exact qn6 17 hz.big rfl rfl (by decide)
  ·exact qn6 18 hz.big rfl rfl (by decide)
  ·exact qn6 19 hz.big rfl rfl (by decide)
end
end Go.Proofs.YtfkcaldjphakpaaGreatDoor
