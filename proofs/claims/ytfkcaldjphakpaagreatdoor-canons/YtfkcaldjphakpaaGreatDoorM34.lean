/- The document's answer: two sides under an operator, in their order. The document's answer: NOT of a core: walks. -/
import Derived.Test.YtfkcaldjphakpaaGreatDoorM33
import Derived.Deep.RegionHeld3
set_option maxHeartbeats 32000000
set_option maxRecDepth 100000
namespace Go.Proofs.YtfkcaldjphakpaaGreatDoor
open Go.RowKit
section
theorem jb6 {x y:List UInt8} (h:Op.bytesLess x y=true):Op.bytesLess y x=false:=by
 induction x generalizing y with
 | nil=>cases y<;>simp [Op.bytesLess] at h ⊢
 | cons a x ih=>
  cases y with
  | nil=>simp [Op.bytesLess] at h
  | cons b y=>
   simp only [Op.bytesLess,Bool.or_eq_true,Bool.and_eq_true,decide_eq_true_eq,beq_iff_eq,Bool.or_eq_false_iff,Bool.and_eq_false_iff,decide_eq_false_iff_not] at h ⊢
   rcases h with h|⟨rfl,h⟩
   ·exact ⟨fun e=>UInt8.lt_irrefl _ (UInt8.lt_trans h e),.inl (by simp;rintro rfl;exact UInt8.lt_irrefl _ h)⟩
   ·exact ⟨UInt8.lt_irrefl _,.inr (ih h)⟩
theorem jm6 {w:World} {f g:RF} {O:ByteArray} (ho:O=⟨#[65,78,68]⟩∨O=⟨#[79,82]⟩∨O=⟨#[61]⟩∨O=⟨#[43]⟩∨O=⟨#[42]⟩) (hlt:Op.bytesLess g.text f.text=true)
  {P:RF→World→Prop} (HM:∀W,Below w.heap.size w W→w.heap.size+1+1+1≤W.heap.size→Calls Tryz.prog 227 #[.string O,g.v,f.v] W fun e w'=>Below W.heap.size W w'∧∃r:RF,e=.returned r.v∧P r w')
  {Q:Ending→World→Prop} (HQ:∀r w1 w',Below w.heap.size w w1→P r w1→SixAt (w.heap.size+1+1) w1 w'→Q (.returned r.v) w') :
  Calls Tryz.prog 227 #[.string O,f.v,g.v] w Q:=by
 have hbl:Op.bytesLess (BS g.text).toList (BS f.text).toList=true:=by rw [qe0,qe0];exact hlt
 have MD:=j4 HM
 have HQ':=j4 HQ
 simp only [RF.v] at MD HQ' ⊢
 have hW3:Hid (Below w.heap.size w (((w.alloc (.cells #[.string f.op,.string (BS f.text),.int .i64 f.cls,.slice f.pa f.pn f.pc,.slice f.ta f.tn f.tc,.slice f.ra f.rn f.rc] 184)).alloc (.cells #[.string g.op,.string (BS g.text),.int .i64 g.cls,.slice g.pa g.pn g.pc,.slice g.ta g.tn g.tc,.slice g.ra g.rn g.rc] 184)).alloc (.cells #[.string ⟨#[]⟩,.string ⟨#[]⟩,.int .i64 0,.slice none 0 0,.slice none 0 0,.slice none 0 0] 184))∧w.heap.size+1+1+1≤(((w.alloc (.cells #[.string f.op,.string (BS f.text),.int .i64 f.cls,.slice f.pa f.pn f.pc,.slice f.ta f.tn f.tc,.slice f.ra f.rn f.rc] 184)).alloc (.cells #[.string g.op,.string (BS g.text),.int .i64 g.cls,.slice g.pa g.pn g.pc,.slice g.ta g.tn g.tc,.slice g.ra g.rn g.rc] 184)).alloc (.cells #[.string ⟨#[]⟩,.string ⟨#[]⟩,.int .i64 0,.slice none 0 0,.slice none 0 0,.slice none 0 0] 184)).heap.size):=j4 ⟨((((Below.refl _ _).alloc (Nat.le_refl _) _).alloc (by simp) _).alloc (by simp<;>omega) _),by simp⟩
 clear HM HQ hlt
 rcases ho with rfl|rfl|rfl|rfl|rfl
 all_goals go_enter Tryz.func227,Tryz.ntmps227
 all_goals go_wp2_with (go_at_call 227;refine (q9 MD _ (q9 hW3).1 (q9 hW3).2).mono ?_;rintro e w1 ⟨hb1,r,rfl,hp⟩;have HB1:=j4 (j6 (q9 hW3).1 hb1);obtain ⟨hc1,hf1⟩:=qa9 hb1;have r0:w1.cell? ⟨w.heap.size+1+1,0,none⟩=some (.string ⟨#[]⟩):=(hc1 _ 0 (by simp<;>omega)).trans (by simp [go_sem]);have r1:w1.cell? ⟨w.heap.size+1+1,1,none⟩=some (.string ⟨#[]⟩):=(hc1 _ 1 (by simp<;>omega)).trans (by simp [go_sem]);have r2:w1.cell? ⟨w.heap.size+1+1,2,none⟩=some (.int .i64 0):=(hc1 _ 2 (by simp<;>omega)).trans (by simp [go_sem]);have r3:w1.cell? ⟨w.heap.size+1+1,3,none⟩=some (.slice none 0 0):=(hc1 _ 3 (by simp<;>omega)).trans (by simp [go_sem]);have r4:w1.cell? ⟨w.heap.size+1+1,4,none⟩=some (.slice none 0 0):=(hc1 _ 4 (by simp<;>omega)).trans (by simp [go_sem]);have r5:w1.cell? ⟨w.heap.size+1+1,5,none⟩=some (.slice none 0 0):=(hc1 _ 5 (by simp<;>omega)).trans (by simp [go_sem]);have rz:∀i,w1.frozen? ⟨w.heap.size+1+1,i,none⟩=false:=(fun i=>(hf1 _ i (by simp<;>omega)).trans (by simp [go_sem]));have rl:w.heap.size+1+1<w1.heap.size:=(by have:=hb1.size;simp at this;omega);have HPP:=j4 hp;clear hb1 hc1 hf1 hp)
 all_goals refine bodyPost_ret (by simp [results,Tryz.results227,go_sem,r0,r1,r2,r3,r4,r5]<;>rfl) rfl ?_
 all_goals exact q9 HQ' r w1 _ (q9 HB1) (q9 HPP) (qj0 _ _ _ _ _ _ _ _)
def qf0 (o:Int):Prop:=o=6∨o=7∨o=8∨o=10∨o=11∨o=16∨o=17∨o=18∨o=19
theorem vv7 {N:Nat→Prop} {w:World} {x y:Co} {f g:RF} {o:Int} (ho:qf0 o) (hx:RfAt N w x f) (hy:RfAt N w y g) (bx:qt8 x) (by':qt8 y) (hN:∀b,N b→b<w.heap.size) (hlt:(qu2 o&&Op.bytesLess (j9 y) (j9 x))=false) :
  Calls Tryz.prog 227 #[.string (BS (qb9 o)),f.v,g.v] w (qp5 N w (.bin (qb0 o) x y)):=by
 refine jm5 (cl:=vy3 o) (sw:=qu2 o) (T:=j9 (.bin (qb0 o) x y)) (P:=fun r w1=>RfAt (fun b=>N b∨w.heap.size+1+1+1≤b) w1 (.bin (qb0 o) x y) r) ?_ ?_ ?_ ?_ ?_ ?_ ?_
 ·rcases ho with rfl|rfl|rfl|rfl|rfl|rfl|rfl|rfl|rfl
  ·exact .inl ⟨rfl,rfl,rfl⟩
  ·exact .inr (.inl ⟨rfl,rfl,rfl⟩)
  ·exact .inr (.inr (.inl ⟨rfl,rfl,rfl⟩))
  ·exact .inr (.inr (.inr (.inl ⟨rfl,rfl,rfl⟩)))
  ·exact .inr (.inr (.inr (.inr (.inl ⟨rfl,rfl,rfl⟩))))
  ·exact .inr (.inr (.inr (.inr (.inr (.inl ⟨rfl,rfl,rfl⟩)))))
  ·exact .inr (.inr (.inr (.inr (.inr (.inr (.inl ⟨rfl,rfl,rfl⟩))))))
  ·exact .inr (.inr (.inr (.inr (.inr (.inr (.inr (.inl ⟨rfl,rfl,rfl⟩)))))))
  ·exact .inr (.inr (.inr (.inr (.inr (.inr (.inr (.inr (⟨rfl,rfl,rfl⟩))))))))
 ·rw [hx.text,hy.text];exact hlt
 ·rw [hx.text];exact bx.1
 ·rw [hy.text];exact by'.1
 ·rw [hx.text,hy.text]
  rcases ho with rfl|rfl|rfl|rfl|rfl|rfl|rfl|rfl|rfl<;>rfl
 ·intro W hb hz hc
  have hp:=parts2 (N:=fun b=>N b∨b=w.heap.size+1+1+1) ((hx.below hb).keep (fun _ _ _=>rfl) (Nat.le_refl _) (fun _ h _=>.inl h)) ((hy.below hb).keep (fun _ _ _=>rfl) (Nat.le_refl _) (fun _ h _=>.inl h)) hz hc
  refine (rmade_two o _ rfl (by rcases ho with rfl|rfl|rfl|rfl|rfl|rfl|rfl|rfl|rfl<;>decide) hp (.inr rfl) bx by').mono ?_
  rintro e w' ⟨h1,r,e1,h2⟩
  exact ⟨h1,r,e1,h2.keep (fun _ _ _=>rfl) (Nat.le_refl _) (fun b h _=>by rcases h with (h|h)|h<;>first|exact .inl h|(right;omega))⟩
 ·intro r w1 w' hb hp hs
  refine ⟨hs.bel _ _ (by omega) hb,r,rfl,hs.rf hp (by rintro (h|h);have:=hN _ h;omega;omega) (fun b h _=>by rcases h with h|h<;>first|exact .inl h|(right;omega))⟩
theorem qv9 {N:Nat→Prop} {w:World} {x y:Co} {f g:RF} {o:Int} (ho:qf0 o) (hx:RfAt N w x f) (hy:RfAt N w y g) (bx:qt8 x) (by':qt8 y) (hN:∀b,N b→b<w.heap.size) :
  Calls Tryz.prog 227 #[.string (BS (qb9 o)),f.v,g.v] w (qp5 N w (j8 o x y)):=by
 unfold j8
 by_cases h:(qu2 o&&Op.bytesLess (j9 y) (j9 x))=true
 ·rw [if_pos h]
  have h':=h
  rw [Bool.and_eq_true] at h
  refine jm6 (P:=fun r w1=>RfAt (fun b=>N b∨w.heap.size+1+1+1≤b) w1 (.bin (qb0 o) y x) r) ?_ ?_ ?_ ?_
  ·rcases ho with rfl|rfl|rfl|rfl|rfl|rfl|rfl|rfl|rfl
   ·exact .inl rfl
   ·exact .inr (.inl rfl)
   ·exact .inr (.inr (.inl rfl))
   ·exact absurd h.1 (by decide)
   ·exact absurd h.1 (by decide)
   ·exact .inr (.inr (.inr (.inl rfl)))
   ·exact absurd h.1 (by decide)
   ·exact .inr (.inr (.inr (.inr (rfl))))
   ·exact absurd h.1 (by decide)
  ·rw [hx.text,hy.text];exact h.2
  ·intro W hb hz
   have hno:(qu2 o&&Op.bytesLess (j9 x) (j9 y))=false:=by
    cases hq:Op.bytesLess (j9 x) (j9 y) with
    | false=>exact Bool.and_false _
    | true=>exact absurd h.2 (by rw [jb6 hq];decide)
   refine (vv7 ho (hy.below hb) (hx.below hb) by' bx (fun b hb'=>Nat.lt_of_lt_of_le (hN b hb') hb.size) hno).mono ?_
   rintro e w' ⟨h1,r,e1,h2⟩
   exact ⟨h1,r,e1,h2.keep (fun _ _ _=>rfl) (Nat.le_refl _) (fun b h _=>by rcases h with h|h<;>first|exact .inl h|(right;omega))⟩
  ·intro r w1 w' hb hp hs
   refine ⟨hs.bel _ _ (by omega) hb,r,rfl,hs.rf hp (by rintro (h|h);have:=hN _ h;omega;omega) (fun b h _=>by rcases h with h|h<;>first|exact .inl h|(right;omega))⟩
 ·rw [if_neg h]
  exact vv7 ho hx hy bx by' hN (by simpa using h)
end
section
theorem jj9 {w:World} {f:RF} (k0:(f.op.toList==[78,79,84])=false) (k1:(f.op.toList==[65,78,68])=false) (k2:(f.op.toList==[79,82])=false) (k3:(f.op.toList==[60])=false) (k4:(f.op.toList==[60,61])=false) (k5:(f.op.toList==[84,82,85,69])=false) (k6:(f.op.toList==[70,65,76,83,69])=false) (z1:f.text.length≤400000000) {T:List UInt8} (hT:T=[40,78,79,84,32]++f.text++[41])
  {P:RF→World→Prop} (HM:∀W,Below w.heap.size w W→w.heap.size+1+1<W.heap.size→(∀k,k<6→W.cell? ⟨w.heap.size+1+1,k,none⟩=(qa3 f)[k]?) →
   Calls Tryz.prog 229 #[.string ⟨#[78,79,84]⟩,.string (BS T),.int .i64 1,.slice (some ⟨w.heap.size+1+1,0,none⟩) 1 1,.int .i64 0] W fun e w'=>Below W.heap.size W w'∧∃r:RF,e=.returned r.v∧P r w') {Q:Ending→World→Prop} (HQ:∀r w1 w',Below w.heap.size w w1→P r w1→SixAt (w.heap.size+1) w1 w'→Q (.returned r.v) w'):Calls Tryz.prog 179 #[f.v] w Q:=by
 obtain ⟨R1,e1,y1,a1⟩:=qh6 ⟨#[40,78,79,84,32]⟩ (BS f.text) 5 400000000 (Nat.le_refl _) (by rw [qc4];exact z1) (by decide)
 obtain ⟨R2,e2,y2,a2⟩:=qh6 R1 ⟨#[41]⟩ 400000005 1 y1 (Nat.le_refl _) (by decide)
 have hR:BS T=R2:=by
  rw [hT,e2,e1,show (⟨#[40,78,79,84,32]⟩:ByteArray)=BS [40,78,79,84,32] from rfl,show (⟨#[41]⟩:ByteArray)=BS [41] from rfl,qh7,qh7]
 have MD:=j4 HM
 rw [hR] at MD
 have HQ':=j4 HQ
 simp only [RF.v] at MD HQ' ⊢
 have hW3:Hid (Below w.heap.size w (((w.alloc (.cells #[.string f.op,.string (BS f.text),.int .i64 f.cls,.slice f.pa f.pn f.pc,.slice f.ta f.tn f.tc,.slice f.ra f.rn f.rc] 184)).alloc (.cells #[.string ⟨#[]⟩,.string ⟨#[]⟩,.int .i64 0,.slice none 0 0,.slice none 0 0,.slice none 0 0] 184)).alloc (.cells #[.string f.op,.string (BS f.text),.int .i64 f.cls,.slice f.pa f.pn f.pc,.slice f.ta f.tn f.tc,.slice f.ra f.rn f.rc] 184))∧w.heap.size+1+1<(((w.alloc (.cells #[.string f.op,.string (BS f.text),.int .i64 f.cls,.slice f.pa f.pn f.pc,.slice f.ta f.tn f.tc,.slice f.ra f.rn f.rc] 184)).alloc (.cells #[.string ⟨#[]⟩,.string ⟨#[]⟩,.int .i64 0,.slice none 0 0,.slice none 0 0,.slice none 0 0] 184)).alloc (.cells #[.string f.op,.string (BS f.text),.int .i64 f.cls,.slice f.pa f.pn f.pc,.slice f.ta f.tn f.tc,.slice f.ra f.rn f.rc] 184)).heap.size∧∀k,k<6→(((w.alloc (.cells #[.string f.op,.string (BS f.text),.int .i64 f.cls,.slice f.pa f.pn f.pc,.slice f.ta f.tn f.tc,.slice f.ra f.rn f.rc] 184)).alloc (.cells #[.string ⟨#[]⟩,.string ⟨#[]⟩,.int .i64 0,.slice none 0 0,.slice none 0 0,.slice none 0 0] 184)).alloc (.cells #[.string f.op,.string (BS f.text),.int .i64 f.cls,.slice f.pa f.pn f.pc,.slice f.ta f.tn f.tc,.slice f.ra f.rn f.rc] 184)).cell? ⟨w.heap.size+1+1,k,none⟩=(qa3 f)[k]?):=j4 ⟨((((Below.refl _ _).alloc (Nat.le_refl _) _).alloc (by simp) _).alloc (by simp<;>omega) _),by simp,fun k hk=>by rw [World.cell?_alloc_at _ _ _ _ (by simp)];match k,hk with|0,_=>rfl|1,_=>rfl|2,_=>rfl|3,_=>rfl|4,_=>rfl|5,_=>rfl⟩
 clear HM HQ z1 hT hR e1 e2 y1 y2
 go_enter Tryz.func179,Tryz.ntmps179
 go_wp2_with (go_at_call 229;refine (q9 MD _ (q9 hW3).1 (q9 hW3).2.1 (q9 hW3).2.2).mono ?_;rintro e w1 ⟨hb1,r,rfl,hp⟩;have HB1:=j4 (j6 (q9 hW3).1 hb1);obtain ⟨hc1,hf1⟩:=qa9 hb1;have r0:w1.cell? ⟨w.heap.size+1,0,none⟩=some (.string ⟨#[]⟩):=(hc1 _ 0 (by simp<;>omega)).trans (by simp [go_sem]);have r1:w1.cell? ⟨w.heap.size+1,1,none⟩=some (.string ⟨#[]⟩):=(hc1 _ 1 (by simp<;>omega)).trans (by simp [go_sem]);have r2:w1.cell? ⟨w.heap.size+1,2,none⟩=some (.int .i64 0):=(hc1 _ 2 (by simp<;>omega)).trans (by simp [go_sem]);have r3:w1.cell? ⟨w.heap.size+1,3,none⟩=some (.slice none 0 0):=(hc1 _ 3 (by simp<;>omega)).trans (by simp [go_sem]);have r4:w1.cell? ⟨w.heap.size+1,4,none⟩=some (.slice none 0 0):=(hc1 _ 4 (by simp<;>omega)).trans (by simp [go_sem]);have r5:w1.cell? ⟨w.heap.size+1,5,none⟩=some (.slice none 0 0):=(hc1 _ 5 (by simp<;>omega)).trans (by simp [go_sem]);have rz:∀i,w1.frozen? ⟨w.heap.size+1,i,none⟩=false:=(fun i=>(hf1 _ i (by simp<;>omega)).trans (by simp [go_sem]));have rl:w.heap.size+1<w1.heap.size:=(by have:=hb1.size;simp at this;omega);have HPP:=j4 hp;clear hb1 hc1 hf1 hp)
 refine bodyPost_ret (by simp [results,Tryz.results179,go_sem,r0,r1,r2,r3,r4,r5]<;>rfl) rfl ?_
 exact q9 HQ' r w1 _ (q9 HB1) (q9 HPP) (qj0 _ _ _ _ _ _ _ _)
theorem jk0 {w:World} {f:RF} {pb cap:Nat} {cl:Int} (h0:f.op=⟨#[78,79,84]⟩) (e1':f.pa=some ⟨pb,0,none⟩) (e2':f.pn=1) (e3':f.pc=cap) (hpb:pb<w.heap.size) (c2:w.cell? ⟨pb,2,none⟩=some (.int .i64 cl)) (hcl:¬cl=1) (z1:f.text.length≤400000000) {T:List UInt8} (hT:T=[40,78,79,84,32]++f.text++[41])
  {P:RF→World→Prop} (HM:∀W,Below w.heap.size w W→w.heap.size+1+1<W.heap.size→(∀k,k<6→W.cell? ⟨w.heap.size+1+1,k,none⟩=(qa3 f)[k]?) →
   Calls Tryz.prog 229 #[.string ⟨#[78,79,84]⟩,.string (BS T),.int .i64 1,.slice (some ⟨w.heap.size+1+1,0,none⟩) 1 1,.int .i64 0] W fun e w'=>Below W.heap.size W w'∧∃r:RF,e=.returned r.v∧P r w') {Q:Ending→World→Prop} (HQ:∀r w1 w',Below w.heap.size w w1→P r w1→SixAt (w.heap.size+1) w1 w'→Q (.returned r.v) w'):Calls Tryz.prog 179 #[f.v] w Q:=by
 obtain ⟨R1,e1,y1,a1⟩:=qh6 ⟨#[40,78,79,84,32]⟩ (BS f.text) 5 400000000 (Nat.le_refl _) (by rw [qc4];exact z1) (by decide)
 obtain ⟨R2,e2,y2,a2⟩:=qh6 R1 ⟨#[41]⟩ 400000005 1 y1 (Nat.le_refl _) (by decide)
 have hR:BS T=R2:=by
  rw [hT,e2,e1,show (⟨#[40,78,79,84,32]⟩:ByteArray)=BS [40,78,79,84,32] from rfl,show (⟨#[41]⟩:ByteArray)=BS [41] from rfl,qh7,qh7]
 have MD:=j4 HM
 rw [hR] at MD
 have HQ':=j4 HQ
 have hcl':(cl==1)=false:=beq_eq_false_iff_ne.2 hcl
 have np:¬pb=w.heap.size:=by omega
 have np1:¬pb=w.heap.size+1:=by omega
 simp only [RF.v] at MD HQ' ⊢
 have hW3:Hid (Below w.heap.size w (((w.alloc (.cells #[.string f.op,.string (BS f.text),.int .i64 f.cls,.slice f.pa f.pn f.pc,.slice f.ta f.tn f.tc,.slice f.ra f.rn f.rc] 184)).alloc (.cells #[.string ⟨#[]⟩,.string ⟨#[]⟩,.int .i64 0,.slice none 0 0,.slice none 0 0,.slice none 0 0] 184)).alloc (.cells #[.string f.op,.string (BS f.text),.int .i64 f.cls,.slice f.pa f.pn f.pc,.slice f.ta f.tn f.tc,.slice f.ra f.rn f.rc] 184))∧w.heap.size+1+1<(((w.alloc (.cells #[.string f.op,.string (BS f.text),.int .i64 f.cls,.slice f.pa f.pn f.pc,.slice f.ta f.tn f.tc,.slice f.ra f.rn f.rc] 184)).alloc (.cells #[.string ⟨#[]⟩,.string ⟨#[]⟩,.int .i64 0,.slice none 0 0,.slice none 0 0,.slice none 0 0] 184)).alloc (.cells #[.string f.op,.string (BS f.text),.int .i64 f.cls,.slice f.pa f.pn f.pc,.slice f.ta f.tn f.tc,.slice f.ra f.rn f.rc] 184)).heap.size∧∀k,k<6→(((w.alloc (.cells #[.string f.op,.string (BS f.text),.int .i64 f.cls,.slice f.pa f.pn f.pc,.slice f.ta f.tn f.tc,.slice f.ra f.rn f.rc] 184)).alloc (.cells #[.string ⟨#[]⟩,.string ⟨#[]⟩,.int .i64 0,.slice none 0 0,.slice none 0 0,.slice none 0 0] 184)).alloc (.cells #[.string f.op,.string (BS f.text),.int .i64 f.cls,.slice f.pa f.pn f.pc,.slice f.ta f.tn f.tc,.slice f.ra f.rn f.rc] 184)).cell? ⟨w.heap.size+1+1,k,none⟩=(qa3 f)[k]?):=j4 ⟨((((Below.refl _ _).alloc (Nat.le_refl _) _).alloc (by simp) _).alloc (by simp<;>omega) _),by simp,fun k hk=>by rw [World.cell?_alloc_at _ _ _ _ (by simp)];match k,hk with|0,_=>rfl|1,_=>rfl|2,_=>rfl|3,_=>rfl|4,_=>rfl|5,_=>rfl⟩
 rw [h0,e1',e2',e3'] at hW3 ⊢
 clear HM HQ z1 hT hR e1 e2 y1 y2
 go_enter Tryz.func179,Tryz.ntmps179
 go_wp2_with (go_at_call 229;refine (q9 MD _ (q9 hW3).1 (q9 hW3).2.1 (q9 hW3).2.2).mono ?_;rintro e w1 ⟨hb1,r,rfl,hp⟩;have HB1:=j4 (j6 (q9 hW3).1 hb1);obtain ⟨hc1,hf1⟩:=qa9 hb1;have r0:w1.cell? ⟨w.heap.size+1,0,none⟩=some (.string ⟨#[]⟩):=(hc1 _ 0 (by simp<;>omega)).trans (by simp [go_sem]);have r1:w1.cell? ⟨w.heap.size+1,1,none⟩=some (.string ⟨#[]⟩):=(hc1 _ 1 (by simp<;>omega)).trans (by simp [go_sem]);have r2:w1.cell? ⟨w.heap.size+1,2,none⟩=some (.int .i64 0):=(hc1 _ 2 (by simp<;>omega)).trans (by simp [go_sem]);have r3:w1.cell? ⟨w.heap.size+1,3,none⟩=some (.slice none 0 0):=(hc1 _ 3 (by simp<;>omega)).trans (by simp [go_sem]);have r4:w1.cell? ⟨w.heap.size+1,4,none⟩=some (.slice none 0 0):=(hc1 _ 4 (by simp<;>omega)).trans (by simp [go_sem]);have r5:w1.cell? ⟨w.heap.size+1,5,none⟩=some (.slice none 0 0):=(hc1 _ 5 (by simp<;>omega)).trans (by simp [go_sem]);have rz:∀i,w1.frozen? ⟨w.heap.size+1,i,none⟩=false:=(fun i=>(hf1 _ i (by simp<;>omega)).trans (by simp [go_sem]));have rl:w.heap.size+1<w1.heap.size:=(by have:=hb1.size;simp at this;omega);have HPP:=j4 hp;clear hb1 hc1 hf1 hp)
 refine bodyPost_ret (by simp [results,Tryz.results179,go_sem,r0,r1,r2,r3,r4,r5]<;>rfl) rfl ?_
 exact q9 HQ' r w1 _ (q9 HB1) (q9 HPP) (qj0 _ _ _ _ _ _ _ _)
theorem rden_side {w:World} {f g:RF} {pb cap:Nat} (h0:f.op=⟨#[78,79,84]⟩) (e1':f.pa=some ⟨pb,0,none⟩) (e2':f.pn=1) (e3':f.pc=cap) (hpb:pb<w.heap.size) (hc:∀k,k<6→w.cell? ⟨pb,k,none⟩=(qa3 g)[k]?) (hcl:g.cls=1)
  {Q:Ending→World→Prop} (HQ:∀w',Below w.heap.size w w'→Q (.returned g.v) w'):Calls Tryz.prog 179 #[f.v] w Q:=by
 have c0:w.cell? ⟨pb,0,none⟩=some (.string g.op):=hc 0 (by omega)
 have c1:w.cell? ⟨pb,1,none⟩=some (.string (BS g.text)):=hc 1 (by omega)
 have c2:w.cell? ⟨pb,2,none⟩=some (.int .i64 1):=by have:=hc 2 (by omega);rw [←hcl];exact this
 have c3:w.cell? ⟨pb,3,none⟩=some (.slice g.pa g.pn g.pc):=hc 3 (by omega)
 have c4:w.cell? ⟨pb,4,none⟩=some (.slice g.ta g.tn g.tc):=hc 4 (by omega)
 have c5:w.cell? ⟨pb,5,none⟩=some (.slice g.ra g.rn g.rc):=hc 5 (by omega)
 have np:¬pb=w.heap.size:=by omega
 have np1:¬pb=w.heap.size+1:=by omega
 have HQ':=j4 HQ
 simp only [RF.v] at HQ' ⊢
 rw [h0,e1',e2',e3']
 rw [hcl] at HQ'
 clear HQ hc hcl
 go_enter Tryz.func179,Tryz.ntmps179
 go_wp2_with fail
 refine bodyPost_ret (by simp [results,Tryz.results179,go_sem]<;>rfl) rfl ?_
 exact q9 HQ' _ (((Below.refl _ _).alloc (Nat.le_refl _) _).alloc (by simp) _)
theorem rden_both {w:World} {f g h:RF} {O1 O2:ByteArray} {pb cap:Nat} (ho:(O1=⟨#[65,78,68]⟩∧O2=⟨#[79,82]⟩)∨(O1=⟨#[79,82]⟩∧O2=⟨#[65,78,68]⟩)) (h0:f.op=O1) (e1':f.pa=some ⟨pb,0,none⟩) (e2':f.pn=2) (e3':f.pc=cap) (hpb:pb<w.heap.size) (hc:∀k,k<12→w.cell? ⟨pb,k,none⟩=(qa3 g++qa3 h)[k]?)
  {P1 P2 P3:RF→World→Prop} (H1:∀W,Below w.heap.size w W→w.heap.size+1+1≤W.heap.size→Calls Tryz.prog 179 #[g.v] W fun e w'=>Below W.heap.size W w'∧∃r:RF,e=.returned r.v∧P1 r w')
  (H2:∀W,Below w.heap.size w W→w.heap.size+1+1≤W.heap.size→Calls Tryz.prog 179 #[h.v] W fun e w'=>Below W.heap.size W w'∧∃r:RF,e=.returned r.v∧P2 r w')
  (H3:∀W w1 w2 g1 g2,Below w.heap.size w W→P1 g1 w1→Below w1.heap.size w1 w2→P2 g2 w2→Below w2.heap.size w2 W→w.heap.size+1+1≤w1.heap.size→Calls Tryz.prog 227 #[.string O2,g1.v,g2.v] W fun e w'=>Below W.heap.size W w'∧∃r:RF,e=.returned r.v∧P3 r w')
  {Q:Ending→World→Prop} (HQ:∀r w1 w',Below w.heap.size w w1→P3 r w1→SixAt (w.heap.size+1) w1 w'→Q (.returned r.v) w'):Calls Tryz.prog 179 #[f.v] w Q:=by
 have c0:w.cell? ⟨pb,0,none⟩=some (.string g.op):=hc 0 (by omega)
 have c1:w.cell? ⟨pb,1,none⟩=some (.string (BS g.text)):=hc 1 (by omega)
 have c2:w.cell? ⟨pb,2,none⟩=some (.int .i64 g.cls):=hc 2 (by omega)
 have c3:w.cell? ⟨pb,3,none⟩=some (.slice g.pa g.pn g.pc):=hc 3 (by omega)
 have c4:w.cell? ⟨pb,4,none⟩=some (.slice g.ta g.tn g.tc):=hc 4 (by omega)
 have c5:w.cell? ⟨pb,5,none⟩=some (.slice g.ra g.rn g.rc):=hc 5 (by omega)
 have c6:w.cell? ⟨pb,6,none⟩=some (.string h.op):=hc 6 (by omega)
 have c7:w.cell? ⟨pb,7,none⟩=some (.string (BS h.text)):=hc 7 (by omega)
 have c8:w.cell? ⟨pb,8,none⟩=some (.int .i64 h.cls):=hc 8 (by omega)
 have c9:w.cell? ⟨pb,9,none⟩=some (.slice h.pa h.pn h.pc):=hc 9 (by omega)
 have c10:w.cell? ⟨pb,10,none⟩=some (.slice h.ta h.tn h.tc):=hc 10 (by omega)
 have c11:w.cell? ⟨pb,11,none⟩=some (.slice h.ra h.rn h.rc):=hc 11 (by omega)
 have np:¬pb=w.heap.size:=by omega
 have np1:¬pb=w.heap.size+1:=by omega
 have D1:=j4 H1
 have D2:=j4 H2
 have D3:=j4 H3
 have HQ':=j4 HQ
 simp only [RF.v] at D1 D2 D3 HQ' ⊢
 rw [h0,e1',e2',e3']
 clear HQ H1 H2 H3 hc h0 e1' e2' e3'
 have hW2:Hid (Below w.heap.size w ((w.alloc (.cells #[.string O1,.string (BS f.text),.int .i64 f.cls,.slice (some ⟨pb,0,none⟩) 2 cap,.slice f.ta f.tn f.tc,.slice f.ra f.rn f.rc] 184)).alloc (.cells #[.string ⟨#[]⟩,.string ⟨#[]⟩,.int .i64 0,.slice none 0 0,.slice none 0 0,.slice none 0 0] 184))):=j4 (((Below.refl _ _).alloc (Nat.le_refl _) _).alloc (by simp) _)
 rcases ho with ⟨rfl,rfl⟩|⟨rfl,rfl⟩
 all_goals
  go_enter Tryz.func179,Tryz.ntmps179
  go_wp2_with (first|(go_at_call 227;refine (q9 D3 _ w1 w2 g1 g2 (q9 HB4) (q9 HP1) (q9 HB12) (q9 HP2) ((Below.refl _ _).alloc (Nat.le_refl _) _) hz1).mono ?_;rintro e w5 ⟨hb5,r,rfl,hp5⟩;have HB5:=j4 (j6 (q9 HB4) hb5);obtain ⟨hc5,hf5⟩:=qa9 hb5;have r0:w5.cell? ⟨w.heap.size+1,0,none⟩=some (.string ⟨#[]⟩):=(hc5 _ 0 (by simp<;>omega)).trans (by rw [World.cell?_alloc_past _ _ _ (by omega)];assumption);have r1:w5.cell? ⟨w.heap.size+1,1,none⟩=some (.string ⟨#[]⟩):=(hc5 _ 1 (by simp<;>omega)).trans (by rw [World.cell?_alloc_past _ _ _ (by omega)];assumption);have r2:w5.cell? ⟨w.heap.size+1,2,none⟩=some (.int .i64 0):=(hc5 _ 2 (by simp<;>omega)).trans (by rw [World.cell?_alloc_past _ _ _ (by omega)];assumption);have r3:w5.cell? ⟨w.heap.size+1,3,none⟩=some (.slice none 0 0):=(hc5 _ 3 (by simp<;>omega)).trans (by rw [World.cell?_alloc_past _ _ _ (by omega)];assumption);have r4:w5.cell? ⟨w.heap.size+1,4,none⟩=some (.slice none 0 0):=(hc5 _ 4 (by simp<;>omega)).trans (by rw [World.cell?_alloc_past _ _ _ (by omega)];assumption);have r5:w5.cell? ⟨w.heap.size+1,5,none⟩=some (.slice none 0 0):=(hc5 _ 5 (by simp<;>omega)).trans (by rw [World.cell?_alloc_past _ _ _ (by omega)];assumption);have rz:∀i,w5.frozen? ⟨w.heap.size+1,i,none⟩=false:=(fun i=>(hf5 _ i (by simp<;>omega)).trans (by rw [World.frozen?_alloc_past _ _ _ (by omega)];exact sz2 i));have rl:w.heap.size+1<w5.heap.size:=(by have:=hb5.size;simp at this;omega);have HPP:=j4 hp5;clear hb5 hc5 hf5 hp5)|(go_at_call 179;have _q:=HP1;refine (q9 D2 _ (q9 HB1a) (by simp;omega)).mono ?_;rintro e w2 ⟨hb2,g2,rfl,hp2⟩;have HB4:=j4 ((j6 (q9 HB1a) hb2).alloc (j6 (q9 HB1a) hb2).size (.cells #[.string g2.op,.string (BS g2.text),.int .i64 g2.cls,.slice g2.pa g2.pn g2.pc,.slice g2.ta g2.tn g2.tc,.slice g2.ra g2.rn g2.rc] 184));have HP2:=j4 hp2;have HB12:=j4 (j6 ((Below.refl w1.heap.size w1).alloc (Nat.le_refl _) _) hb2);obtain ⟨hc2,hf2⟩:=qa9 hb2;have hz2:w1.heap.size+1≤w2.heap.size:=(by have:=hb2.size;simp at this;omega);have t0:w2.cell? ⟨w.heap.size+1,0,none⟩=some (.string ⟨#[]⟩):=(hc2 _ 0 (by simp;omega)).trans (by rw [World.cell?_alloc_past _ _ _ (by omega)];exact s0);have t1:w2.cell? ⟨w.heap.size+1,1,none⟩=some (.string ⟨#[]⟩):=(hc2 _ 1 (by simp;omega)).trans (by rw [World.cell?_alloc_past _ _ _ (by omega)];exact s1);have t2:w2.cell? ⟨w.heap.size+1,2,none⟩=some (.int .i64 0):=(hc2 _ 2 (by simp;omega)).trans (by rw [World.cell?_alloc_past _ _ _ (by omega)];exact s2);have t3:w2.cell? ⟨w.heap.size+1,3,none⟩=some (.slice none 0 0):=(hc2 _ 3 (by simp;omega)).trans (by rw [World.cell?_alloc_past _ _ _ (by omega)];exact s3);have t4:w2.cell? ⟨w.heap.size+1,4,none⟩=some (.slice none 0 0):=(hc2 _ 4 (by simp;omega)).trans (by rw [World.cell?_alloc_past _ _ _ (by omega)];exact s4);have t5:w2.cell? ⟨w.heap.size+1,5,none⟩=some (.slice none 0 0):=(hc2 _ 5 (by simp;omega)).trans (by rw [World.cell?_alloc_past _ _ _ (by omega)];exact s5);have sz2:∀i,w2.frozen? ⟨w.heap.size+1,i,none⟩=false:=(fun i=>(hf2 _ i (by simp;omega)).trans (by rw [World.frozen?_alloc_past _ _ _ (by omega)];exact sz1 i));have v0:w2.cell? ⟨w1.heap.size,0,none⟩=some (.string g1.op):=(hc2 _ 0 (by simp)).trans (by simp);have v1:w2.cell? ⟨w1.heap.size,1,none⟩=some (.string (BS g1.text)):=(hc2 _ 1 (by simp)).trans (by simp);have v2:w2.cell? ⟨w1.heap.size,2,none⟩=some (.int .i64 g1.cls):=(hc2 _ 2 (by simp)).trans (by simp);have v3:w2.cell? ⟨w1.heap.size,3,none⟩=some (.slice g1.pa g1.pn g1.pc):=(hc2 _ 3 (by simp)).trans (by simp);have v4:w2.cell? ⟨w1.heap.size,4,none⟩=some (.slice g1.ta g1.tn g1.tc):=(hc2 _ 4 (by simp)).trans (by simp);have v5:w2.cell? ⟨w1.heap.size,5,none⟩=some (.slice g1.ra g1.rn g1.rc):=(hc2 _ 5 (by simp)).trans (by simp);have nr1:¬w1.heap.size=w2.heap.size:=(by omega);have nr2:w1.heap.size<w2.heap.size:=(by omega);have nr3:¬w.heap.size+1=w2.heap.size:=(by omega);have nr4:w.heap.size+1<w2.heap.size:=(by omega);clear hb2 hc2 hf2 hp2)|(go_at_call 179;refine (q9 D1 _ (q9 hW2) (by simp)).mono ?_;rintro e w1 ⟨hb1,g1,rfl,hp1⟩;have HP1:=j4 hp1;have HB1a:=j4 ((j6 (q9 hW2) hb1).alloc (j6 (q9 hW2) hb1).size (.cells #[.string g1.op,.string (BS g1.text),.int .i64 g1.cls,.slice g1.pa g1.pn g1.pc,.slice g1.ta g1.tn g1.tc,.slice g1.ra g1.rn g1.rc] 184));have HBW:=j4 (j6 (q9 hW2) hb1);obtain ⟨hc1,hf1⟩:=qa9 hb1;have hz1:w.heap.size+1+1≤w1.heap.size:=(by have:=hb1.size;simp at this;omega);have s0:w1.cell? ⟨w.heap.size+1,0,none⟩=some (.string ⟨#[]⟩):=(hc1 _ 0 (by simp)).trans (by simp [go_sem]);have s1:w1.cell? ⟨w.heap.size+1,1,none⟩=some (.string ⟨#[]⟩):=(hc1 _ 1 (by simp)).trans (by simp [go_sem]);have s2:w1.cell? ⟨w.heap.size+1,2,none⟩=some (.int .i64 0):=(hc1 _ 2 (by simp)).trans (by simp [go_sem]);have s3:w1.cell? ⟨w.heap.size+1,3,none⟩=some (.slice none 0 0):=(hc1 _ 3 (by simp)).trans (by simp [go_sem]);have s4:w1.cell? ⟨w.heap.size+1,4,none⟩=some (.slice none 0 0):=(hc1 _ 4 (by simp)).trans (by simp [go_sem]);have s5:w1.cell? ⟨w.heap.size+1,5,none⟩=some (.slice none 0 0):=(hc1 _ 5 (by simp)).trans (by simp [go_sem]);have sz1:∀i,w1.frozen? ⟨w.heap.size+1,i,none⟩=false:=(fun i=>(hf1 _ i (by simp)).trans (by simp [go_sem]));have f3:w1.cell? ⟨w.heap.size,3,none⟩=some (.slice (some ⟨pb,0,none⟩) 2 cap):=(hc1 _ 3 (by simp;omega)).trans (by simp [go_sem]);have d6:w1.cell? ⟨pb,6,none⟩=some (.string h.op):=((q9 HBW).cell (p:=⟨pb,6,none⟩) hpb).trans c6;have d7:w1.cell? ⟨pb,7,none⟩=some (.string (BS h.text)):=((q9 HBW).cell (p:=⟨pb,7,none⟩) hpb).trans c7;have d8:w1.cell? ⟨pb,8,none⟩=some (.int .i64 h.cls):=((q9 HBW).cell (p:=⟨pb,8,none⟩) hpb).trans c8;have d9:w1.cell? ⟨pb,9,none⟩=some (.slice h.pa h.pn h.pc):=((q9 HBW).cell (p:=⟨pb,9,none⟩) hpb).trans c9;have d10:w1.cell? ⟨pb,10,none⟩=some (.slice h.ta h.tn h.tc):=((q9 HBW).cell (p:=⟨pb,10,none⟩) hpb).trans c10;have d11:w1.cell? ⟨pb,11,none⟩=some (.slice h.ra h.rn h.rc):=((q9 HBW).cell (p:=⟨pb,11,none⟩) hpb).trans c11;have np3:pb<w1.heap.size:=(by omega);have nq1:¬w.heap.size=w1.heap.size:=(by omega);have nq2:w.heap.size<w1.heap.size:=(by omega);have nq3:¬w.heap.size+1=w1.heap.size:=(by omega);have nq4:w.heap.size+1<w1.heap.size:=(by omega);have np4:¬pb=w1.heap.size:=(by omega);clear hb1 hc1 hf1 hp1))
  refine bodyPost_ret (by simp [results,Tryz.results179,go_sem,r0,r1,r2,r3,r4,r5]<;>rfl) rfl ?_
  exact q9 HQ' r w5 _ (q9 HB5) (q9 HPP) (qj0 _ _ _ _ _ _ _ _)
end
end Go.Proofs.YtfkcaldjphakpaaGreatDoor
