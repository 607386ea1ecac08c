/- The document's answer: a name is one of some texts: the walk that selects. The document's answer: a core in a variable. -/
import Derived.Test.YtfkcaldjphakpaaGreatDoorM36
import Derived.Test.YtfkcaldjphakpaaGreatDoorM41
namespace Go.Proofs.YtfkcaldjphakpaaGreatDoor
open Go.RowKit
section
attribute [local go_sem ↓] qj6
theorem gtr_later (a b:List UInt8):(!(Op.bytesLess a b||a==b))=Op.bytesLess b a:=by
 rw [bl_lt,bl_lt]
 by_cases h:b<a
 ·rw [decide_eq_true h]
  have h1:¬a<b:=fun k=>lt_ir (lt_tr h k)
  have h2:(a==b)=false:=beq_eq_false_iff_ne.2 (fun e=>lt_ir (e ▸ h))
  rw [decide_eq_false h1,h2];rfl
 ·rw [decide_eq_false h]
  by_cases e:a=b
  ·subst e;simp
  ·have:a<b:=qx3 (List.not_lt.1 h) e
   rw [decide_eq_true this];rfl
def sliceN:Value→Nat
 | .slice _ n _=>n
 | _=>0
structure SelAt (w:World) (f:RF) (W:World) (lv:Value) (l:List (List UInt8)):Prop where
 row:TwRow W (w.heap.size+1+1) lv l
 bel:Below (w.heap.size+1+1) ((w.alloc (.cells #[.string f.op,.string (BS f.text),.int .i64 f.cls,.slice f.pa f.pn f.pc,.slice f.ta f.tn f.tc,.slice f.ra f.rn f.rc] 184)).alloc (.cells #[.string ⟨#[]⟩,.string ⟨#[]⟩,.int .i64 0,.slice none 0 0,.slice none 0 0,.slice none 0 0] 184)) W
section
variable {w W:World} {f:RF} {lv:Value} {l:List (List UInt8)}
theorem SelAt.drewN (h:SelAt w f W lv l) (k:Nat):SelAt w f (W.drewN k) lv l:=⟨h.row,Go.below_drewN h.bel _⟩
theorem SelAt.bel0 (h:SelAt w f W lv l):Below w.heap.size w W:=(((Below.refl _ _).alloc (Nat.le_refl _) _).alloc (by simp) _).trans (h.bel.mono (by omega))
theorem SelAt.size (h:SelAt w f W lv l):w.heap.size+1+1≤W.heap.size:=by have:=h.bel.size;simpa using this
theorem TwRow.cell {w:World} {base:Nat} {v:Value} {ts:List (List UInt8)} (h:TwRow w base v ts) {k:Nat} {t:List UInt8} (ht:ts[k]?=some t):∃g cap,v=.slice (some ⟨g,0,none⟩) ts.length cap∧base≤g∧g<w.heap.size∧w.cell? ⟨g,k,none⟩=some (.string (BS t)):=by
 obtain ⟨g,cap,e,h1,h2,h3⟩:=h.txt (by intro e;rw [e] at ht;cases ht)
 exact ⟨g,cap,e,h1,h2,h3 k t ht⟩
theorem TwRow.app1 {W:World} {base:Nat} {v:Value} {ts:List (List UInt8)} (h:TwRow W base v ts) (hb:base≤W.heap.size) (x:List UInt8) (hn:ts.length≤1000000) (H:Nat) (hH:W.heap.size=H) :
  ∃g cap w5,(jg0 #[62,62] 62 #[v,.slice (some ⟨H,0,none⟩) 1 1]).run Tryz.prog (W.alloc (.cells #[.string (BS x)] 9))=.ok (.slice (some ⟨g,0,none⟩) (ts.length+1) cap) w5 ∧
   Hid (TwRow w5 base (.slice (some ⟨g,0,none⟩) (ts.length+1) cap) (ts++[x]))∧Hid (Below base W w5):=by
 subst hH
 obtain ⟨i0,hi,hz0,hz1,hz2⟩:=info_parts vs7
 have ha:=World.ownsRow.alloc h (.cells #[.string (BS x)] 9)
 obtain ⟨g,cap,w5,hr,hown,hgrow,hat,_⟩:=run_append_lies (P:=Tryz.prog) (W.alloc (.cells #[.string (BS x)] 9)) 62 62 base 9 i0 _ 1 16 Tryz.underlying62 hi hz0 hz1 hz2 rfl (by omega) v ts.length _ ha
  ⟨W.heap.size,0,none⟩ 1 1 [.string (BS x)] rfl (World.news_of_block (cs:=#[.string (BS x)]) (t:=9) (fr:=(0,0)) (heap_alloc_new W _)) (by simp [Value.oneCell']) (by omega) (by unfold maxLen;omega) (by omega) (by simp;omega) _ rfl
 refine ⟨g,cap,w5,hr,j4 ?_,j4 ?_⟩
 ·show World.ownsRow _ _ _ _ _ _ _
  rw [List.length_append,List.length_singleton,qa0,List.map_append]
  exact hown
 ·exact Go.RowKit.Below.grown (((Below.refl base W).alloc hb _)) hgrow (by simp;omega) (fun k hk=>(ha.lt k hk).1)
end
end
section
structure OutAt (N:Nat→Prop) (w1 wr:World) (ob:Nat) (c:Co) (r:RF):Prop where
 bel:Below w1.heap.size w1 wr
 ge:w1.heap.size≤ob
 lt:ob<wr.heap.size
 cells:∀k,k<6→wr.cell? ⟨ob,k,none⟩=(qa3 r)[k]?
 fz:∀i,wr.frozen? ⟨ob,i,none⟩=false
 rf:RfAt (fun b=>N b∨(w1.heap.size≤b∧b≠ob)) wr c r
section
variable {N:Nat→Prop} {w1 wr w':World} {ob:Nat} {c d:Co} {r s:RF}
theorem OutAt.below (h:OutAt N w1 wr ob c r) (hb:Below wr.heap.size wr w'):OutAt N w1 w' ob c r:=
 ⟨j6 h.bel hb,h.ge,Nat.lt_of_lt_of_le h.lt hb.size,fun k hk=>((qa9 hb).1 _ _ h.lt).trans (h.cells k hk),fun i=>((qa9 hb).2 _ _ h.lt).trans (h.fz i),h.rf.below hb⟩
theorem OutAt.new (hb:Below w1.heap.size w1 wr) (hr:RfAt (fun b=>N b∨w1.heap.size≤b) wr c r) :
  OutAt N w1 (wr.alloc (.cells #[.string r.op,.string (BS r.text),.int .i64 r.cls,.slice r.pa r.pn r.pc,.slice r.ta r.tn r.tc,.slice r.ra r.rn r.rc] 184)) wr.heap.size c r:=by
 have ha:Below wr.heap.size wr (wr.alloc (.cells #[.string r.op,.string (BS r.text),.int .i64 r.cls,.slice r.pa r.pn r.pc,.slice r.ta r.tn r.tc,.slice r.ra r.rn r.rc] 184)):=(Below.refl _ _).alloc (Nat.le_refl _) _
 refine ⟨hb.alloc hb.size _,hb.size,by simp,fun k hk=>?_,fun i=>by simp, ?_⟩
 ·rw [World.cell?_alloc_at _ _ _ _ rfl]
  match k,hk with
  | 0,_=>rfl
  | 1,_=>rfl
  | 2,_=>rfl
  | 3,_=>rfl
  | 4,_=>rfl
  | 5,_=>rfl
 ·exact hr.keep (fun b _ hl=>ha.block b hl) ha.size (fun b h hl=>by
   rcases h with h|h
   ·exact .inl h
   ·exact .inr ⟨h,by omega⟩)
theorem six_cells {W:World} {q:Nat} {a b c d f g:Value} (h0:∃v,W.cell? ⟨q,0,none⟩=some v) (h1:∃v,W.cell? ⟨q,1,none⟩=some v) (h2:∃v,W.cell? ⟨q,2,none⟩=some v) (h3:∃v,W.cell? ⟨q,3,none⟩=some v) (h4:∃v,W.cell? ⟨q,4,none⟩=some v) (h5:∃v,W.cell? ⟨q,5,none⟩=some v) :
  ∀k,k<6→((((((W.setCell ⟨q,0,none⟩ a).setCell ⟨q,1,none⟩ b).setCell ⟨q,2,none⟩ c).setCell ⟨q,3,none⟩ d).setCell ⟨q,4,none⟩ f).setCell ⟨q,5,none⟩ g).cell? ⟨q,k,none⟩=[a,b,c,d,f,g][k]?:=by
 obtain ⟨v0,h0⟩:=h0
 obtain ⟨v1,h1⟩:=h1
 obtain ⟨v2,h2⟩:=h2
 obtain ⟨v3,h3⟩:=h3
 obtain ⟨v4,h4⟩:=h4
 obtain ⟨v5,h5⟩:=h5
 intro k hk
 match k,hk with
 | 0,_=>simp [go_sem,h0]
 | 1,_=>simp [go_sem,h1]
 | 2,_=>simp [go_sem,h2]
 | 3,_=>simp [go_sem,h3]
 | 4,_=>simp [go_sem,h4]
 | 5,_=>simp [go_sem,h5]
theorem OutAt.put (hb:Below w1.heap.size w1 wr) (ge:w1.heap.size≤ob) (lt:ob<wr.heap.size) (hN:∀b,N b→b<w1.heap.size) (hc:∀k,k<6→∃v,wr.cell? ⟨ob,k,none⟩=some v) (hf:∀i,wr.frozen? ⟨ob,i,none⟩=false) (hr:RfAt (fun b=>N b∨(w1.heap.size≤b∧b≠ob)) wr d s) :
  OutAt N w1 ((((((wr.setCell ⟨ob,0,none⟩ (.string s.op)).setCell ⟨ob,1,none⟩ (.string (BS s.text))).setCell ⟨ob,2,none⟩ (.int .i64 s.cls)).setCell ⟨ob,3,none⟩ (.slice s.pa s.pn s.pc)).setCell ⟨ob,4,none⟩ (.slice s.ta s.tn s.tc)).setCell ⟨ob,5,none⟩ (.slice s.ra s.rn s.rc)) ob d s:=by
 have hs:=qj0 wr ob (.string s.op) (.string (BS s.text)) (.int .i64 s.cls) (.slice s.pa s.pn s.pc) (.slice s.ta s.tn s.tc) (.slice s.ra s.rn s.rc)
 refine ⟨hs.bel _ _ ge hb,ge,by rw [hs.size];exact lt,six_cells (hc 0 (by omega)) (hc 1 (by omega)) (hc 2 (by omega)) (hc 3 (by omega)) (hc 4 (by omega)) (hc 5 (by omega)),fun i=>?_,hs.rf hr (by rintro (h|h);have:=hN _ h;omega;exact h.2 rfl) (fun _ h _=>h)⟩
 simp [go_sem,hf i]
end
theorem vw5 {N:Nat→Prop} {w1 W:World} {ob:Nat} {x y:Co} {f g:RF} {o:Int} (ho:qf0 o) (hb:Below w1.heap.size w1 W) (hx:RfAt (fun b=>N b∨(w1.heap.size≤b∧b≠ob)) W x f) (hy:RfAt (fun b=>N b∨(w1.heap.size≤b∧b≠ob)) W y g) (hob:ob<W.heap.size) (bx:qt8 x) (by':qt8 y) :
  Calls Tryz.prog 227 #[.string (BS (qb9 o)),f.v,g.v] W fun e w'=>Below W.heap.size W w'∧∃r:RF,e=.returned r.v∧RfAt (fun b=>N b∨(w1.heap.size≤b∧b≠ob)) w' (j8 o x y) r:=by
 have hz:=hb.size
 have q1:RfAt (fun b=>(N b∨(w1.heap.size≤b∧b≠ob))∧b<W.heap.size) W x f:=hx.keep (fun _ _ _=>rfl) (Nat.le_refl _) (fun b h hl=>⟨h,hl⟩)
 have q2:RfAt (fun b=>(N b∨(w1.heap.size≤b∧b≠ob))∧b<W.heap.size) W y g:=hy.keep (fun _ _ _=>rfl) (Nat.le_refl _) (fun b h hl=>⟨h,hl⟩)
 refine (qv9 ho q1 q2 bx by' (fun b h=>h.2)).mono ?_
 rintro e w' ⟨h1,r,e1,h2⟩
 exact ⟨h1,r,e1,h2.keep (fun _ _ _=>rfl) (Nat.le_refl _) (fun b h _=>by
  rcases h with h|h
  ·exact h.1
  ·exact .inr ⟨by omega,by omega⟩)⟩
theorem tw_no {N:Nat→Prop} {w1 W:World} {x y:Co} {f g:RF} {o:Int} (ho:qf0 o) (hb:Below w1.heap.size w1 W) (hx:RfAt (fun b=>N b∨w1.heap.size≤b) W x f) (hy:RfAt (fun b=>N b∨w1.heap.size≤b) W y g) (bx:qt8 x) (by':qt8 y) :
  Calls Tryz.prog 227 #[.string (BS (qb9 o)),f.v,g.v] W fun e w'=>Below W.heap.size W w'∧∃r:RF,e=.returned r.v∧RfAt (fun b=>N b∨w1.heap.size≤b) w' (j8 o x y) r:=by
 have hz:=hb.size
 have q1:RfAt (fun b=>(N b∨w1.heap.size≤b)∧b<W.heap.size) W x f:=hx.keep (fun _ _ _=>rfl) (Nat.le_refl _) (fun b h hl=>⟨h,hl⟩)
 have q2:RfAt (fun b=>(N b∨w1.heap.size≤b)∧b<W.heap.size) W y g:=hy.keep (fun _ _ _=>rfl) (Nat.le_refl _) (fun b h hl=>⟨h,hl⟩)
 refine (qv9 ho q1 q2 bx by' (fun b h=>h.2)).mono ?_
 rintro e w' ⟨h1,r,e1,h2⟩
 exact ⟨h1,r,e1,h2.keep (fun _ _ _=>rfl) (Nat.le_refl _) (fun b h _=>by
  rcases h with h|h
  ·exact h.1
  ·exact .inr (by omega))⟩
theorem jf0 {N:Nat→Prop} {w1 w2:World} {c:Co} {g:RF} (h:RfAt (fun b=>N b∨w1.heap.size≤b) w2 c g) (o:Obj):RfAt (fun b=>N b∨(w1.heap.size≤b∧b≠w2.heap.size)) (w2.alloc o) c g:=
 h.keep (fun b _ hl=>((Below.refl w2.heap.size w2).alloc (Nat.le_refl _) o).block b hl) (by simp) (fun b h hl=>by
  rcases h with h|h
  ·exact .inl h
  ·exact .inr ⟨h,by omega⟩)
theorem orAll_sn (x:Co):∀(r:List (List UInt8)) (f:Co) (t:List UInt8),qp7 x f (r++[t])=j8 7 (qp7 x f r) (j8 8 x (qd9 t)):=by
 intro r
 induction r with
 | nil=>intro f t;rfl
 | cons u r ih=>intro f t;rw [List.cons_append,qp7,qp7,ih]
def amK (x:Co) (S:List (List UInt8)) (i:Nat):Co:=qp7 x (j8 8 x (qd9 (S.getD 0 []))) ((S.drop 1).take (i - 1))
theorem amK_step {x:Co} {S:List (List UInt8)} {i:Nat} {t:List UInt8} (h1:1≤i) (ht:S[i]?=some t):amK x S (i+1)=j8 7 (amK x S i) (j8 8 x (qd9 t)):=by
 unfold amK
 rw [←orAll_sn]
 congr 1
 obtain ⟨j,rfl⟩:∃j,i=j+1:=⟨i - 1,by omega⟩
 rw [Nat.add_sub_cancel,Nat.add_sub_cancel,List.take_add_one,List.getElem?_drop,Nat.add_comm 1 j,ht]
 rfl
theorem amK_all {x:Co} {ts:List (List UInt8)} (hne:qf4 ts≠[]):amK x (qf4 ts) (qf4 ts).length=qk7 x ts:=by
 unfold amK qk7
 cases h:qf4 ts with
 | nil=>exact absurd h hne
 | cons t r=>simp
structure ZeroVar (w:World) (q:Nat):Prop where
 c0:w.cell? ⟨q,0,none⟩=some (.string ⟨#[]⟩)
 c1:w.cell? ⟨q,1,none⟩=some (.string ⟨#[]⟩)
 c2:w.cell? ⟨q,2,none⟩=some (.int .i64 0)
 c3:w.cell? ⟨q,3,none⟩=some (.slice none 0 0)
 c4:w.cell? ⟨q,4,none⟩=some (.slice none 0 0)
 c5:w.cell? ⟨q,5,none⟩=some (.slice none 0 0)
 fz:∀i,w.frozen? ⟨q,i,none⟩=false
 lt:q<w.heap.size
theorem ZeroVar.below {w w':World} {q:Nat} (h:ZeroVar w q) (hb:Below w.heap.size w w'):ZeroVar w' q:=
 ⟨((qa9 hb).1 _ _ h.lt).trans h.c0,((qa9 hb).1 _ _ h.lt).trans h.c1,((qa9 hb).1 _ _ h.lt).trans h.c2,((qa9 hb).1 _ _ h.lt).trans h.c3,((qa9 hb).1 _ _ h.lt).trans h.c4,((qa9 hb).1 _ _ h.lt).trans h.c5,fun i=>((qa9 hb).2 _ i h.lt).trans (h.fz i),Nat.lt_of_lt_of_le h.lt hb.size⟩
theorem ZeroVar.drew {w:World} {q:Nat} (h:ZeroVar w q):ZeroVar w.drew q:=⟨h.c0,h.c1,h.c2,h.c3,h.c4,h.c5,h.fz,h.lt⟩
theorem qt4 (B:World):ZeroVar (B.alloc (.cells #[.string ⟨#[]⟩,.string ⟨#[]⟩,.int .i64 0,.slice none 0 0,.slice none 0 0,.slice none 0 0] 184)) B.heap.size:=⟨by simp,by simp,by simp,by simp,by simp,by simp,fun i=>by simp,by simp⟩
theorem qs8 {N N':Nat→Prop} {W:World} {c:Co} {f:RF} (h:RfAt N W c f) (hN:∀b,N b→b<W.heap.size→N' b):RfAt N' W c f:=h.keep (fun _ _ _=>rfl) (Nat.le_refl _) hN
end
end Go.Proofs.YtfkcaldjphakpaaGreatDoor
