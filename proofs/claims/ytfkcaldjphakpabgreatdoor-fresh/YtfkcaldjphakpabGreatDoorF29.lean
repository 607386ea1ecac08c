/- Rows of bytes that grow: a byte, a text, a number. Rows of bytes: a number. A term as bytes. program.Read of any bytes. -/
import Derived.Test.YtfkcaldjphakpabGreatDoorF19
import Derived.Lib.AppendStr
import Derived.Deep.RegionWith
set_option maxHeartbeats 2000000
set_option maxRecDepth 100000
namespace Go.Proofs.YtfkcaldjphakpabGreatDoor
open Go.RowKit
section
attribute [local go_sem ↓] qc3
def qm2 (l:List UInt8):List Value:=l.map fun x=>.int .u8 (x.toNat:Int)
def OB (w:World) (base:Nat) (v:Value) (l:List UInt8):Prop:=w.ownsRow base 5 1 v l.length (qm2 l)
theorem OB.app {W:World} {base:Nat} {v:Value} {l:List UInt8} (h:OB W base v l) (hb:base≤W.heap.size) (x:UInt8) (xi:Int) (hx:xi=(x.toNat:Int)) (hn:l.length≤1000000) (ty:TypeId) (H:Nat) (hH:W.heap.size=H) {W':World} (hW:W'=W.alloc (.cells #[.int .u8 xi] 5)) :
  ∃g cap w5,(qh7 #[36,36] ty #[v,.slice (some ⟨H,0,none⟩) 1 1]).run Tryz.prog W'=.ok (.slice (some ⟨g,0,none⟩) (l.length+1) cap) w5 ∧
   Hid (OB w5 base (.slice (some ⟨g,0,none⟩) (l.length+1) cap) (l++[x]))∧Hid (Below base W w5):=by
 subst hH hW hx
 obtain ⟨i0,hi,hz0,hz1,hz2⟩:=info_parts qx8
 have ha:=World.ownsRow.alloc h (.cells #[.int .u8 (x.toNat:Int)] 5)
 obtain ⟨g,cap,w5,hr,hown,hgrow,hat,_⟩:=run_append_lies (P:=Tryz.prog) (W.alloc (.cells #[.int .u8 (x.toNat:Int)] 5)) 36 ty base 5 i0 _ 1 1 Tryz.underlying36 hi hz0 hz1 hz2 rfl (by omega) v l.length (qm2 l) ha
  ⟨W.heap.size,0,none⟩ 1 1 [.int .u8 (x.toNat:Int)] rfl (World.news_of_block (cs:=#[.int .u8 (x.toNat:Int)]) (t:=5) (fr:=(0,0)) (heap_alloc_new W _)) (by simp [Value.oneCell']) (by omega) (by unfold maxLen;omega) (by omega) (by simp;omega) _ rfl
 refine ⟨g,cap,w5,hr,v7 ?_,v7 ?_⟩
 ·show World.ownsRow _ _ _ _ _ _ _
  rw [List.length_append,List.length_singleton,qm2,List.map_append]
  exact hown
 ·exact Go.RowKit.Below.grown (((Below.refl base W).alloc hb _)) hgrow (by simp;omega) (fun k hk=>(ha.lt k hk).1)
theorem OB.form {w:World} {base:Nat} {v:Value} {l:List UInt8} (h:OB w base v l):∃a c,v=.slice a l.length c:=by
 rcases h.2 with ⟨rfl,hn⟩|⟨g,cap,cur,rfl,_⟩
 ·exact ⟨none,0,by rw [hn]⟩
 ·exact ⟨_,_,rfl⟩
theorem vn9 (l:List UInt8):Lib.strCells (BS l)=qm2 l:=by
 simp [Lib.strCells,qm2,BS]
theorem OB.appText {W:World} {base:Nat} {v:Value} {l:List UInt8} (h:OB W base v l) (hb:base≤W.heap.size) (s:List UInt8) (hn:l.length+s.length≤1000000) (ty:TypeId) :
  ∃v' w5,(qh7 #[36,9] ty #[v,.string (BS s)]).run Tryz.prog W=.ok v' w5∧Hid (OB w5 base v' (l++s))∧Hid (Below base W w5):=by
 obtain ⟨i0,hi,hz0,hz1,hz2⟩:=info_parts qx8
 have hs:(BS s).size=s.length:=qc0 s
 obtain ⟨v',w5,hr,hown,hgrow,_⟩:=Lib.run_append_own_string (P:=Tryz.prog) W base 36 9 ty 5 i0 Tryz.underlying36 Tryz.underlying9 hi hz0 hz1 hz2 v l.length (qm2 l) h (BS s) (by rw [hs];unfold maxLen;omega) (by rw [hs];omega) hb
 rw [hs,vn9] at hown
 refine ⟨v',w5,hr,v7 ?_,v7 ?_⟩
 ·show World.ownsRow _ _ _ _ _ _ _
  rw [List.length_append,qm2,List.map_append]
  exact hown
 ·exact Go.RowKit.Below.grown (Below.refl base W) hgrow hb (fun k hk=>(World.ownsRow.lt h k hk).1)
def qs5 (base:Nat) (W:World) (l:List UInt8) (e:Ending) (w':World):Prop:=∃v,e=.returned v∧OB w' base v l∧Below base W w'
def vg2 (s:List UInt8):List UInt8:=UInt8.ofNat s.length::s
theorem qw4 (base:Nat) (v:Value) (l s:List UInt8) (W:World) (h:OB W base v l) (hb:base≤W.heap.size) (hn:l.length+s.length≤900000) (hs:s.length≤255) (Q:Ending→World→Prop) (hQ:∀e w',qs5 base W (l++vg2 s) e w'→Q e w') :
  Calls Tryz.prog 96 #[v,.string (BS s)] W Q:=by
 have HQ:=v7 hQ
 clear hQ
 have hz:(BS s).size=s.length:=qc0 s
 obtain ⟨a,c,rfl⟩:=h.form
 obtain ⟨g,cap,w5,hap,HO,HB⟩:=h.app hb (UInt8.ofNat s.length) (s.length:Int) (by rw [UInt8.toNat_ofNat'];simp;omega) (by omega) 36 _ rfl rfl
 obtain ⟨v',w6,hap2,HO2,HB2⟩:=(q9 HO).appText (Nat.le_trans hb (q9 HB).size) s (by simp;omega) 36
 have hs0:(0:Int)≤(s.length:Int):=by omega
 have hs1:(s.length:Int)<256:=by omega
 go_enter Tryz.func96,Tryz.ntmps96
 go_wp2_with fail
 exact q9 HQ _ _ ⟨_,rfl,by have:=q9 HO2;rw [List.append_assoc] at this;exact this,(q9 HB).trans (q9 HB2)⟩
end
section
attribute [local go_sem ↓] qc3
def nByte (n:Int) (k:Nat):UInt8:=UInt8.ofNat (n / 2 ^ (8 * k) % 256).toNat
def qn7 (n:Int):Nat→List UInt8
 | 0=>[]
 | k+1=>qn7 n k++[nByte n k]
theorem qi6 (n:Int) (k:Nat):(qn7 n k).length=k:=by
 induction k with
 | zero=>rfl
 | succ k ih=>rw [qn7,List.length_append,ih];rfl
theorem vk6 (n:Int) (k:Nat):n / 2 ^ (8 * k) % 256=((nByte n k).toNat:Int):=by
 have h1:=Int.emod_nonneg (n / 2 ^ (8 * k)) (show (256:Int)≠0 by decide)
 have h2:=Int.emod_lt_of_pos (n / 2 ^ (8 * k)) (show (0:Int)<256 by decide)
 unfold nByte
 generalize n / 2 ^ (8 * k) % 256=x at *
 rw [UInt8.toNat_ofNat']
 omega
theorem vp8 (base:Nat) (v:Value) (l:List UInt8) (n:Int) (W:World) (h:OB W base v l) (hb:base≤W.heap.size) (hn:l.length≤900000) (Q:Ending→World→Prop) (hQ:∀e w',qs5 base W (l++qn7 n 8) e w'→Q e w') :
  Calls Tryz.prog 95 #[v,.int .i64 n] W Q:=by
 have HQ:=v7 hQ
 clear hQ
 have HO:=v7 h
 obtain ⟨a,c,rfl⟩:=h.form
 clear h
 go_enter Tryz.func95,Tryz.ntmps95
 go_wp2_with fail
 go_loopw [0,6] (fun u i wr=>∃(k:Nat),k≤8∧i=.int .i64 k∧Hid (OB wr base u (l++qn7 n k))∧Hid (Below base W wr)) (fun _ i _=>8 - (intOf i).toNat)
 case atStart=>exact ⟨0,by decide,rfl,by rw [qn7,List.append_nil];exact HO,v7 (Below.refl _ _)⟩
 case round=>
  obtain ⟨k,hk,rfl,HK,HB⟩:=hrel
  have hlen:(l++qn7 n k).length≤1000000:=by rw [List.length_append,qi6];omega
  obtain ⟨L,hL⟩:∃L,l++qn7 n k=L:=⟨_,rfl⟩
  rw [hL] at HK hlen
  have HL:=v7 hL
  clear hL
  obtain ⟨a',c',rfl⟩:=(q9 HK).form
  by_cases hk8:k<8
  ·have hbz:=(q9 HB).size
   obtain ⟨g,cap,w5,hap,HO5,HB5⟩:=(q9 HK).app (by omega) (nByte n k) _ (vk6 n k) hlen 36 _ rfl rfl
   have HB6:=v7 ((q9 HB).trans (q9 HB5))
   clear HB5
   go_wp2_with fail
   exact ⟨⟨k+1,by omega,rfl,v7 (by rw [qn7,←List.append_assoc,q9 HL];exact q9 HO5),HB6⟩,by simp [intOf];omega⟩
  ·have:k=8:=by omega
   subst this
   go_wp2_with fail
   exact q9 HQ _ _ ⟨_,rfl,by rw [q9 HL];exact q9 HK,q9 HB⟩
end
section
set_option linter.unusedSimpArgs false
set_option linter.unusedVariables false
attribute [local go_sem ↓] qc3
def encT (t:Tm):List UInt8:=
 if t.op=1 then UInt8.ofNat t.op::qn7 t.num 8
 else if t.op=22 then [UInt8.ofNat t.op,UInt8.ofNat t.left]++vg2 t.esc++vg2 t.str
 else if t.op=0∨t.op=2 then UInt8.ofNat t.op::vg2 t.str
 else if qf7 t.op then [UInt8.ofNat t.op,UInt8.ofNat t.right,UInt8.ofNat t.left]
 else if t.op=5∨t.op=23 then [UInt8.ofNat t.op,UInt8.ofNat t.left]
 else [UInt8.ofNat t.op]
structure WSt (base:Nat) (W:World) (l:List UInt8) (tb:Nat) (t:Tm) (w':World) (v':Value):Prop where
 ob:OB w' base v' l
 tm:TmAt w' tb t
 ne:v'.ownBlock≠some tb
 bel:Below base W w'
 ge:base≤w'.heap.size
theorem WSt.start {base:Nat} {W:World} {v:Value} {l:List UInt8} (h:OB W base v l) (hb:base≤W.heap.size) (t:Tm) (ty:TypeId) :
  WSt base W l W.heap.size t (W.alloc (.cells #[.int .i64 t.op,.int .i64 t.left,.int .i64 t.right,.int .i64 t.num,.string (BS t.str),.string (BS t.esc)] ty)) v:=by
 refine ⟨World.ownsRow.alloc h _,⟨by simp, ?_, ?_, ?_, ?_, ?_, ?_,fun j=>?_⟩,fun e=>by have:=(World.ownsRow.lt h _ e).2;omega,(Below.refl _ _).alloc hb _,by simp;omega⟩<;>simp [go_sem]
theorem WSt.app {base:Nat} {W:World} {l:List UInt8} {tb:Nat} {t:Tm} {w':World} {v':Value} (h:WSt base W l tb t w' v') (x:UInt8) (xi:Int) (hx:xi=(x.toNat:Int)) (hn:l.length≤1000000) (n:Nat) (hnl:l.length=n) (H:Nat) (hH:w'.heap.size=H) :
  ∃g cap w5,(qh7 #[36,36] 36 #[v',.slice (some ⟨H,0,none⟩) 1 1]).run Tryz.prog (w'.alloc (.cells #[.int .u8 xi] 5))=.ok (.slice (some ⟨g,0,none⟩) (n+1) cap) w5 ∧
   Hid (WSt base W (l++[x]) tb t w5 (.slice (some ⟨g,0,none⟩) (n+1) cap)):=by
 subst hH hx hnl
 obtain ⟨i0,hi,hz0,hz1,hz2⟩:=info_parts qx8
 have hge:=h.ge
 have ha:=World.ownsRow.alloc h.ob (.cells #[.int .u8 (x.toNat:Int)] 5)
 obtain ⟨g,cap,w5,hr,hown,hgrow,hat,_⟩:=run_append_lies (P:=Tryz.prog) (w'.alloc (.cells #[.int .u8 (x.toNat:Int)] 5)) 36 36 base 5 i0 _ 1 1 Tryz.underlying36 hi hz0 hz1 hz2 rfl (by omega) v' l.length (qm2 l) ha
  ⟨w'.heap.size,0,none⟩ 1 1 [.int .u8 (x.toNat:Int)] rfl (World.news_of_block (cs:=#[.int .u8 (x.toNat:Int)]) (t:=5) (fr:=(0,0)) (heap_alloc_new w' _)) (by simp [Value.oneCell']) (by omega) (by unfold maxLen;omega) (by omega) (by simp;omega) _ rfl
 have hz:=hgrow.size
 simp at hz
 have htl:=h.tm.lt
 have hb5:Below base w' w5:=Go.RowKit.Below.grown (((Below.refl base w').alloc hge _)) hgrow (by simp;omega) (fun k hk=>(ha.lt k hk).1)
 refine ⟨g,cap,w5,hr,v7 ⟨?_, ?_, ?_,h.bel.trans hb5,by omega⟩⟩
 ·show World.ownsRow _ _ _ _ _ _ _
  rw [List.length_append,List.length_singleton,qm2,List.map_append]
  exact hown
 ·exact h.tm.same (by omega) ((hgrow.block tb (by simp;omega) (fun e=>h.ne e.symm)).trans (Below.heap_alloc w' _ tb htl))
 ·intro e
  have he:g=tb:=by simpa [Value.ownBlock] using e
  subst he
  rcases hat with hat|hat
  ·exact h.ne hat
  ·simp at hat
   omega
structure SmallT (t:Tm):Prop where
 left:t.left≤255
 right:t.right≤255
 str:t.str.length≤255
 esc:t.esc.length≤255
theorem vr2 {n:Nat} (h:n≤255):(n:Int)=((UInt8.ofNat n).toNat:Int):=by rw [UInt8.toNat_ofNat'];omega
theorem write_0 (base:Nat) (v:Value) (l:List UInt8) (t:Tm) (W:World) (h:OB W base v l) (hb:base≤W.heap.size) (hn:l.length≤800000) (ht:SmallT t) (ho:t.op=0) (Q:Ending→World→Prop) (hQ:∀e w',qs5 base W (l++encT t) e w'→Q e w') :
  Calls Tryz.prog 63 #[tmV t,v] W Q:=by
 have hE:encT t=UInt8.ofNat 0::vg2 t.str:=by simp [encT,ho,qf7]
 have HQ:=v7 hQ
 rw [hE] at HQ
 clear hQ
 have S0:=v7 (WSt.start h hb t 142)
 obtain ⟨a,c,rfl⟩:=h.form
 have hl:=ht.left
 have hr:=ht.right
 have hl0:(0:Int)≤(t.left:Int):=by omega
 have hl1:(t.left:Int)<256:=by omega
 have hr0:(0:Int)≤(t.right:Int):=by omega
 have hr1:(t.right:Int)<256:=by omega
 obtain ⟨n,hnl⟩:∃n,l.length=n:=⟨_,rfl⟩
 have HNL:=v7 hnl
 rw [hnl] at S0 hn ⊢
 obtain ⟨g1,cap1,w1,hap1,S1⟩:=(q9 S0).app (UInt8.ofNat 0) 0 (by decide) (by omega) n hnl (W.heap.size+1) (by simp)
 obtain ⟨tl1,a0,a1,a2,a3,a4,a5,af⟩:=(q9 S1).tm
 have hs:=ht.str
 have WN:=v7 (qw4 base (.slice (some ⟨g1,0,none⟩) (n+1) cap1) (l++[UInt8.ofNat 0]) t.str w1 (q9 S1).ob (q9 S1).ge (by simp;omega) (by omega) _ (fun e w' h=>h))
 unfold tmV
 have e0:(t.op:Int)=0:=by omega
 rw [e0] at a0 hap1 ⊢
 clear hE ho h hl hr ht hnl hn hb e0 S0
 go_enter Tryz.func63,Tryz.ntmps63
 go_wp2_with (go_at_call 96;refine (q9 WN).mono ?_;rintro e w2 ⟨v2,rfl,ho2,hb2⟩;have HO2:=v7 ho2;have HB2:=v7 hb2;clear ho2 hb2)
 exact q9 HQ _ _ ⟨_,rfl,by have:=q9 HO2;rw [List.append_assoc] at this;exact this,(q9 S1).bel.trans (q9 HB2)⟩
theorem write_1 (base:Nat) (v:Value) (l:List UInt8) (t:Tm) (W:World) (h:OB W base v l) (hb:base≤W.heap.size) (hn:l.length≤800000) (ht:SmallT t) (ho:t.op=1) (Q:Ending→World→Prop) (hQ:∀e w',qs5 base W (l++encT t) e w'→Q e w') :
  Calls Tryz.prog 63 #[tmV t,v] W Q:=by
 have hE:encT t=UInt8.ofNat 1::qn7 t.num 8:=by simp [encT,ho,qf7]
 have HQ:=v7 hQ
 rw [hE] at HQ
 clear hQ
 have S0:=v7 (WSt.start h hb t 142)
 obtain ⟨a,c,rfl⟩:=h.form
 have hl:=ht.left
 have hr:=ht.right
 have hl0:(0:Int)≤(t.left:Int):=by omega
 have hl1:(t.left:Int)<256:=by omega
 have hr0:(0:Int)≤(t.right:Int):=by omega
 have hr1:(t.right:Int)<256:=by omega
 obtain ⟨n,hnl⟩:∃n,l.length=n:=⟨_,rfl⟩
 have HNL:=v7 hnl
 rw [hnl] at S0 hn ⊢
 obtain ⟨g1,cap1,w1,hap1,S1⟩:=(q9 S0).app (UInt8.ofNat 1) 1 (by decide) (by omega) n hnl (W.heap.size+1) (by simp)
 obtain ⟨tl1,a0,a1,a2,a3,a4,a5,af⟩:=(q9 S1).tm
 have WN:=v7 (vp8 base (.slice (some ⟨g1,0,none⟩) (n+1) cap1) (l++[UInt8.ofNat 1]) t.num w1 (q9 S1).ob (q9 S1).ge (by simp;omega) _ (fun e w' h=>h))
 unfold tmV
 have e0:(t.op:Int)=1:=by omega
 rw [e0] at a0 hap1 ⊢
 clear hE ho h hl hr ht hnl hn hb e0 S0
 go_enter Tryz.func63,Tryz.ntmps63
 go_wp2_with (go_at_call 95;refine (q9 WN).mono ?_;rintro e w2 ⟨v2,rfl,ho2,hb2⟩;have HO2:=v7 ho2;have HB2:=v7 hb2;clear ho2 hb2)
 exact q9 HQ _ _ ⟨_,rfl,by have:=q9 HO2;rw [List.append_assoc] at this;exact this,(q9 S1).bel.trans (q9 HB2)⟩
theorem write_2 (base:Nat) (v:Value) (l:List UInt8) (t:Tm) (W:World) (h:OB W base v l) (hb:base≤W.heap.size) (hn:l.length≤800000) (ht:SmallT t) (ho:t.op=2) (Q:Ending→World→Prop) (hQ:∀e w',qs5 base W (l++encT t) e w'→Q e w') :
  Calls Tryz.prog 63 #[tmV t,v] W Q:=by
 have hE:encT t=UInt8.ofNat 2::vg2 t.str:=by simp [encT,ho,qf7]
 have HQ:=v7 hQ
 rw [hE] at HQ
 clear hQ
 have S0:=v7 (WSt.start h hb t 142)
 obtain ⟨a,c,rfl⟩:=h.form
 have hl:=ht.left
 have hr:=ht.right
 have hl0:(0:Int)≤(t.left:Int):=by omega
 have hl1:(t.left:Int)<256:=by omega
 have hr0:(0:Int)≤(t.right:Int):=by omega
 have hr1:(t.right:Int)<256:=by omega
 obtain ⟨n,hnl⟩:∃n,l.length=n:=⟨_,rfl⟩
 have HNL:=v7 hnl
 rw [hnl] at S0 hn ⊢
 obtain ⟨g1,cap1,w1,hap1,S1⟩:=(q9 S0).app (UInt8.ofNat 2) 2 (by decide) (by omega) n hnl (W.heap.size+1) (by simp)
 obtain ⟨tl1,a0,a1,a2,a3,a4,a5,af⟩:=(q9 S1).tm
 have hs:=ht.str
 have WN:=v7 (qw4 base (.slice (some ⟨g1,0,none⟩) (n+1) cap1) (l++[UInt8.ofNat 2]) t.str w1 (q9 S1).ob (q9 S1).ge (by simp;omega) (by omega) _ (fun e w' h=>h))
 unfold tmV
 have e0:(t.op:Int)=2:=by omega
 rw [e0] at a0 hap1 ⊢
 clear hE ho h hl hr ht hnl hn hb e0 S0
 go_enter Tryz.func63,Tryz.ntmps63
 go_wp2_with (go_at_call 96;refine (q9 WN).mono ?_;rintro e w2 ⟨v2,rfl,ho2,hb2⟩;have HO2:=v7 ho2;have HB2:=v7 hb2;clear ho2 hb2)
 exact q9 HQ _ _ ⟨_,rfl,by have:=q9 HO2;rw [List.append_assoc] at this;exact this,(q9 S1).bel.trans (q9 HB2)⟩
theorem write_c (base:Nat) (v:Value) (l:List UInt8) (t:Tm) (W:World) (h:OB W base v l) (hb:base≤W.heap.size) (hn:l.length≤800000) (ht:SmallT t) (hop:t.op=3∨t.op=4) (Q:Ending→World→Prop) (hQ:∀e w',qs5 base W (l++encT t) e w'→Q e w') :
  Calls Tryz.prog 63 #[tmV t,v] W Q:=by
 have hE:encT t=[UInt8.ofNat t.op]:=by rcases hop with ho|ho<;>simp [encT,ho,qf7]
 have HQ:=v7 hQ
 rw [hE] at HQ
 clear hQ
 have S0:=v7 (WSt.start h hb t 142)
 obtain ⟨a,c,rfl⟩:=h.form
 have hl:=ht.left
 have hr:=ht.right
 have hl0:(0:Int)≤(t.left:Int):=by omega
 have hl1:(t.left:Int)<256:=by omega
 have hr0:(0:Int)≤(t.right:Int):=by omega
 have hr1:(t.right:Int)<256:=by omega
 obtain ⟨n,hnl⟩:∃n,l.length=n:=⟨_,rfl⟩
 have HNL:=v7 hnl
 rw [hnl] at S0 hn ⊢
 obtain ⟨g1,cap1,w1,hap1,S1⟩:=(q9 S0).app (UInt8.ofNat t.op) (t.op:Int) (vr2 (by omega)) (by omega) n hnl (W.heap.size+1) (by simp)
 obtain ⟨tl1,a0,a1,a2,a3,a4,a5,af⟩:=(q9 S1).tm
 unfold tmV
 obtain ⟨z,hz⟩:∃z:Int,(t.op:Int)=z:=⟨_,rfl⟩
 rw [hz] at a0 hap1 ⊢
 have hzz:z=3∨z=4:=by omega
 clear hE hop h hl hr ht hnl hn hb hz S0
 rcases hzz with rfl|rfl
 all_goals
  go_enter Tryz.func63,Tryz.ntmps63
  go_wp2_with fail
  exact q9 HQ _ _ ⟨_,rfl,(q9 S1).ob,(q9 S1).bel⟩
theorem write_5 (base:Nat) (v:Value) (l:List UInt8) (t:Tm) (W:World) (h:OB W base v l) (hb:base≤W.heap.size) (hn:l.length≤800000) (ht:SmallT t) (ho:t.op=5) (Q:Ending→World→Prop) (hQ:∀e w',qs5 base W (l++encT t) e w'→Q e w') :
  Calls Tryz.prog 63 #[tmV t,v] W Q:=by
 have hE:encT t=[UInt8.ofNat 5,UInt8.ofNat t.left]:=by simp [encT,ho,qf7]
 have HQ:=v7 hQ
 rw [hE] at HQ
 clear hQ
 have S0:=v7 (WSt.start h hb t 142)
 obtain ⟨a,c,rfl⟩:=h.form
 have hl:=ht.left
 have hr:=ht.right
 have hl0:(0:Int)≤(t.left:Int):=by omega
 have hl1:(t.left:Int)<256:=by omega
 have hr0:(0:Int)≤(t.right:Int):=by omega
 have hr1:(t.right:Int)<256:=by omega
 obtain ⟨n,hnl⟩:∃n,l.length=n:=⟨_,rfl⟩
 have HNL:=v7 hnl
 rw [hnl] at S0 hn ⊢
 obtain ⟨g1,cap1,w1,hap1,S1⟩:=(q9 S0).app (UInt8.ofNat 5) 5 (by decide) (by omega) n hnl (W.heap.size+1) (by simp)
 obtain ⟨tl1,a0,a1,a2,a3,a4,a5,af⟩:=(q9 S1).tm
 obtain ⟨g2,cap2,w2,hap2,S2⟩:=(q9 S1).app (UInt8.ofNat t.left) (t.left:Int) (vr2 hl) (by simp;omega) (n+1) (by simp [hnl]) _ rfl
 unfold tmV
 have e0:(t.op:Int)=5:=by omega
 rw [e0] at a0 hap1 ⊢
 clear hE ho h hl hr ht hnl hn hb e0 S0
 go_enter Tryz.func63,Tryz.ntmps63
 go_wp2_with fail
 exact q9 HQ _ _ ⟨_,rfl,by have:=(q9 S2).ob;rw [List.append_assoc] at this;exact this,(q9 S2).bel⟩
theorem qu0 (base:Nat) (v:Value) (l:List UInt8) (t:Tm) (W:World) (h:OB W base v l) (hb:base≤W.heap.size) (hn:l.length≤800000) (ht:SmallT t) (hop:t.op=6∨t.op=7∨t.op=8∨t.op=10∨t.op=11∨t.op=16∨t.op=17∨t.op=18∨t.op=19) (Q:Ending→World→Prop) (hQ:∀e w',qs5 base W (l++encT t) e w'→Q e w') :
  Calls Tryz.prog 63 #[tmV t,v] W Q:=by
 have hE:encT t=[UInt8.ofNat t.op,UInt8.ofNat t.right,UInt8.ofNat t.left]:=by rcases hop with ho|ho|ho|ho|ho|ho|ho|ho|ho<;>simp [encT,ho,qf7]
 have HQ:=v7 hQ
 rw [hE] at HQ
 clear hQ
 have S0:=v7 (WSt.start h hb t 142)
 obtain ⟨a,c,rfl⟩:=h.form
 have hl:=ht.left
 have hr:=ht.right
 have hl0:(0:Int)≤(t.left:Int):=by omega
 have hl1:(t.left:Int)<256:=by omega
 have hr0:(0:Int)≤(t.right:Int):=by omega
 have hr1:(t.right:Int)<256:=by omega
 obtain ⟨n,hnl⟩:∃n,l.length=n:=⟨_,rfl⟩
 have HNL:=v7 hnl
 rw [hnl] at S0 hn ⊢
 obtain ⟨g1,cap1,w1,hap1,S1⟩:=(q9 S0).app (UInt8.ofNat t.op) (t.op:Int) (vr2 (by omega)) (by omega) n hnl (W.heap.size+1) (by simp)
 obtain ⟨tl1,a0,a1,a2,a3,a4,a5,af⟩:=(q9 S1).tm
 obtain ⟨g2,cap2,w2,hap2,S2⟩:=(q9 S1).app (UInt8.ofNat t.right) (t.right:Int) (vr2 hr) (by simp;omega) (n+1) (by simp [hnl]) _ rfl
 obtain ⟨tl2,b0,b1,b2,b3,b4,b5,bf⟩:=(q9 S2).tm
 obtain ⟨g3,cap3,w3,hap3,S3⟩:=(q9 S2).app (UInt8.ofNat t.left) (t.left:Int) (vr2 hl) (by simp;omega) (n+1+1) (by simp [hnl]) _ rfl
 unfold tmV
 obtain ⟨z,hz⟩:∃z:Int,(t.op:Int)=z:=⟨_,rfl⟩
 rw [hz] at a0 hap1 b0 ⊢
 have hzz:z=6∨z=7∨z=8∨z=10∨z=11∨z=16∨z=17∨z=18∨z=19:=by omega
 clear hE hop h hl hr ht hnl hn hb hz S0
 rcases hzz with rfl|rfl|rfl|rfl|rfl|rfl|rfl|rfl|rfl
 all_goals
  go_enter Tryz.func63,Tryz.ntmps63
  go_wp2_with fail
  exact q9 HQ _ _ ⟨_,rfl,by have:=(q9 S3).ob;rw [List.append_assoc,List.append_assoc] at this;exact this,(q9 S3).bel⟩
theorem write_23 (base:Nat) (v:Value) (l:List UInt8) (t:Tm) (W:World) (h:OB W base v l) (hb:base≤W.heap.size) (hn:l.length≤800000) (ht:SmallT t) (ho:t.op=23) (Q:Ending→World→Prop) (hQ:∀e w',qs5 base W (l++encT t) e w'→Q e w') :
  Calls Tryz.prog 63 #[tmV t,v] W Q:=by
 have hE:encT t=[UInt8.ofNat 23,UInt8.ofNat t.left]:=by simp [encT,ho,qf7]
 have HQ:=v7 hQ
 rw [hE] at HQ
 clear hQ
 have S0:=v7 (WSt.start h hb t 142)
 obtain ⟨a,c,rfl⟩:=h.form
 have hl:=ht.left
 have hr:=ht.right
 have hl0:(0:Int)≤(t.left:Int):=by omega
 have hl1:(t.left:Int)<256:=by omega
 have hr0:(0:Int)≤(t.right:Int):=by omega
 have hr1:(t.right:Int)<256:=by omega
 obtain ⟨n,hnl⟩:∃n,l.length=n:=⟨_,rfl⟩
 have HNL:=v7 hnl
 rw [hnl] at S0 hn ⊢
 obtain ⟨g1,cap1,w1,hap1,S1⟩:=(q9 S0).app (UInt8.ofNat 23) 23 (by decide) (by omega) n hnl (W.heap.size+1) (by simp)
 obtain ⟨tl1,a0,a1,a2,a3,a4,a5,af⟩:=(q9 S1).tm
 obtain ⟨g2,cap2,w2,hap2,S2⟩:=(q9 S1).app (UInt8.ofNat t.left) (t.left:Int) (vr2 hl) (by simp;omega) (n+1) (by simp [hnl]) _ rfl
 unfold tmV
 have e0:(t.op:Int)=23:=by omega
 rw [e0] at a0 hap1 ⊢
 clear hE ho h hl hr ht hnl hn hb e0 S0
 go_enter Tryz.func63,Tryz.ntmps63
 go_wp2_with fail
 exact q9 HQ _ _ ⟨_,rfl,by have:=(q9 S2).ob;rw [List.append_assoc] at this;exact this,(q9 S2).bel⟩
end
section
attribute [local go_sem ↓] qc3
theorem PsAt.new {w:World} {v:Value} {l:List UInt8} (h:BytesAt w w.heap.size v l) (ty:TypeId):PsAt (w.alloc (.cells #[v,.bool false] ty)) w.heap.size ⟨l,false⟩:=by
 obtain ⟨a,c,rfl,hc,hx⟩:=h
 refine ⟨by simp,⟨.slice a l.length c,by simp [go_sem],a,c,rfl,hc,fun i x hi=>?_⟩,by simp [go_sem],fun j=>by simp [go_sem]⟩
 obtain ⟨b,o,ha,hb,hcell⟩:=hx i x hi
 exact ⟨b,o,ha,hb,((((Below.refl w.heap.size w).alloc (Nat.le_refl _) _).cell (p:=⟨b,o+i,none⟩) hb)).trans hcell⟩
theorem RdL.start {w w2:World} {rb:Nat} {s:Ps} (hp:PsAt w2 rb s) (hr:w.heap.size≤rb) (hb:Below w.heap.size w w2) (ty:TypeId):RdL w (w2.alloc (.cells #[.slice none 0 0,.slice none 0 0] ty)) rb w2.heap.size s [] (.slice none 0 0) [] (.slice none 0 0):=by
 refine ⟨hp.alloc _,by simp [go_sem],by simp [go_sem],fun j=>by simp [go_sem],hp.lt,by simp,TsAt.nil _ _,IsAt.nil _ _,fun g hg=>by simp [Value.ownBlock] at hg,hr,hb.alloc hb.size _⟩
def vu7 (w:World) (r:List Tm×List Nat×Bool) (e:Ending) (w':World):Prop:=
 ∃pb,e=.returned (.tuple #[.pointer (some ⟨pb,0,none⟩),.bool r.2.2])∧ProgAt w' pb 0 r.1 r.2.1∧Below w.heap.size w w'
theorem pread_ok (code:List UInt8) (hT:∀k,k<(vc7 code).1→vr4 (qd0 (qz7 code).2 k).2 k) (cv:Value) (w:World) (h:BytesAt w w.heap.size cv code) :
  Calls Tryz.prog 41 #[cv] w (vu7 w (qt7 code)):=by
 obtain ⟨i0,hi,hz0,hz1,hz2⟩:=info_parts vj8
 obtain ⟨i1,hj,hy0,hy1,hy2⟩:=info_parts qu2
 have HP:Hid (∀ty,PsAt (w.alloc (.cells #[cv,.bool false] ty)) w.heap.size ⟨code,false⟩):=v7 fun ty=>PsAt.new h ty
 obtain ⟨a,c,rfl,hc,hx⟩:=h
 clear hx hc
 obtain ⟨HH,eH⟩:∃x,Ps.upTo ⟨code,false⟩ 80=x:=⟨_,rfl⟩
 have T1:=v7 (fun w1 h1=>qn8 w.heap.size ⟨code,false⟩ 80 w1 h1)
 have hN:=Ps.upTo_le ⟨code,false⟩ 80
 rw [eH] at T1 hN
 obtain ⟨N,s1⟩:=HH
 obtain ⟨II,eI⟩:∃x,Ps.upTo s1 8=x:=⟨_,rfl⟩
 have T2:=v7 (fun w1 h1=>qn8 w.heap.size s1 8 w1 h1)
 have hM:=Ps.upTo_le s1 8
 rw [eI] at T2 hM
 obtain ⟨M,s2⟩:=II
 have ER:Hid (qt7 code=((qd0 s2 N).1,(qg2 ((N:Int) - 1) (qd0 s2 N).2 M).1,!(qg2 ((N:Int) - 1) (qd0 s2 N).2 M).2.bad&&((qg2 ((N:Int) - 1) (qd0 s2 N).2 M).2.rest.length==0))):=v7 (by
  have e1:vc7 code=(N,s1):=eH
  have e2:qz7 code=(M,s2):=by rw [qz7,e1];exact eI
  have e3:za0 code=qd0 s2 N:=by rw [za0,e1,e2]
  have e4:jd5 code=qg2 ((N:Int) - 1) (qd0 s2 N).2 M:=by rw [jd5,e1,e2,e3]
  rw [qt7,e3,e4])
 have HT:Hid (∀k,k<N→vr4 (qd0 s2 k).2 k):=v7 (by
  have e1:vc7 code=(N,s1):=eH
  have e2:qz7 code=(M,s2):=by rw [qz7,e1];exact eI
  rw [e1,e2] at hT
  exact hT)
 generalize qt7 code=RR at ER ⊢
 clear hT
 clear eH eI
 simp only at T1 T2 hN hM
 go_enter Tryz.func41,Tryz.ntmps41
 go_wp2_with (first|(go_at_call 67;refine (q9 T2 _ (q9 hp1)).mono ?_;rintro e w2 ⟨rfl,hp2,hk2⟩;have K2:Hid (Below w.heap.size w w2):=v7 (ve5 (q9 K1) hk2 (Nat.le_refl _));have R0:Hid (∀ty,RdL w (w2.alloc (.cells #[.slice none 0 0,.slice none 0 0] ty)) w.heap.size w2.heap.size s2 [] (.slice none 0 0) [] (.slice none 0 0)):=v7 (fun ty=>RdL.start hp2 (Nat.le_refl _) (q9 K2) ty);clear hk2 hp2)|(go_at_call 67;refine (q9 T1 _ (q9 HP _)).mono ?_;rintro e w1 ⟨rfl,hp1,hk1⟩;have hp1:=v7 hp1;have K1:Hid (Below w.heap.size w w1):=v7 (ve5 ((Below.refl _ _).alloc (Nat.le_refl _) _) hk1 (Nat.le_refl _));clear hk1))
 go_loopw [16] (fun i wr=>∃(k:Nat) (tv:Value),k≤N∧i=.int .i64 k∧Hid (RdL w wr w.heap.size w2.heap.size (qd0 s2 k).2 (qd0 s2 k).1 tv [] (.slice none 0 0))) (fun i _=>N - (intOf i).toNat)
 case atStart=>exact ⟨0,_,Nat.zero_le _,rfl,q9 R0 _⟩
 case round=>
  obtain ⟨k,tv,hk,rfl,HL⟩:=hrel
  by_cases hlt:k<N
  ·have hS:Hid (qd0 s2 (k+1)=((qd0 s2 k).1++[((qd0 s2 k).2.term k).1],((qd0 s2 k).2.term k).2)):=v7 rfl
   have hL:(qd0 s2 k).1.length=k:=qw2 _ _
   obtain ⟨X,hX⟩:∃x,qd0 s2 k=x:=⟨_,rfl⟩
   have hTk:=q9 HT k hlt
   rw [hX] at HL hS hL hTk
   obtain ⟨ts,s3⟩:=X
   obtain ⟨t,ht⟩:∃t,s3.term k=t:=⟨_,rfl⟩
   simp only at HL hS hL
   rw [ht] at hS
   have TM:Hid (∀w1,PsAt w1 w.heap.size s3→Calls Tryz.prog 68 #[.pointer (some ⟨w.heap.size,0,none⟩),.int .i64 k] w1 (qi4 w.heap.size w1 t)):=v7 (fun w1 h1=>ht ▸ hTk _ w1 h1)
   clear ht hX hTk
   obtain ⟨t,s4⟩:=t
   have c0:=(q9 HL).c0
   have fz:=(q9 HL).fz
   have lt0:=(q9 HL).lt
   go_wp2_with fail
   go_region_with (go_at_call 68;refine (q9 TM _ (q9 HL).ps.drew).mono ?_;rintro e w4 ⟨rfl,hp4,hk4⟩;have HL4:=v7 ((q9 HL).kept hk4.drew' hp4);have c4:=(q9 HL4).c0;have f4:=(q9 HL4).fz;have lt4:=(q9 HL4).lt;clear hk4 hp4;obtain ⟨g,cap,w5,hap,c5,f5,lt5,HL5⟩:=(q9 HL4).appT t (by omega) 63;rw [hL] at hap HL5;simp only [tmV])
   all_goals go_wp2_with fail
   all_goals exact ⟨⟨k+1,_,by omega,rfl,v7 (by rw [q9 hS];exact q9 HL5)⟩,by simp [intOf];omega⟩
  ·have:k=N:=by omega
   subst this
   obtain ⟨X,hX⟩:∃x,qd0 s2 k=x:=⟨_,rfl⟩
   rw [hX] at HL ER
   obtain ⟨ts,s3⟩:=X
   simp only at HL ER
   clear hX
   go_wp2_with fail
   go_loopw [32] (fun i wr=>∃(j:Nat) (rv:Value),j≤M∧i=.int .i64 j∧Hid (RdL w wr w.heap.size w2.heap.size (qg2 ((k:Int) - 1) s3 j).2 ts tv (qg2 ((k:Int) - 1) s3 j).1 rv)) (fun i _=>M - (intOf i).toNat)
   case atStart=>exact ⟨0,_,Nat.zero_le _,rfl,HL⟩
   case round=>
    obtain ⟨j,rv,hj',rfl,HR⟩:=hrel
    by_cases hlt2:j<M
    ·have hS:Hid (qg2 ((k:Int) - 1) s3 (j+1)=((qg2 ((k:Int) - 1) s3 j).1++[((qg2 ((k:Int) - 1) s3 j).2.upTo ((k:Int) - 1)).1],((qg2 ((k:Int) - 1) s3 j).2.upTo ((k:Int) - 1)).2)):=v7 rfl
     have hL:(qg2 ((k:Int) - 1) s3 j).1.length=j:=vc8 _ _ _
     obtain ⟨X,hX⟩:∃x,qg2 ((k:Int) - 1) s3 j=x:=⟨_,rfl⟩
     rw [hX] at HR hS hL
     obtain ⟨rs,s4⟩:=X
     simp only at HR hS hL
     obtain ⟨Y,hY⟩:∃x,s4.upTo ((k:Int) - 1)=x:=⟨_,rfl⟩
     have TU:=v7 (fun w1 h1=>qn8 w.heap.size s4 ((k:Int) - 1) w1 h1)
     rw [hY] at hS TU
     obtain ⟨r,s5⟩:=Y
     simp only at hS TU
     clear hX hY
     have hwr:IntKind.i64.wrap ((k:Int) - 1)=(k:Int) - 1:=by rw [IntKind.wrap_i64];omega
     have c1:=(q9 HR).c1
     have fz:=(q9 HR).fz
     have lt0:=(q9 HR).lt
     go_wp2_with fail
     go_region_with (go_at_call 67;refine (q9 TU _ (q9 HR).ps.drew).mono ?_;rintro e w4 ⟨rfl,hp4,hk4⟩;have HR4:=v7 ((q9 HR).kept hk4.drew' hp4);have c4:=(q9 HR4).c1;have f4:=(q9 HR4).fz;have lt4:=(q9 HR4).lt;clear hk4 hp4;obtain ⟨g,cap,w5,hap,c5,f5,lt5,HR5⟩:=(q9 HR4).appR r (by omega) 29;rw [hL] at hap HR5)
     all_goals go_wp2_with fail
     all_goals exact ⟨⟨j+1,_,by omega,rfl,v7 (by rw [q9 hS];exact q9 HR5)⟩,by simp [intOf];omega⟩
    ·have:j=M:=by omega
     subst this
     obtain ⟨X,hX⟩:∃x,qg2 ((k:Int) - 1) s3 j=x:=⟨_,rfl⟩
     rw [hX] at HR ER
     obtain ⟨rs,s4⟩:=X
     simp only at HR ER
     clear hX
     obtain ⟨v0,p0,hv0⟩:=(q9 HR).ps.c0
     have p1:=(q9 HR).ps.c1
     obtain ⟨a',c',rfl,hc',_⟩:=hv0
     have HP':=v7 (q9 HR).prog
     have HB':=v7 (q9 HR).bel
     clear HR HL HP T1 T2 R0 K1 K2
     cases hb:s4.bad with
     | true=>
      rw [hb] at p1 ER
      go_wp2_with fail
      go_region
      all_goals go_wp2_with fail
      all_goals go_ret2
      all_goals exact ⟨_,by rw [q9 ER];rfl,by rw [q9 ER];exact (q9 HP').below (Below.refl _ _).drew,(q9 HB').drew⟩
     | false=>
      rw [hb] at p1 ER
      by_cases hz:s4.rest.length=0
      ·rw [hz] at p0 ER
       go_wp2_with fail
       go_region
       all_goals go_wp2_with fail
       all_goals go_ret2
       all_goals exact ⟨_,by rw [q9 ER];rfl,by rw [q9 ER];exact (q9 HP').below (Below.refl _ _).drew,(q9 HB').drew⟩
      ·have hz':((s4.rest.length:Int)==0)=false:=beq_eq_false_iff_ne.2 (by omega)
       have hz'':(s4.rest.length==0)=false:=beq_eq_false_iff_ne.2 hz
       rw [hz''] at ER
       go_wp2_with fail
       go_region
       all_goals go_wp2_with fail
       all_goals go_ret2
       all_goals exact ⟨_,by rw [q9 ER];rfl,by rw [q9 ER];exact (q9 HP').below (Below.refl _ _).drew,(q9 HB').drew⟩
end
end Go.Proofs.YtfkcaldjphakpabGreatDoor
