/- Read. among. The escapes and the texts of what is read are short. The words, numbers and patterns of what is read are as a text has them. Quoted texts and patterns, as lists of bytes. Cores: terms of the one form, their texts, and how they lie in memory. The document's answer: numbers and texts as canonical texts have them. -/
import Derived.Test.YtfkcaldjphakpaaGreatDoorM09
import Derived.Test.YtfkcaldjphakpaaGreatDoorM08
import Derived.Deep.RegionWith
import Derived.Test.YtfkcaldjphakpaaGreatDoorM01
import Derived.Lib.AppendIntMem
import Derived.Lib.ItoaNum
import Derived.Lib.SlicesCompact
import Derived.Test.YtfkcaldjphakpaaGreatDoorM10
import Derived.Lib.ItoaLen
set_option maxHeartbeats 8000000
set_option maxRecDepth 100000
namespace Go.Proofs.YtfkcaldjphakpaaGreatDoor
open Go.RowKit
section
theorem ErrOk.set {w:World} (h:ErrOk w) {p:Addr} (hp:3<p.block) (u:Value):ErrOk (w.setCell p u):=by
 obtain ⟨h1,ev,h2,h3⟩:=h
 refine ⟨by rw [size_setCell];exact h1,ev, ?_,h3⟩
 rw [World.cell?_of_block (w:=w) (w':=w.setCell p u) (Below.heap_setCell w p u _ (by show 3≠p.block;omega))];exact h2
theorem read_any (s:ByteArray) (w:World) (hE:ErrOk w) (hsz:s.size≤140737488355328) :
  Calls Tryz.prog 36 #[.string s] w (jd1 w (qn2 s)):=by
 have hmf:∀(fn:Fn) (first cap:Array Value) (w:World),(Instr.makeFunc fn first cap).run Tryz.prog w=.ok (.func fn first cap) w:=fun _ _ _ _=>rfl
 by_cases hs:s.size≤200
 ·rw [qn2,if_pos hs]
  have hs1:s.size≤140737488355328:=hsz
  have hb:decide ((200:Int)<(s.size:Int))=false:=decide_eq_false (by omega)
  have RDY:=j4 (vy0 w s hE hs)
  have BC:=j4 (vx9 w s)
  have BB:=j4 (vx8 w s)
  have BZ:=qj1 w s
  have EI:=j4 (lvl_reads (w.heap.size+3) s hs 12 0 rfl).E
  have HF1:=j4 (qa7 s st0 (Nat.zero_le _))
  have GOOD:=j4 (lvl_good s 12).E
  have ERR2:Hid (∀w2 u,Kept (w.heap.size+3) (qt7 w s) w2→ErrOk (w2.setCell ⟨w.heap.size,0,none⟩ u)):=j4 fun w2 u hk=>((vr4 w s hE).kept hk (by have:=hE.1;omega)).set hE.1 u
  clear hE hsz
  cases hres:(lvl s 12).E (j3 s st0) with
  | err en pl=>
   have HRES:=j4 hres
   clear hres
   go_enter_defers Tryz.func36,Tryz.ntmps36
   go_wp2_with (first|(go_at_call 54;refine (qd6 (w.heap.size+3) s st0 (qt7 w s) hs1 (Nat.zero_le _) (q9 RDY).at' (q9 RDY).lt (q9 RDY).err).mono ?_;rintro e w1 ⟨rfl,hr1,hk1⟩;have hz1:=hk1.size;rw [qj1] at hz1;obtain ⟨kc,kf⟩:=qc2 hk1;rw [qj1] at kc kf;have a0:w1.cell? ⟨w.heap.size,0,none⟩=some (.pointer none):=(kc _ 0 (by omega) (by omega)).trans (q9 BC).1;have a1:w1.cell? ⟨w.heap.size+1,0,none⟩=some (.int .i64 0):=(kc _ 0 (by omega) (by omega)).trans (q9 BC).2.1;have a2:w1.cell? ⟨w.heap.size+2,0,none⟩=some (.int .i64 0):=(kc _ 0 (by omega) (by omega)).trans (q9 BC).2.2.1;have b0:w1.frozen? ⟨w.heap.size,0,none⟩=false:=(kf _ 0 (by omega) (by omega)).trans (q9 BC).2.2.2.1;have b1:w1.frozen? ⟨w.heap.size+1,0,none⟩=false:=(kf _ 0 (by omega) (by omega)).trans (q9 BC).2.2.2.2.1;have b2:w1.frozen? ⟨w.heap.size+2,0,none⟩=false:=(kf _ 0 (by omega) (by omega)).trans (q9 BC).2.2.2.2.2;have hR1:=j4 ((q9 RDY).kept hk1 hr1 (q9 HF1));have hK1:=j4 hk1;clear hr1 hk1 kc kf)|(go_at_call 55;refine (q9 EI w1 (j3 s st0) (q9 hR1) rfl).mono ?_;rintro e w2 ⟨hk2,h2⟩;rw [q9 HRES] at h2;subst h2;have hz2:=hk2.size;obtain ⟨kc,kf⟩:=qc2 hk2;have c0:w2.cell? ⟨w.heap.size,0,none⟩=some (.pointer none):=(kc _ 0 (by omega) (by omega)).trans a0;have c1:w2.cell? ⟨w.heap.size+1,0,none⟩=some (.int .i64 0):=(kc _ 0 (by omega) (by omega)).trans a1;have c2:w2.cell? ⟨w.heap.size+2,0,none⟩=some (.int .i64 0):=(kc _ 0 (by omega) (by omega)).trans a2;have d0:w2.frozen? ⟨w.heap.size,0,none⟩=false:=(kf _ 0 (by omega) (by omega)).trans b0;have d1:w2.frozen? ⟨w.heap.size+1,0,none⟩=false:=(kf _ 0 (by omega) (by omega)).trans b1;have d2:w2.frozen? ⟨w.heap.size+2,0,none⟩=false:=(kf _ 0 (by omega) (by omega)).trans b2;have hK2:=j4 ((q9 hK1).trans hk2);clear hk2 kc kf a0 a1 a2 b0 b1 b2;simp only [qb4]))
   refine leaves_cons (f:=53) (args:=#[.pointer (some ⟨w.heap.size,0,none⟩),.pointer (some ⟨w.heap.size+1,0,none⟩),.pointer (some ⟨w.heap.size+2,0,none⟩)]) (by simp) (by simp [go_sem]) ?_
   refine (qq2 w.heap.size (.pointer none) (.int .i64 0) (.int .i64 0) _ _ [] w2 (by omega) c0 c1 c2 d0 d1 d2).mono ?_
   rintro e u' w9 ⟨rfl,rfl,k0,k1,k2,hb9⟩
   have HB:=j4 (((q9 hK2).below (q9 BB) (by omega) (by omega)).trans hb9)
   simp [Leaves,settle,results,Tryz.results36,go_sem,k0,k1,k2]
   exact ⟨q9 HB,rfl⟩
  | ok t st2=>
   have CHK:=j4 (check_any (w.heap.size+3) t (q9 GOOD _ _ _ hres))
   have HRES:=j4 hres
   clear hres
   show Calls Tryz.prog _ _ _ (jd1 w (vx2 t st2))
   unfold vx2
   by_cases hk:st2.tk.kind=0
   ·rw [if_pos hk]
    have HK:=j4 hk
    clear hk
    cases hch:chkR (qa4 t) with
    | none=>
     have HCH:=j4 hch
     clear hch
     go_enter_defers Tryz.func36,Tryz.ntmps36
     go_wp2_with (first|(go_at_call 54;refine (qd6 (w.heap.size+3) s st0 (qt7 w s) hs1 (Nat.zero_le _) (q9 RDY).at' (q9 RDY).lt (q9 RDY).err).mono ?_;rintro e w1 ⟨rfl,hr1,hk1⟩;have hz1:=hk1.size;rw [qj1] at hz1;obtain ⟨kc,kf⟩:=qc2 hk1;rw [qj1] at kc kf;have a0:w1.cell? ⟨w.heap.size,0,none⟩=some (.pointer none):=(kc _ 0 (by omega) (by omega)).trans (q9 BC).1;have a1:w1.cell? ⟨w.heap.size+1,0,none⟩=some (.int .i64 0):=(kc _ 0 (by omega) (by omega)).trans (q9 BC).2.1;have a2:w1.cell? ⟨w.heap.size+2,0,none⟩=some (.int .i64 0):=(kc _ 0 (by omega) (by omega)).trans (q9 BC).2.2.1;have b0:w1.frozen? ⟨w.heap.size,0,none⟩=false:=(kf _ 0 (by omega) (by omega)).trans (q9 BC).2.2.2.1;have b1:w1.frozen? ⟨w.heap.size+1,0,none⟩=false:=(kf _ 0 (by omega) (by omega)).trans (q9 BC).2.2.2.2.1;have b2:w1.frozen? ⟨w.heap.size+2,0,none⟩=false:=(kf _ 0 (by omega) (by omega)).trans (q9 BC).2.2.2.2.2;have hR1:=j4 ((q9 RDY).kept hk1 hr1 (q9 HF1));have hK1:=j4 hk1;clear hr1 hk1 kc kf)|(go_at_call 55;refine (q9 EI w1 (j3 s st0) (q9 hR1) rfl).mono ?_;rintro e w2 ⟨hk2,h2⟩;rw [q9 HRES] at h2;obtain ⟨v2,rfl,hn2,hr2,hf2,ho2,hp2⟩:=h2;obtain ⟨vb,rfl⟩:=hn2.ptr;have hn2:=j4 hn2;have hr2:=j4 hr2;have hf2:=j4 hf2;have hz2:=hk2.size;obtain ⟨kc,kf⟩:=qc2 hk2;have c0:w2.cell? ⟨w.heap.size,0,none⟩=some (.pointer none):=(kc _ 0 (by omega) (by omega)).trans a0;have c1:w2.cell? ⟨w.heap.size+1,0,none⟩=some (.int .i64 0):=(kc _ 0 (by omega) (by omega)).trans a1;have c2:w2.cell? ⟨w.heap.size+2,0,none⟩=some (.int .i64 0):=(kc _ 0 (by omega) (by omega)).trans a2;have d0:w2.frozen? ⟨w.heap.size,0,none⟩=false:=(kf _ 0 (by omega) (by omega)).trans b0;have d1:w2.frozen? ⟨w.heap.size+1,0,none⟩=false:=(kf _ 0 (by omega) (by omega)).trans b1;have d2:w2.frozen? ⟨w.heap.size+2,0,none⟩=false:=(kf _ 0 (by omega) (by omega)).trans b2;have hK2:=j4 ((q9 hK1).trans hk2);clear hk2 kc kf a0 a1 a2 b0 b1 b2)|(go_at_call 56;refine (qd1 (w.heap.size+3) s st2 0 (w2.setCell ⟨w.heap.size,0,none⟩ (.pointer (some ⟨vb,0,none⟩))) hs1 (q9 hf2).after ((q9 hr2).setOther (by show ¬w.heap.size=w.heap.size+3;omega) _) (by rw [size_setCell];omega) (q9 ERR2 _ _ (q9 hK2)) (q9 HK)).mono ?_;rintro e w3 ⟨rfl,hr3,hk3⟩;clear hr3;have hz3:w2.heap.size≤w3.heap.size:=(by have:=hk3.size;rw [size_setCell] at this;exact this);obtain ⟨kc,kf⟩:=qc2 hk3;rw [size_setCell] at kc kf;have g0:w3.cell? ⟨w.heap.size,0,none⟩=some (.pointer (some ⟨vb,0,none⟩)):=(kc _ 0 (by omega) (by omega)).trans (by simp [go_sem,c0]);have g1:w3.cell? ⟨w.heap.size+1,0,none⟩=some (.int .i64 0):=(kc _ 0 (by omega) (by omega)).trans (by simp [go_sem,c1]);have g2:w3.cell? ⟨w.heap.size+2,0,none⟩=some (.int .i64 0):=(kc _ 0 (by omega) (by omega)).trans (by simp [go_sem,c2]);have i0:w3.frozen? ⟨w.heap.size,0,none⟩=false:=(kf _ 0 (by omega) (by omega)).trans (by simp [go_sem,d0]);have i1:w3.frozen? ⟨w.heap.size+1,0,none⟩=false:=(kf _ 0 (by omega) (by omega)).trans (by simp [go_sem,d1]);have i2:w3.frozen? ⟨w.heap.size+2,0,none⟩=false:=(kf _ 0 (by omega) (by omega)).trans (by simp [go_sem,d2]);have hK3:=j4 hk3;clear hk3 kc kf c0 c1 c2 d0 d1 d2;simp only [tkV])|(go_at_call 57;refine (q9 CHK w3 (.pointer (some ⟨vb,0,none⟩)) ((q9 hn2).above (((Above.mk (Nat.le_refl _) (fun _ _ _=>rfl)).setCell (p:=⟨w.heap.size,0,none⟩) (by show w.heap.size≤w.heap.size+3;omega) (.pointer (some ⟨vb,0,none⟩))).trans (q9 hK3).above))).mono ?_;rintro e w4 ⟨hb4,h4⟩;rw [q9 HCH] at h4;subst h4;have hz4:=hb4.size;obtain ⟨bc,bf⟩:=qa9 hb4;have j0:w4.cell? ⟨w.heap.size,0,none⟩=some (.pointer (some ⟨vb,0,none⟩)):=(bc _ 0 (by omega)).trans g0;have j1:w4.cell? ⟨w.heap.size+1,0,none⟩=some (.int .i64 0):=(bc _ 0 (by omega)).trans g1;have j2:w4.cell? ⟨w.heap.size+2,0,none⟩=some (.int .i64 0):=(bc _ 0 (by omega)).trans g2;have l0:w4.frozen? ⟨w.heap.size,0,none⟩=false:=(bf _ 0 (by omega)).trans i0;have l1:w4.frozen? ⟨w.heap.size+1,0,none⟩=false:=(bf _ 0 (by omega)).trans i1;have l2:w4.frozen? ⟨w.heap.size+2,0,none⟩=false:=(bf _ 0 (by omega)).trans i2;have hb4:=j4 hb4;clear bc bf g0 g1 g2 i0 i1 i2))
     refine leaves_cons (f:=53) (args:=#[.pointer (some ⟨w.heap.size,0,none⟩),.pointer (some ⟨w.heap.size+1,0,none⟩),.pointer (some ⟨w.heap.size+2,0,none⟩)]) (by simp) (by simp [go_sem]) ?_
     refine (jg8 _ _ _ _).mono ?_
     rintro e u' w9 ⟨rfl,rfl,rfl⟩
     simp [Leaves,settle,results,Tryz.results36,go_sem,j0,j1,j2]
     have A2:Above (w.heap.size+3) w2 w4:=(((Above.mk (Nat.le_refl _) (fun _ _ _=>rfl)).setCell (p:=⟨w.heap.size,0,none⟩) (by show w.heap.size≤w.heap.size+3;omega) (.pointer (some ⟨vb,0,none⟩))).trans (q9 hK3).above).trans (Kept.of_below (q9 hb4)).above
     have B4:Below w.heap.size w w4:=((q9 hK3).below (((q9 hK2).below (q9 BB) (by omega) (by omega)).setCell (by show w.heap.size≤w.heap.size;omega) _) (by omega) (by rw [size_setCell];omega)).trans ((q9 hb4).mono (by omega))
     exact ⟨((B4.setCell (by show w.heap.size≤w.heap.size;omega) _).setCell (by show w.heap.size≤w.heap.size+1;omega) _).setCell (by show w.heap.size≤w.heap.size+1+1;omega) _,_,rfl,(q9 hn2).above (((A2.setCell (by show w.heap.size≤w.heap.size+3;omega) _).setCell (by show w.heap.size+1≤w.heap.size+3;omega) _).setCell (by show w.heap.size+1+1≤w.heap.size+3;omega) _)⟩
    | some q=>
     have HCH:=j4 hch
     clear hch
     go_enter_defers Tryz.func36,Tryz.ntmps36
     go_wp2_with (first|(go_at_call 54;refine (qd6 (w.heap.size+3) s st0 (qt7 w s) hs1 (Nat.zero_le _) (q9 RDY).at' (q9 RDY).lt (q9 RDY).err).mono ?_;rintro e w1 ⟨rfl,hr1,hk1⟩;have hz1:=hk1.size;rw [qj1] at hz1;obtain ⟨kc,kf⟩:=qc2 hk1;rw [qj1] at kc kf;have a0:w1.cell? ⟨w.heap.size,0,none⟩=some (.pointer none):=(kc _ 0 (by omega) (by omega)).trans (q9 BC).1;have a1:w1.cell? ⟨w.heap.size+1,0,none⟩=some (.int .i64 0):=(kc _ 0 (by omega) (by omega)).trans (q9 BC).2.1;have a2:w1.cell? ⟨w.heap.size+2,0,none⟩=some (.int .i64 0):=(kc _ 0 (by omega) (by omega)).trans (q9 BC).2.2.1;have b0:w1.frozen? ⟨w.heap.size,0,none⟩=false:=(kf _ 0 (by omega) (by omega)).trans (q9 BC).2.2.2.1;have b1:w1.frozen? ⟨w.heap.size+1,0,none⟩=false:=(kf _ 0 (by omega) (by omega)).trans (q9 BC).2.2.2.2.1;have b2:w1.frozen? ⟨w.heap.size+2,0,none⟩=false:=(kf _ 0 (by omega) (by omega)).trans (q9 BC).2.2.2.2.2;have hR1:=j4 ((q9 RDY).kept hk1 hr1 (q9 HF1));have hK1:=j4 hk1;clear hr1 hk1 kc kf)|(go_at_call 55;refine (q9 EI w1 (j3 s st0) (q9 hR1) rfl).mono ?_;rintro e w2 ⟨hk2,h2⟩;rw [q9 HRES] at h2;obtain ⟨v2,rfl,hn2,hr2,hf2,ho2,hp2⟩:=h2;obtain ⟨vb,rfl⟩:=hn2.ptr;have hn2:=j4 hn2;have hr2:=j4 hr2;have hf2:=j4 hf2;have hz2:=hk2.size;obtain ⟨kc,kf⟩:=qc2 hk2;have c0:w2.cell? ⟨w.heap.size,0,none⟩=some (.pointer none):=(kc _ 0 (by omega) (by omega)).trans a0;have c1:w2.cell? ⟨w.heap.size+1,0,none⟩=some (.int .i64 0):=(kc _ 0 (by omega) (by omega)).trans a1;have c2:w2.cell? ⟨w.heap.size+2,0,none⟩=some (.int .i64 0):=(kc _ 0 (by omega) (by omega)).trans a2;have d0:w2.frozen? ⟨w.heap.size,0,none⟩=false:=(kf _ 0 (by omega) (by omega)).trans b0;have d1:w2.frozen? ⟨w.heap.size+1,0,none⟩=false:=(kf _ 0 (by omega) (by omega)).trans b1;have d2:w2.frozen? ⟨w.heap.size+2,0,none⟩=false:=(kf _ 0 (by omega) (by omega)).trans b2;have hK2:=j4 ((q9 hK1).trans hk2);clear hk2 kc kf a0 a1 a2 b0 b1 b2)|(go_at_call 56;refine (qd1 (w.heap.size+3) s st2 0 (w2.setCell ⟨w.heap.size,0,none⟩ (.pointer (some ⟨vb,0,none⟩))) hs1 (q9 hf2).after ((q9 hr2).setOther (by show ¬w.heap.size=w.heap.size+3;omega) _) (by rw [size_setCell];omega) (q9 ERR2 _ _ (q9 hK2)) (q9 HK)).mono ?_;rintro e w3 ⟨rfl,hr3,hk3⟩;clear hr3;have hz3:w2.heap.size≤w3.heap.size:=(by have:=hk3.size;rw [size_setCell] at this;exact this);obtain ⟨kc,kf⟩:=qc2 hk3;rw [size_setCell] at kc kf;have g0:w3.cell? ⟨w.heap.size,0,none⟩=some (.pointer (some ⟨vb,0,none⟩)):=(kc _ 0 (by omega) (by omega)).trans (by simp [go_sem,c0]);have g1:w3.cell? ⟨w.heap.size+1,0,none⟩=some (.int .i64 0):=(kc _ 0 (by omega) (by omega)).trans (by simp [go_sem,c1]);have g2:w3.cell? ⟨w.heap.size+2,0,none⟩=some (.int .i64 0):=(kc _ 0 (by omega) (by omega)).trans (by simp [go_sem,c2]);have i0:w3.frozen? ⟨w.heap.size,0,none⟩=false:=(kf _ 0 (by omega) (by omega)).trans (by simp [go_sem,d0]);have i1:w3.frozen? ⟨w.heap.size+1,0,none⟩=false:=(kf _ 0 (by omega) (by omega)).trans (by simp [go_sem,d1]);have i2:w3.frozen? ⟨w.heap.size+2,0,none⟩=false:=(kf _ 0 (by omega) (by omega)).trans (by simp [go_sem,d2]);have hK3:=j4 hk3;clear hk3 kc kf c0 c1 c2 d0 d1 d2;simp only [tkV])|(go_at_call 57;refine (q9 CHK w3 (.pointer (some ⟨vb,0,none⟩)) ((q9 hn2).above (((Above.mk (Nat.le_refl _) (fun _ _ _=>rfl)).setCell (p:=⟨w.heap.size,0,none⟩) (by show w.heap.size≤w.heap.size+3;omega) (.pointer (some ⟨vb,0,none⟩))).trans (q9 hK3).above))).mono ?_;rintro e w4 ⟨hb4,h4⟩;rw [q9 HCH] at h4;subst h4;have hz4:=hb4.size;obtain ⟨bc,bf⟩:=qa9 hb4;have j0:w4.cell? ⟨w.heap.size,0,none⟩=some (.pointer (some ⟨vb,0,none⟩)):=(bc _ 0 (by omega)).trans g0;have j1:w4.cell? ⟨w.heap.size+1,0,none⟩=some (.int .i64 0):=(bc _ 0 (by omega)).trans g1;have j2:w4.cell? ⟨w.heap.size+2,0,none⟩=some (.int .i64 0):=(bc _ 0 (by omega)).trans g2;have l0:w4.frozen? ⟨w.heap.size,0,none⟩=false:=(bf _ 0 (by omega)).trans i0;have l1:w4.frozen? ⟨w.heap.size+1,0,none⟩=false:=(bf _ 0 (by omega)).trans i1;have l2:w4.frozen? ⟨w.heap.size+2,0,none⟩=false:=(bf _ 0 (by omega)).trans i2;have hb4:=j4 hb4;clear bc bf g0 g1 g2 i0 i1 i2;simp only [qb4]))
     refine leaves_cons (f:=53) (args:=#[.pointer (some ⟨w.heap.size,0,none⟩),.pointer (some ⟨w.heap.size+1,0,none⟩),.pointer (some ⟨w.heap.size+2,0,none⟩)]) (by simp) (by simp [go_sem]) ?_
     refine (qq2 w.heap.size (.pointer (some ⟨vb,0,none⟩)) (.int .i64 0) (.int .i64 0) _ _ [] w4 (by omega) j0 j1 j2 l0 l1 l2).mono ?_
     rintro e u' w9 ⟨rfl,rfl,k0,k1,k2,hb9⟩
     have HB:=j4 ((((q9 hK3).below (((q9 hK2).below (q9 BB) (by omega) (by omega)).setCell (by show w.heap.size≤w.heap.size;omega) _) (by omega) (by rw [size_setCell];omega)).trans ((q9 hb4).mono (by omega))).trans hb9)
     simp [Leaves,settle,results,Tryz.results36,go_sem,k0,k1,k2]
     exact ⟨q9 HB,rfl⟩
   ·rw [if_neg hk]
    have HK:=j4 hk
    clear hk
    go_enter_defers Tryz.func36,Tryz.ntmps36
    go_wp2_with (first|(go_at_call 54;refine (qd6 (w.heap.size+3) s st0 (qt7 w s) hs1 (Nat.zero_le _) (q9 RDY).at' (q9 RDY).lt (q9 RDY).err).mono ?_;rintro e w1 ⟨rfl,hr1,hk1⟩;have hz1:=hk1.size;rw [qj1] at hz1;obtain ⟨kc,kf⟩:=qc2 hk1;rw [qj1] at kc kf;have a0:w1.cell? ⟨w.heap.size,0,none⟩=some (.pointer none):=(kc _ 0 (by omega) (by omega)).trans (q9 BC).1;have a1:w1.cell? ⟨w.heap.size+1,0,none⟩=some (.int .i64 0):=(kc _ 0 (by omega) (by omega)).trans (q9 BC).2.1;have a2:w1.cell? ⟨w.heap.size+2,0,none⟩=some (.int .i64 0):=(kc _ 0 (by omega) (by omega)).trans (q9 BC).2.2.1;have b0:w1.frozen? ⟨w.heap.size,0,none⟩=false:=(kf _ 0 (by omega) (by omega)).trans (q9 BC).2.2.2.1;have b1:w1.frozen? ⟨w.heap.size+1,0,none⟩=false:=(kf _ 0 (by omega) (by omega)).trans (q9 BC).2.2.2.2.1;have b2:w1.frozen? ⟨w.heap.size+2,0,none⟩=false:=(kf _ 0 (by omega) (by omega)).trans (q9 BC).2.2.2.2.2;have hR1:=j4 ((q9 RDY).kept hk1 hr1 (q9 HF1));have hK1:=j4 hk1;clear hr1 hk1 kc kf)|(go_at_call 55;refine (q9 EI w1 (j3 s st0) (q9 hR1) rfl).mono ?_;rintro e w2 ⟨hk2,h2⟩;rw [q9 HRES] at h2;obtain ⟨v2,rfl,hn2,hr2,hf2,ho2,hp2⟩:=h2;obtain ⟨vb,rfl⟩:=hn2.ptr;have hn2:=j4 hn2;have hr2:=j4 hr2;have hf2:=j4 hf2;have hz2:=hk2.size;obtain ⟨kc,kf⟩:=qc2 hk2;have c0:w2.cell? ⟨w.heap.size,0,none⟩=some (.pointer none):=(kc _ 0 (by omega) (by omega)).trans a0;have c1:w2.cell? ⟨w.heap.size+1,0,none⟩=some (.int .i64 0):=(kc _ 0 (by omega) (by omega)).trans a1;have c2:w2.cell? ⟨w.heap.size+2,0,none⟩=some (.int .i64 0):=(kc _ 0 (by omega) (by omega)).trans a2;have d0:w2.frozen? ⟨w.heap.size,0,none⟩=false:=(kf _ 0 (by omega) (by omega)).trans b0;have d1:w2.frozen? ⟨w.heap.size+1,0,none⟩=false:=(kf _ 0 (by omega) (by omega)).trans b1;have d2:w2.frozen? ⟨w.heap.size+2,0,none⟩=false:=(kf _ 0 (by omega) (by omega)).trans b2;have hK2:=j4 ((q9 hK1).trans hk2);clear hk2 kc kf a0 a1 a2 b0 b1 b2)|(go_at_call 56;refine (qn4 (w.heap.size+3) s st2 0 (w2.setCell ⟨w.heap.size,0,none⟩ (.pointer (some ⟨vb,0,none⟩))) ((q9 hr2).setOther (by show ¬w.heap.size=w.heap.size+3;omega) _) (by rw [size_setCell];omega) (q9 HK)).mono ?_;rintro e w3 ⟨rfl,hk3⟩;have hz3:w2.heap.size≤w3.heap.size:=(by have:=hk3.size;rw [size_setCell] at this;exact this);obtain ⟨kc,kf⟩:=qc2 hk3;rw [size_setCell] at kc kf;have g0:w3.cell? ⟨w.heap.size,0,none⟩=some (.pointer (some ⟨vb,0,none⟩)):=(kc _ 0 (by omega) (by omega)).trans (by simp [go_sem,c0]);have g1:w3.cell? ⟨w.heap.size+1,0,none⟩=some (.int .i64 0):=(kc _ 0 (by omega) (by omega)).trans (by simp [go_sem,c1]);have g2:w3.cell? ⟨w.heap.size+2,0,none⟩=some (.int .i64 0):=(kc _ 0 (by omega) (by omega)).trans (by simp [go_sem,c2]);have i0:w3.frozen? ⟨w.heap.size,0,none⟩=false:=(kf _ 0 (by omega) (by omega)).trans (by simp [go_sem,d0]);have i1:w3.frozen? ⟨w.heap.size+1,0,none⟩=false:=(kf _ 0 (by omega) (by omega)).trans (by simp [go_sem,d1]);have i2:w3.frozen? ⟨w.heap.size+2,0,none⟩=false:=(kf _ 0 (by omega) (by omega)).trans (by simp [go_sem,d2]);have hK3:=j4 hk3;clear hk3 kc kf c0 c1 c2 d0 d1 d2;simp only [qb4]))
    refine leaves_cons (f:=53) (args:=#[.pointer (some ⟨w.heap.size,0,none⟩),.pointer (some ⟨w.heap.size+1,0,none⟩),.pointer (some ⟨w.heap.size+2,0,none⟩)]) (by simp) (by simp [go_sem]) ?_
    refine (qq2 w.heap.size (.pointer (some ⟨vb,0,none⟩)) (.int .i64 0) (.int .i64 0) _ _ [] w3 (by omega) g0 g1 g2 i0 i1 i2).mono ?_
    rintro e u' w9 ⟨rfl,rfl,k0,k1,k2,hb9⟩
    have HB:=j4 (((q9 hK3).below (((q9 hK2).below (q9 BB) (by omega) (by omega)).setCell (by show w.heap.size≤w.heap.size;omega) _) (by omega) (by rw [size_setCell];omega)).trans hb9)
    simp [Leaves,settle,results,Tryz.results36,go_sem,k0,k1,k2]
    exact ⟨q9 HB,rfl⟩
 ·rw [qn2,if_neg hs]
  have hb:decide ((200:Int)<(s.size:Int))=true:=decide_eq_true (by omega)
  clear hE hsz hs
  go_enter_defers Tryz.func36,Tryz.ntmps36
  go_wp2_with fail
  have q0:(((w.alloc (.cells #[.pointer none] 67)).alloc (.cells #[.int .i64 1] 41)).alloc (.cells #[.int .i64 0] 3)).cell? ⟨w.heap.size,0,none⟩=some (.pointer none):=by
   rw [World.cell?_alloc_past _ _ _ (by simp<;>omega),World.cell?_alloc_past _ _ _ (by simp),World.cell?_alloc_at _ _ _ _ rfl];rfl
  have q1:(((w.alloc (.cells #[.pointer none] 67)).alloc (.cells #[.int .i64 1] 41)).alloc (.cells #[.int .i64 0] 3)).cell? ⟨w.heap.size+1,0,none⟩=some (.int .i64 1):=by
   rw [World.cell?_alloc_past _ _ _ (by simp),World.cell?_alloc_at _ _ _ _ (by simp)];rfl
  have q2:(((w.alloc (.cells #[.pointer none] 67)).alloc (.cells #[.int .i64 1] 41)).alloc (.cells #[.int .i64 0] 3)).cell? ⟨w.heap.size+1+1,0,none⟩=some (.int .i64 0):=by
   rw [World.cell?_alloc_at _ _ _ _ (by simp)];rfl
  simp [bodyPostD,Leaves,results,Tryz.results36,go_sem,q0,q1,q2]
  exact ⟨below3 _ _ _ _,rfl⟩
end
section
theorem TextsAt.any {lo:Nat} {w:World} {v:Value} {ts:List (List UInt8)} (h:TextsAt lo w v ts):∃a c,v=.slice a ts.length c∧∀(j:Nat) (t:List UInt8),ts[j]?=some t→∃g,a=some ⟨g,0,none⟩∧g<w.heap.size∧w.cell? ⟨g,j,none⟩=some (.string (BS t)):=by
 rcases h with ⟨rfl,rfl⟩|⟨g,c,rfl,_,h2,h3⟩
 ·exact ⟨none,0,rfl,fun j t hj=>by simp at hj⟩
 ·exact ⟨_,c,rfl,fun j t hj=>⟨g,rfl,h2,h3 j t hj⟩⟩
end
section
def Bq (p:Pay):Prop:=p.esc.length≤1∧∀x∈p.texts,x.length≤200
def BqA:Ast→Prop
 | .leaf p=>Bq p
 | .un p x=>Bq p∧BqA x
 | .bin p x y=>Bq p∧BqA x∧BqA y
 | .tri p x y z=>Bq p∧BqA x∧BqA y∧BqA z
theorem bq0 (op pl num:Int):Bq ⟨op,pl,num,[],[],[]⟩:=⟨by simp,by simp⟩
theorem bq1 {op pl num:Int} {s:List UInt8}:Bq ⟨op,pl,num,s,[],[]⟩:=⟨by simp,by simp⟩
def QGood (f:St→Res):Prop:=∀st t st',vq9 st→f st=.ok t st'→BqA t∧vq9 st'
def vq8 (g:Ast→St→Res):Prop:=∀l st t st',BqA l→vq9 st→g l st=.ok t st'→BqA t∧vq9 st'
theorem QGood.join {s:ByteArray} (H:s.size≤200) {f:St→Res} (h:QGood f):∀st l t st',BqA l→qc9 s f st l=.ok t st'→BqA t∧vq9 st':=by
 intro st l t st' hl he
 unfold qc9 at he
 split at he
 ·rename_i r st2 hr;injection he with h1 h2;subst h1;subst h2
  have:=h _ _ _ (qa1 H st) hr
  exact ⟨⟨(bq0 _ _ _),hl,this.1⟩,this.2⟩
 ·cases he
theorem QGood.loop {s:ByteArray} (H:s.size≤200) {f:St→Res} {ks:List Int} (h:QGood f):∀n l st t st',BqA l→vq9 st→qb7 s f ks n l st=.ok t st'→BqA t∧vq9 st':=by
 intro n
 induction n with
 | zero=>intro l st t st' hl hs he;rw [qb7] at he;injection he with h1 h2;subst h1;subst h2;exact ⟨hl,hs⟩
 | succ n ih=>
  intro l st t st' hl hs he
  rw [qb7] at he
  split at he
  ·split at he
   ·rename_i hj;have:=h.join H _ _ _ _ hl hj;exact ih _ _ _ _ this.1 this.2 he
   ·cases he
  ·injection he with h1 h2;subst h1;subst h2;exact ⟨hl,hs⟩
theorem QGood.row {s:ByteArray} (H:s.size≤200) {f:St→Res} {ks:List Int} (h:QGood f):QGood (qe4 s f ks):=by
 intro st t st' hs he
 unfold qe4 at he
 split at he
 ·rename_i hr;have:=h _ _ _ hs hr;exact h.loop H _ _ _ _ _ this.1 this.2 he
 ·cases he
theorem QGood.sign {s:ByteArray} (H:s.size≤200) {f:St→Res} (h:QGood f) (o:Int):QGood (qd7 s f o):=by
 intro st t st' _ he
 unfold qd7 at he
 split at he
 ·cases he
 ·split at he
  ·rename_i hr;injection he with h1 h2;subst h1;subst h2
   have:=h (qk8 s st) _ _ (qa1 H st) hr
   exact ⟨⟨(bq0 _ _ _),this.1⟩,this.2⟩
  ·cases he
theorem QGood.group {s:ByteArray} (H:s.size≤200) {f:St→Res} (h:QGood f):QGood (qd5 s f):=by
 intro st t st' _ he
 unfold qd5 at he
 split at he
 ·cases he
 ·split at he
  ·rename_i hr;split at he
   ·injection he with h1 h2;subst h1;subst h2
    exact ⟨(h (qk8 s st) _ _ (qa1 H st) hr).1,qa1 H _⟩
   ·cases he
  ·cases he
theorem QGood.signed {s:ByteArray} (H:s.size≤200) {fS fE:St→Res} (hS:QGood fS) (hE:QGood fE):QGood (qc6 s fS fE):=by
 intro st t st' hs he
 unfold qc6 at he
 split at he
 ·exact hS.sign H 14 _ _ _ hs he
 split at he
 ·exact hS.sign H 15 _ _ _ hs he
 split at he
 ·exact hE.group H _ _ _ hs he
 split at he
 ·injection he with h1 h2;subst h1;subst h2;exact ⟨bq1,qa1 H st⟩
 split at he
 ·injection he with h1 h2;subst h1;subst h2;exact ⟨(bq0 _ _ _),qa1 H st⟩
 split at he
 ·injection he with h1 h2;subst h1;subst h2;exact ⟨bq1,qa1 H st⟩
 split at he
 ·injection he with h1 h2;subst h1;subst h2;exact ⟨(bq0 _ _ _),qa1 H st⟩
 split at he
 ·injection he with h1 h2;subst h1;subst h2;exact ⟨(bq0 _ _ _),qa1 H st⟩
 ·cases he
theorem bq_isNull {s:ByteArray} (H:s.size≤200):vq8 (qd2 s):=by
 intro l st t st' hl _ he
 unfold qd2 at he
 split at he
 ·split at he
  ·injection he with h1 h2;subst h1;subst h2;exact ⟨⟨(bq0 _ _ _),(bq0 _ _ _),hl⟩,qa1 H _⟩
  ·cases he
 ·split at he
  ·injection he with h1 h2;subst h1;subst h2;exact ⟨⟨(bq0 _ _ _),hl⟩,qa1 H _⟩
  ·cases he
theorem bq_inLoop {s:ByteArray} (H:s.size≤200) {l:Ast} {pl:Nat} (hl:BqA l):∀n ts st t st',(∀x∈ts,x.length≤200)→qf5 s l pl n ts st=.ok t st'→BqA t∧vq9 st':=by
 intro n
 induction n with
 | zero=>intro ts st t st' _ he;rw [qf5] at he;cases he
 | succ n ih=>
  intro ts st t st' hn he
  rw [qf5] at he
  split at he
  ·split at he
   ·refine ih _ _ _ _ (fun x hx=>?_) he
    rcases List.mem_append.1 hx with hx|hx
    ·exact hn x hx
    ·simp at hx;subst hx;exact qa1 H st
   ·cases he
  ·split at he
   ·injection he with h1 h2;subst h1;subst h2;exact ⟨⟨⟨by simp,hn⟩,hl⟩,qa1 H _⟩
   ·cases he
theorem bq_in {s:ByteArray} (H:s.size≤200):vq8 (qh5 s):=by
 intro l st t st' hl _ he
 unfold qh5 at he
 split at he
 ·split at he
  ·exact bq_inLoop H hl _ _ _ _ _ (fun x hx=>by simp at hx;subst hx;exact qa1 H _) he
  ·cases he
 ·cases he
theorem jh4 {s:ByteArray} {ft:Tk} {fp:Nat} {st:St} {str:List UInt8} {st':St} (h:qq3 s ft fp st=.ok str st'):str.length≤1:=by
 unfold qq3 at h
 split at h
 ·split at h
  ·rename_i h1
   split at h
   ·injection h with e1 _;subst e1;omega
   ·cases h
  ·cases h
 ·cases h
theorem bq_like {s:ByteArray} (H:s.size≤200):vq8 (qb6 s):=by
 intro l st t st' hl _ he
 unfold qb6 at he
 split at he
 ·split at he
  ·split at he
   ·rename_i hk;injection he with h1 h2;subst h1;subst h2;rw [(qu3 hk).2];exact ⟨⟨⟨jh4 hk,by simp⟩,hl⟩,qa1 H _⟩
   ·cases he
  ·injection he with h1 h2;subst h1;subst h2;exact ⟨⟨⟨by simp,by simp⟩,hl⟩,qa1 H _⟩
 ·cases he
theorem QGood.between {s:ByteArray} (H:s.size≤200) {f:St→Res} (h:QGood f):vq8 (qa8 s f):=by
 intro l st t st' hl _ he
 unfold qa8 at he
 split at he
 ·split at he
  ·rename_i h1;split at he
   ·split at he
    ·rename_i h2;injection he with h3 h4;subst h3;subst h4
     have a:=h _ _ _ (qa1 H _) h1
     have b:=h _ _ _ (qa1 H _) h2
     exact ⟨⟨(bq0 _ _ _),hl,a.1,b.1⟩,b.2⟩
    ·cases he
   ·cases he
  ·cases he
 ·cases he
theorem QGood.keyword {s:ByteArray} (H:s.size≤200) {f:St→Res} (h:QGood f) (bare:Bool):vq8 (qb1 s f (qh5 s) (qb6 s) bare):=by
 intro l st t st' hl hs he
 unfold qb1 at he
 split at he
 ·exact bq_in H _ _ _ _ hl hs he
 split at he
 ·exact bq_like H _ _ _ _ hl hs he
 ·exact h.between H _ _ _ _ hl hs he
theorem QGood.test {s:ByteArray} (H:s.size≤200) {f:St→Res} (h:QGood f):QGood (qg1 s f (qh5 s) (qb6 s)):=by
 intro st t st' hs he
 unfold qg1 at he
 split at he
 ·rename_i hr
  obtain ⟨hl,hs1⟩:=h _ _ _ hs hr
  unfold qb5 at he
  split at he
  ·exact h.join H _ _ _ _ hl he
  split at he
  ·split at he
   ·exact bq_isNull H _ _ _ _ hl hs1 he
   ·injection he with h1 h2;subst h1;subst h2;exact ⟨hl,hs1⟩
  split at he
  ·split at he
   ·rename_i hk;injection he with h1 h2;subst h1;subst h2
    have:=h.keyword H _ _ _ _ _ hl (qa1 H _) hk
    exact ⟨⟨(bq0 _ _ _),this.1⟩,this.2⟩
   ·cases he
  split at he
  ·exact h.keyword H _ _ _ _ _ hl hs1 he
  ·injection he with h1 h2;subst h1;subst h2;exact ⟨hl,hs1⟩
 ·cases he
theorem QGood.denied {s:ByteArray} (H:s.size≤200) {fD fT:St→Res} (hD:QGood fD) (hT:QGood fT):QGood (qe1 s fD fT):=by
 intro st t st' hs he
 unfold qe1 at he
 split at he
 ·exact hD.sign H 5 _ _ _ hs he
 ·exact hT _ _ _ hs he
structure QGood3 (L:L3):Prop where
 S:QGood L.S
 D:QGood L.D
 E:QGood L.E
theorem up3_bq {s:ByteArray} (H:s.size≤200) {L:L3} (h:QGood3 L):QGood3 (up3 s L):=by
 have hS:=QGood.signed (s:=s) H h.S h.E
 have hD:=QGood.denied (s:=s) H h.D (QGood.test (s:=s) H ((hS.row (s:=s) H (ks:=[24,25])).row (s:=s) H (ks:=[22,23])))
 exact ⟨hS,hD,(hD.row (s:=s) H (ks:=[5])).row (s:=s) H (ks:=[6])⟩
theorem lvl_bq (s:ByteArray) (H:s.size≤200):∀d,QGood3 (lvl s d):=by
 intro d
 induction d with
 | zero=>exact up3_bq H ⟨(fun _ _ _ _ h=>by cases h),(fun _ _ _ _ h=>by cases h),(fun _ _ _ _ h=>by cases h)⟩
 | succ d ih=>exact up3_bq H ih
end
section
structure Bz (p:Pay):Prop where
 name:p.op=0→p.num=0∧p.esc=[]∧ji4 p.str=true
 num:p.op=1→0≤p.num∧p.str=[]∧p.esc=[]
 text:p.op=2→p.num=0∧p.esc=[]
 bare:p.op=3∨p.op=4∨p.op=5∨p.op=23→p.num=0∧p.str=[]∧p.esc=[]
 like:p.op=22→p.num=0∧(p.esc=[]∨p.esc.length=1∧(qs2 p.esc p.str).isSome=true)
def BzA:Ast→Prop
 | .leaf p=>Bz p
 | .un p x=>Bz p∧BzA x
 | .bin p x y=>Bz p∧BzA x∧BzA y
 | .tri p x y z=>Bz p∧BzA x∧BzA y∧BzA z
theorem bz0 {op pl:Int} (h:op≠0):Bz ⟨op,pl,0,[],[],[]⟩:=⟨fun e=>absurd e h,fun _=>⟨Int.le_refl _,rfl,rfl⟩,fun _=>⟨rfl,rfl⟩,fun _=>⟨rfl,rfl,rfl⟩,fun _=>⟨rfl,.inl rfl⟩⟩
theorem bz_name {pl:Int} {s:List UInt8} (h:ji4 s=true):Bz ⟨0,pl,0,s,[],[]⟩:=by
 constructor<;>intro e<;>simp at e
 exact ⟨rfl,rfl,h⟩
theorem bz_num {pl n:Int} (h:0≤n):Bz ⟨1,pl,n,[],[],[]⟩:=by
 constructor<;>intro e<;>simp at e
 exact ⟨h,rfl,rfl⟩
theorem bz_text {pl:Int} {s:List UInt8}:Bz ⟨2,pl,0,s,[],[]⟩:=by
 constructor<;>intro e<;>simp at e
 exact ⟨rfl,rfl⟩
theorem bz_among {pl:Int} {ts:List (List UInt8)}:Bz ⟨21,pl,0,[],[],ts⟩:=by
 constructor<;>intro e<;>simp at e
theorem bz_lk {pl:Int} {s e:List UInt8} (h:e=[]∨e.length=1∧(qs2 e s).isSome=true):Bz ⟨22,pl,0,s,e,[]⟩:=by
 constructor<;>intro e<;>simp at e
 exact ⟨rfl,h⟩
theorem opOf_ne (k:Int):qw9 k≠0:=by
 unfold qw9
 repeat' split
 all_goals decide
theorem jc4 (p:UInt8→Bool):∀(l:List UInt8) (n:Nat),n≤qc0 p l→qc0 p (l.take n)=n:=by
 intro l
 induction l with
 | nil=>intro n h;simp [qc0] at h;subst h;rfl
 | cons c t ih=>
  intro n h
  cases n with
  | zero=>rfl
  | succ n=>
   unfold qc0 at h
   by_cases hc:p c=true
   ·rw [if_pos hc] at h
    have:=ih n (by omega)
    simp [qc0,hc,this]
   ·rw [if_neg hc] at h
    omega
theorem name_tk {l:List UInt8} (h:(qf1 l).kind=2):ji4 (qf1 l).str=true:=by
 cases l with
 | nil=>simp [qf1,qa2] at h
 | cons c t=>
  by_cases hb:vc0 c=true
  ·have e:qf1 (c::t)=qk2 (c::t):=by simp [qf1,hb]
   rw [e] at h ⊢
   by_cases hw:qy1 ((c::t).take (qb8 (c::t)))=2
   ·have e2:qk2 (c::t)=⟨2,0,(c::t).take (qb8 (c::t))⟩:=by unfold qk2;rw [if_pos hw]
    rw [e2]
    have hs:qb8 (c::t)=qc0 qu4 t+1:=by simp [qb8,hb]
    have hz:qb8 ((c::t).take (qb8 (c::t)))=qb8 (c::t):=by
     rw [hs,List.take_succ_cons]
     simp only [qb8,hb,if_true]
     rw [jc4 qu4 t _ (Nat.le_refl _)]
    have hl:=qt3 (c::t)
    unfold ji4
    simp only [hz,hw,List.length_take]
    rw [Nat.min_eq_left hl]
    simp [hs]
   ·have e2:qk2 (c::t)=qa2 (qy1 ((c::t).take (qb8 (c::t)))):=by unfold qk2;rw [if_neg hw]
    rw [e2] at h
    exact absurd h hw
  ·exfalso
   have hb:vc0 c=false:=by simpa using hb
   by_cases hd:qm2 c=true
   ·have e:qf1 (c::t)=qr8 (c::t):=by simp [qf1,hb,hd]
    rw [e] at h
    unfold qr8 at h
    split at h
    ·simp at h
    ·simp [qa2] at h
   ·have hd:qm2 c=false:=by simpa using hd
    by_cases hq:(c==39)=true
    ·have e:qf1 (c::t)=qj4 (c::t):=by simp [qf1,hb,hd,hq]
     rw [e] at h
     unfold qj4 at h
     split at h
     ·simp at h
     ·simp [qa2] at h
    ·have hq:(c==39)=false:=by simpa using hq
     have e:qf1 (c::t)=qa2 (qr3 (c::t)):=by simp [qf1,hb,hd,hq]
     rw [e] at h
     have h:qr3 (c::t)=2:=h
     unfold qr3 at h
     split at h
     ·omega
     ·unfold vm8 at h
      repeat' split at h
      all_goals omega
theorem num_tk {l:List UInt8}:0≤(qf1 l).num:=by
 cases l with
 | nil=>simp [qf1,qa2]
 | cons c t=>
  have hw:∀l,0≤(qk2 l).num:=fun l=>by unfold qk2;split<;>simp [qa2]
  have hn:∀l,0≤(qr8 l).num:=fun l=>by
   unfold qr8
   split
   ·simp
   ·simp [qa2]
  have hq:∀l,0≤(qj4 l).num:=fun l=>by unfold qj4;split<;>simp [qa2]
  show 0≤(if vc0 c then qk2 (c::t) else if qm2 c then qr8 (c::t) else if c==39 then qj4 (c::t) else qa2 (qr3 (c::t))).num
  split
  ·exact hw _
  ·split
   ·exact hn _
   ·split
    ·exact hq _
    ·exact Int.le_refl _
def TkZ (st:St):Prop:=(st.tk.kind=2→ji4 st.tk.str=true)∧0≤st.tk.num
theorem qg2 {s:ByteArray} (_:s.size≤200) (st:St):TkZ (j3 s st):=by
 show ((qd8 _ _).kind=2→ji4 (qd8 _ _).str=true)∧0≤(qd8 _ _).num
 unfold qd8
 split
 ·exact ⟨name_tk,num_tk⟩
 ·exact ⟨fun h=>by simp [qa2] at h,by simp [qa2]⟩
def ZGood (f:St→Res):Prop:=∀st t st',TkZ st→f st=.ok t st'→BzA t∧TkZ st'
def vr0 (g:Ast→St→Res):Prop:=∀l st t st',BzA l→TkZ st→g l st=.ok t st'→BzA t∧TkZ st'
theorem ZGood.join {s:ByteArray} (H:s.size≤200) {f:St→Res} (h:ZGood f):∀st l t st',BzA l→qc9 s f st l=.ok t st'→BzA t∧TkZ st':=by
 intro st l t st' hl he
 unfold qc9 at he
 split at he
 ·rename_i r st2 hr;injection he with h1 h2;subst h1;subst h2
  have:=h _ _ _ (qg2 H st) hr
  exact ⟨⟨bz0 (opOf_ne _),hl,this.1⟩,this.2⟩
 ·cases he
theorem ZGood.loop {s:ByteArray} (H:s.size≤200) {f:St→Res} {ks:List Int} (h:ZGood f):∀n l st t st',BzA l→TkZ st→qb7 s f ks n l st=.ok t st'→BzA t∧TkZ st':=by
 intro n
 induction n with
 | zero=>intro l st t st' hl hs he;rw [qb7] at he;injection he with h1 h2;subst h1;subst h2;exact ⟨hl,hs⟩
 | succ n ih=>
  intro l st t st' hl hs he
  rw [qb7] at he
  split at he
  ·split at he
   ·rename_i hj;have:=h.join H _ _ _ _ hl hj;exact ih _ _ _ _ this.1 this.2 he
   ·cases he
  ·injection he with h1 h2;subst h1;subst h2;exact ⟨hl,hs⟩
theorem ZGood.row {s:ByteArray} (H:s.size≤200) {f:St→Res} {ks:List Int} (h:ZGood f):ZGood (qe4 s f ks):=by
 intro st t st' hs he
 unfold qe4 at he
 split at he
 ·rename_i hr;have:=h _ _ _ hs hr;exact h.loop H _ _ _ _ _ this.1 this.2 he
 ·cases he
theorem ZGood.sign {s:ByteArray} (H:s.size≤200) {f:St→Res} (h:ZGood f) (o:Int) (ho:o≠0):ZGood (qd7 s f o):=by
 intro st t st' _ he
 unfold qd7 at he
 split at he
 ·cases he
 ·split at he
  ·rename_i hr;injection he with h1 h2;subst h1;subst h2
   have:=h (qk8 s st) _ _ (qg2 H st) hr
   exact ⟨⟨bz0 ho,this.1⟩,this.2⟩
  ·cases he
theorem ZGood.group {s:ByteArray} (H:s.size≤200) {f:St→Res} (h:ZGood f):ZGood (qd5 s f):=by
 intro st t st' _ he
 unfold qd5 at he
 split at he
 ·cases he
 ·split at he
  ·rename_i hr;split at he
   ·injection he with h1 h2;subst h1;subst h2
    exact ⟨(h (qk8 s st) _ _ (qg2 H st) hr).1,qg2 H _⟩
   ·cases he
  ·cases he
theorem ZGood.signed {s:ByteArray} (H:s.size≤200) {fS fE:St→Res} (hS:ZGood fS) (hE:ZGood fE):ZGood (qc6 s fS fE):=by
 intro st t st' hs he
 unfold qc6 at he
 split at he
 ·exact hS.sign H 14 (by decide) _ _ _ hs he
 split at he
 ·exact hS.sign H 15 (by decide) _ _ _ hs he
 split at he
 ·exact hE.group H _ _ _ hs he
 split at he
 ·injection he with h1 h2;subst h1;subst h2;exact ⟨bz_name (hs.1 (by assumption)),qg2 H st⟩
 split at he
 ·injection he with h1 h2;subst h1;subst h2;exact ⟨bz_num hs.2,qg2 H st⟩
 split at he
 ·injection he with h1 h2;subst h1;subst h2;exact ⟨bz_text,qg2 H st⟩
 split at he
 ·injection he with h1 h2;subst h1;subst h2;exact ⟨bz0 (by decide),qg2 H st⟩
 split at he
 ·injection he with h1 h2;subst h1;subst h2;exact ⟨bz0 (by decide),qg2 H st⟩
 ·cases he
theorem bz_isNull {s:ByteArray} (H:s.size≤200):vr0 (qd2 s):=by
 intro l st t st' hl _ he
 unfold qd2 at he
 split at he
 ·split at he
  ·injection he with h1 h2;subst h1;subst h2;exact ⟨⟨(bz0 (by decide)),(bz0 (by decide)),hl⟩,qg2 H _⟩
  ·cases he
 ·split at he
  ·injection he with h1 h2;subst h1;subst h2;exact ⟨⟨(bz0 (by decide)),hl⟩,qg2 H _⟩
  ·cases he
theorem bz_inLoop {s:ByteArray} (H:s.size≤200) {l:Ast} {pl:Nat} (hl:BzA l):∀n ts st t st',qf5 s l pl n ts st=.ok t st'→BzA t∧TkZ st':=by
 intro n
 induction n with
 | zero=>intro ts st t st' he;rw [qf5] at he;cases he
 | succ n ih=>
  intro ts st t st' he
  rw [qf5] at he
  split at he
  ·split at he
   ·exact ih _ _ _ _ he
   ·cases he
  ·split at he
   ·injection he with h1 h2;subst h1;subst h2;exact ⟨⟨bz_among,hl⟩,qg2 H _⟩
   ·cases he
theorem bz_in {s:ByteArray} (H:s.size≤200):vr0 (qh5 s):=by
 intro l st t st' hl _ he
 unfold qh5 at he
 split at he
 ·split at he
  ·exact bz_inLoop H hl _ _ _ _ _ he
  ·cases he
 ·cases he
theorem jh3 {s:ByteArray} {ft:Tk} {fp:Nat} {st:St} {str:List UInt8} {st':St} (h:qq3 s ft fp st=.ok str st'):str.length=1∧(qs2 str ft.str).isSome=true:=by
 unfold qq3 at h
 split at h
 ·split at h
  ·rename_i h1
   split at h
   ·rename_i h2
    injection h with e1 _;subst e1;exact ⟨h1,h2⟩
   ·cases h
  ·cases h
 ·cases h
theorem bz_like {s:ByteArray} (H:s.size≤200):vr0 (qb6 s):=by
 intro l st t st' hl _ he
 unfold qb6 at he
 split at he
 ·split at he
  ·split at he
   ·rename_i hk;injection he with h1 h2;subst h1;subst h2;rw [(qu3 hk).2];exact ⟨⟨bz_lk (.inr (jh3 hk)),hl⟩,qg2 H _⟩
   ·cases he
  ·injection he with h1 h2;subst h1;subst h2;exact ⟨⟨bz_lk (.inl rfl),hl⟩,qg2 H _⟩
 ·cases he
theorem ZGood.between {s:ByteArray} (H:s.size≤200) {f:St→Res} (h:ZGood f):vr0 (qa8 s f):=by
 intro l st t st' hl _ he
 unfold qa8 at he
 split at he
 ·split at he
  ·rename_i h1;split at he
   ·split at he
    ·rename_i h2;injection he with h3 h4;subst h3;subst h4
     have a:=h _ _ _ (qg2 H _) h1
     have b:=h _ _ _ (qg2 H _) h2
     exact ⟨⟨(bz0 (by decide)),hl,a.1,b.1⟩,b.2⟩
    ·cases he
   ·cases he
  ·cases he
 ·cases he
theorem ZGood.keyword {s:ByteArray} (H:s.size≤200) {f:St→Res} (h:ZGood f) (bare:Bool):vr0 (qb1 s f (qh5 s) (qb6 s) bare):=by
 intro l st t st' hl hs he
 unfold qb1 at he
 split at he
 ·exact bz_in H _ _ _ _ hl hs he
 split at he
 ·exact bz_like H _ _ _ _ hl hs he
 ·exact h.between H _ _ _ _ hl hs he
theorem ZGood.test {s:ByteArray} (H:s.size≤200) {f:St→Res} (h:ZGood f):ZGood (qg1 s f (qh5 s) (qb6 s)):=by
 intro st t st' hs he
 unfold qg1 at he
 split at he
 ·rename_i hr
  obtain ⟨hl,hs1⟩:=h _ _ _ hs hr
  unfold qb5 at he
  split at he
  ·exact h.join H _ _ _ _ hl he
  split at he
  ·split at he
   ·exact bz_isNull H _ _ _ _ hl hs1 he
   ·injection he with h1 h2;subst h1;subst h2;exact ⟨hl,hs1⟩
  split at he
  ·split at he
   ·rename_i hk;injection he with h1 h2;subst h1;subst h2
    have:=h.keyword H _ _ _ _ _ hl (qg2 H _) hk
    exact ⟨⟨(bz0 (by decide)),this.1⟩,this.2⟩
   ·cases he
  split at he
  ·exact h.keyword H _ _ _ _ _ hl hs1 he
  ·injection he with h1 h2;subst h1;subst h2;exact ⟨hl,hs1⟩
 ·cases he
theorem ZGood.denied {s:ByteArray} (H:s.size≤200) {fD fT:St→Res} (hD:ZGood fD) (hT:ZGood fT):ZGood (qe1 s fD fT):=by
 intro st t st' hs he
 unfold qe1 at he
 split at he
 ·exact hD.sign H 5 (by decide) _ _ _ hs he
 ·exact hT _ _ _ hs he
structure ZGood3 (L:L3):Prop where
 S:ZGood L.S
 D:ZGood L.D
 E:ZGood L.E
theorem up3_bz {s:ByteArray} (H:s.size≤200) {L:L3} (h:ZGood3 L):ZGood3 (up3 s L):=by
 have hS:=ZGood.signed (s:=s) H h.S h.E
 have hD:=ZGood.denied (s:=s) H h.D (ZGood.test (s:=s) H ((hS.row (s:=s) H (ks:=[24,25])).row (s:=s) H (ks:=[22,23])))
 exact ⟨hS,hD,(hD.row (s:=s) H (ks:=[5])).row (s:=s) H (ks:=[6])⟩
theorem lvl_bz (s:ByteArray) (H:s.size≤200):∀d,ZGood3 (lvl s d):=by
 intro d
 induction d with
 | zero=>exact up3_bz H ⟨(fun _ _ _ _ h=>by cases h),(fun _ _ _ _ h=>by cases h),(fun _ _ _ _ h=>by cases h)⟩
 | succ d ih=>exact up3_bz H ih
theorem jg6 {s:ByteArray} {t:Ast} (h:qn2 s=.ok t):BzA t:=by
 unfold qn2 at h
 by_cases hs:s.size≤200
 ·rw [if_pos hs] at h
  cases he:(lvl s 12).E (j3 s st0) with
  | err en pl=>rw [he] at h;cases h
  | ok t' st=>
   rw [he] at h
   have hq:=((lvl_bz s hs 12).E _ _ _ (qg2 hs st0) he).1
   simp only [vx2] at h
   split at h
   ·split at h
    ·injection h with e;subst e;exact hq
    ·cases h
   ·cases h
 ·rw [if_neg hs] at h;cases h
end
section
def va6:List UInt8→List UInt8
 | []=>[]
 | c::r=>if c==39 then 39::39::va6 r else c::va6 r
theorem vy6 (a b:List UInt8):va6 (a++b)=va6 a++va6 b:=by
 induction a with
 | nil=>rfl
 | cons c r ih=>
  rw [List.cons_append,va6,va6,ih]
  split<;>rfl
theorem jd9 (a:List UInt8):(va6 a).length≤2 * a.length:=by
 induction a with
 | nil=>exact Nat.le_refl _
 | cons c r ih=>rw [va6];split<;>simp<;>omega
end
section
structure LibOk (w:World):Prop where
 err:ErrOk w
 max:4<w.heap.size∧∃m,w.cell? ⟨4,0,none⟩=some (.int .i64 m)
 pow : Lib.TabIs Tryz.prog w "internal/strconv.uint64pow10" .u64 Lib.pow10Tab
theorem LibOk.below {w w':World} {B:Nat} (h:LibOk w) (hb:Below B w w') (hB:w.heap.size≤B):LibOk w':=by
 obtain ⟨hz,m,hm⟩:=h.max
 exact ⟨h.err.below hb hB,⟨Nat.lt_of_lt_of_le hz (by have:=hb.size;omega),m,(hb.cell (p:=⟨4,0,none⟩) (Nat.lt_of_lt_of_le hz hB)).trans hm⟩,(Lib.tabBelow_of_tabIs h.pow) w' (hb.mono hB)⟩
theorem LibOk.alloc {w:World} (h:LibOk w) (o:Obj):LibOk (w.alloc o):=h.below ((Below.refl _ _).alloc (Nat.le_refl _) o) (Nat.le_refl _)
structure CP where
 op:Int
 num:Int
 str:List UInt8
 esc:List UInt8
inductive Co where
 | leaf (p:CP)
 | un (p:CP) (x:Co)
 | bin (p:CP) (x y:Co)
def qL (s:List UInt8):List UInt8:=39::(va6 s++[39])
def qj8 (op:Int):List UInt8:=
 if op==6 then [65,78,68] else if op==7 then [79,82] else if op==8 then [61] else if op==10 then [60] else if op==11 then [60,61]
 else if op==16 then [43] else if op==17 then [45] else if op==18 then [42] else [47]
def je2 (e:List UInt8):List UInt8:=if e.isEmpty then [] else [32,69,83,67,65,80,69,32]++qL e
def qc7 (p:CP) (l r:List UInt8):List UInt8:=
 if p.op==0 then p.str else if p.op==1 then Lib.itoa p.num else if p.op==2 then qL p.str else if p.op==3 then [84,82,85,69] else if p.op==4 then [70,65,76,83,69]
 else if p.op==5 then [40,78,79,84,32]++l++[41] else if p.op==23 then [40]++l++[32,73,83,32,78,85,76,76,41]
 else if p.op==22 then [40]++l++[32,76,73,75,69,32]++qL p.str++je2 p.esc++[41]
 else [40]++l++[32]++qj8 p.op++[32]++r++[41]
def j9:Co→List UInt8
 | .leaf p=>qc7 p [] []
 | .un p x=>qc7 p (j9 x) []
 | .bin p x y=>qc7 p (j9 x) (j9 y)
def opC:Co→Int
 | .leaf p=>p.op
 | .un p _=>p.op
 | .bin p _ _=>p.op
def qb0 (op:Int):CP:=⟨op,0,[],[]⟩
def qu2 (op:Int):Bool:=op==6||op==7||op==8||op==16||op==18
def j8 (op:Int) (x y:Co):Co:=if qu2 op&&Op.bytesLess (j9 y) (j9 x) then .bin (qb0 op) y x else .bin (qb0 op) x y
def qe3:Co→Co
 | .leaf p=>if p.op==3 then .leaf (qb0 4) else if p.op==4 then .leaf (qb0 3) else .un (qb0 5) (.leaf p)
 | .un p x=>if p.op==5&&opC x != 0 then x else .un (qb0 5) (.un p x)
 | .bin p x y=>if p.op==6 then j8 7 (qe3 x) (qe3 y) else if p.op==7 then j8 6 (qe3 x) (qe3 y)
   else if p.op==10 then j8 11 y x else if p.op==11 then j8 10 y x else .un (qb0 5) (.bin p x y)
def qd9 (s:List UInt8):Co:=.leaf ⟨2,0,s,[]⟩
def vb2 (n:Int):Co:=.leaf ⟨1,n,[],[]⟩
def qp7 (x:Co):Co→List (List UInt8)→Co
 | f,[]=>f
 | f,t::r=>qp7 x (j8 7 f (j8 8 x (qd9 t))) r
def qf4 (ts:List (List UInt8)):List (List UInt8):=Lib.compact (ts.mergeSort fun x y=>decide (x≤y))
def qk7 (x:Co) (ts:List (List UInt8)):Co:=match qf4 ts with
 | []=>x
 | t::r=>qp7 x (j8 8 x (qd9 t)) r
def qu0 (p:Pay):CP:=⟨p.op,p.num,p.str,p.esc⟩
def j7:Ast→Co
 | .leaf p=>.leaf (qu0 p)
 | .un p x=>if p.op==14 then j8 16 (vb2 0) (j7 x) else if p.op==15 then j8 17 (vb2 0) (j7 x) else if p.op==5 then qe3 (j7 x)
   else if p.op==21 then qk7 (j7 x) p.texts else .un (qu0 p) (j7 x)
 | .bin p x y=>if p.op==12 then j8 10 (j7 y) (j7 x) else if p.op==13 then j8 11 (j7 y) (j7 x) else if p.op==9 then qe3 (j8 8 (j7 x) (j7 y)) else j8 p.op (j7 x) (j7 y)
 | .tri _ x y z=>j8 6 (j8 11 (j7 y) (j7 x)) (j8 11 (j7 x) (j7 z))
structure CellsC (B E:Nat) (w:World) (b:Nat) (p:CP) (l r:Value) (t:List UInt8):Prop where
 lo:B≤b
 hi:b<E
 within:b<w.heap.size
 c0:w.cell? ⟨b,0,none⟩=some (.int .i64 p.op)
 c1:w.cell? ⟨b,1,none⟩=some l
 c2:w.cell? ⟨b,2,none⟩=some r
 c3:w.cell? ⟨b,3,none⟩=some (.int .i64 p.num)
 c4:w.cell? ⟨b,4,none⟩=some (.string (BS p.str))
 c5:w.cell? ⟨b,5,none⟩=some (.string (BS p.esc))
 c6:w.cell? ⟨b,6,none⟩=some (.string (BS t))
def nilP:Value:=.pointer none
def at0 (b:Nat):Value:=.pointer (some ⟨b,0,none⟩)
def CoAt (B E:Nat) (w:World) (v:Value):Co→Prop
 | .leaf p=>∃b,v=at0 b∧CellsC B E w b p nilP nilP (j9 (.leaf p))
 | .un p x=>∃b vx,v=at0 b∧CellsC B E w b p vx nilP (j9 (.un p x))∧CoAt B E w vx x
 | .bin p x y=>∃b vx vy,v=at0 b∧CellsC B E w b p vx vy (j9 (.bin p x y))∧CoAt B E w vx x∧CoAt B E w vy y
theorem CellsC.keep {B E E':Nat} {w w':World} {b:Nat} {p:CP} {l r:Value} {t:List UInt8} (h:CellsC B E w b p l r t) (hE:E≤E') (hk:∀k,B≤k→k<E→w'.heap[k]?=w.heap[k]?) (hz:w.heap.size≤w'.heap.size):CellsC B E' w' b p l r t:=by
 have hc:∀j,w'.cell? ⟨b,j,none⟩=w.cell? ⟨b,j,none⟩:=fun j=>World.cell?_of_block (w:=w) (w':=w') (a:=⟨b,j,none⟩) (hk b h.lo h.hi)
 exact ⟨h.lo,Nat.lt_of_lt_of_le h.hi hE,Nat.lt_of_lt_of_le h.within hz,(hc 0).trans h.c0,(hc 1).trans h.c1,(hc 2).trans h.c2,(hc 3).trans h.c3,(hc 4).trans h.c4,(hc 5).trans h.c5,(hc 6).trans h.c6⟩
theorem CoAt.keep {B E E':Nat} {w w':World} (hE:E≤E') (hk:∀k,B≤k→k<E→w'.heap[k]?=w.heap[k]?) (hz:w.heap.size≤w'.heap.size):∀{c:Co} {v:Value},CoAt B E w v c→CoAt B E' w' v c:=by
 intro c
 induction c with
 | leaf p=>rintro v ⟨b,rfl,h⟩;exact ⟨b,rfl,h.keep hE hk hz⟩
 | un p x ih=>rintro v ⟨b,vx,rfl,h,hx⟩;exact ⟨b,vx,rfl,h.keep hE hk hz,ih hx⟩
 | bin p x y ihx ihy=>rintro v ⟨b,vx,vy,rfl,h,hx,hy⟩;exact ⟨b,vx,vy,rfl,h.keep hE hk hz,ihx hx,ihy hy⟩
theorem CoAt.below {B:Nat} {w w':World} (hb:Below w.heap.size w w') {c:Co} {v:Value} (h:CoAt B w.heap.size w v c):CoAt B w'.heap.size w' v c:=
 h.keep hb.size (fun k _ hk=>hb.block k hk) hb.size
theorem CoAt.head {B E:Nat} {w:World} {v:Value} {c:Co} (h:CoAt B E w v c):∃b p l r,v=at0 b∧p.op=opC c∧CellsC B E w b p l r (j9 c):=by
 cases c with
 | leaf p=>obtain ⟨b,rfl,h⟩:=h;exact ⟨b,p,_,_,rfl,rfl,h⟩
 | un p x=>obtain ⟨b,vx,rfl,h,_⟩:=h;exact ⟨b,p,_,_,rfl,rfl,h⟩
 | bin p x y=>obtain ⟨b,vx,vy,rfl,h,_⟩:=h;exact ⟨b,p,_,_,rfl,rfl,h⟩
def TextAt (w:World) (v:Value) (t:List UInt8):Prop:=∃b,v=at0 b∧b<w.heap.size∧w.cell? ⟨b,6,none⟩=some (.string (BS t))
theorem CoAt.text {B E:Nat} {w:World} {v:Value} {c:Co} (h:CoAt B E w v c):TextAt w v (j9 c):=by
 obtain ⟨b,p,l,r,rfl,_,h⟩:=h.head
 exact ⟨b,rfl,h.within,h.c6⟩
end
section
theorem qh6 (s t:ByteArray) (m n:Nat) (hs:s.size≤m) (ht:t.size≤n) (h:m+n≤9000000000):∃r,r=s++t∧r.size≤m+n∧∀w:World,(Op.stringOp .add s t).run Tryz.prog w=.ok (.string r) w:=
 ⟨s++t,rfl,by rw [ByteArray.size_append];omega,fun w=>run_string_add_sum (P:=Tryz.prog) (w:=w) _ _ (by omega)⟩
theorem qh7 (a b:List UInt8):BS a++BS b=BS (a++b):=by
 apply ByteArray.ext
 apply Array.ext'
 simp [BS]
theorem rk_take (s:ByteArray) (k:Nat) (h:k<s.size):s.data.toList.take (k+1)=s.data.toList.take k++[s[k]]:=by
 rw [List.take_add_one,List.getElem?_eq_getElem (by rw [qa5];exact h),qb3 s k h]
 rfl
theorem rk_one (s:ByteArray) (k:Nat) (h:k<s.size):s.extract k (k+1)=BS [s[k]]:=by
 have:(s.extract k (k+1)).data.toList=[s[k]]:=by
  rw [Lib.extract_data,Nat.add_sub_cancel_left,List.drop_eq_getElem_cons (by rw [qa5];exact h),qb3 s k h]
  simp
 apply ByteArray.ext
 apply Array.ext'
 exact this
theorem rk_39 (c:UInt8):((c.toNat:Int)==39)=(c==39):=by
 rw [Bool.eq_iff_iff,beq_iff_eq,beq_iff_eq]
 constructor
 ·intro h
  apply UInt8.toNat.inj
  have:c.toNat=39:=by omega
  rw [this];rfl
 ·intro h;rw [h];rfl
theorem rk_dbl (l:List UInt8) (c:UInt8):va6 (l++[c])=if c==39 then va6 l++[39,39] else va6 l++[c]:=by
 rw [vy6]
 by_cases h:(c==39)=true
 ·rw [if_pos h];simp only [va6,if_pos h]
 ·rw [if_neg h];simp only [va6,if_neg h]
theorem rk_dlen (l:List UInt8):(va6 l).length≤2 * l.length:=by
 induction l with
 | nil=>exact Nat.zero_le _
 | cons c r ih=>
  rw [va6]
  split<;>simp<;>omega
theorem qq6 (s:ByteArray) (hs:s.size≤1000) (w:World) :
  Calls Tryz.prog 226 #[.string s] w fun e w'=>e=.returned (.string (BS (qL s.data.toList)))∧w'=w:=by
 have hl:=qa5 s
 go_enter Tryz.func226,Tryz.ntmps226
 go_wp2_with fail
 go_loop [3,4] (fun o i=>∃k:Nat,k≤s.size∧i=.int .i64 k∧o=.string (BS (39::va6 (s.data.toList.take k)))) (fun _ i=>s.size - (intOf i).toNat)
 case atStart=>exact ⟨0,Nat.zero_le _,rfl,rfl⟩
 case round=>
  obtain ⟨k,hk,rfl,rfl⟩:=hrel
  have hz:=rk_dlen (s.data.toList.take k)
  rw [List.length_take,hl] at hz
  obtain ⟨O,hO⟩:∃O,BS (39::va6 (s.data.toList.take k))=O:=⟨_,rfl⟩
  have zO:O.size≤2001:=by rw [←hO,qc4,List.length_cons];omega
  by_cases hlt:k<s.size
  ·have hX:=rk_one s k hlt
   have zX:(s.extract k (k+1)).size≤1:=by rw [hX,qc4];exact Nat.le_refl _
   have hT:=rk_take s k hlt
   cases hq:(s[k]==39) with
   | true=>
    have hq':((s[k].toNat:Int)==39)=true:=by rw [rk_39];exact hq
    obtain ⟨Y,eY,zY,aY⟩:=qh6 O ⟨#[39]⟩ 2001 1 zO (Nat.le_refl _) (by decide)
    obtain ⟨Z,eZ,zZ,aZ⟩:=qh6 Y (s.extract k (k+1)) 2002 1 zY zX (by decide)
    have HZ:Hid (Z=BS (39::va6 (s.data.toList.take (k+1)))):=j4 (by
     rw [eZ,eY,←hO,hX,show (⟨#[39]⟩:ByteArray)=BS [39] from rfl,qh7,qh7,hT,rk_dbl,if_pos hq,eq_of_beq hq]
     simp)
    rw [hO]
    clear hO hz zO hX zX hT hq eY zY eZ zZ
    go_wp2_with fail
    go_round
    case rel=>exact ⟨k+1,by omega,by go_num,by rw [q9 HZ]⟩
    case measure=>simp [intOf];omega
   | false=>
    have hq':((s[k].toNat:Int)==39)=false:=by rw [rk_39];exact hq
    obtain ⟨Z,eZ,zZ,aZ⟩:=qh6 O (s.extract k (k+1)) 2001 1 zO zX (by decide)
    have HZ:Hid (Z=BS (39::va6 (s.data.toList.take (k+1)))):=j4 (by
     rw [eZ,←hO,hX,qh7,hT,rk_dbl,if_neg (by rw [hq];decide)]
     simp)
    rw [hO]
    clear hO hz zO hX zX hT hq eZ zZ
    go_wp2_with fail
    go_round
    case rel=>exact ⟨k+1,by omega,by go_num,by rw [q9 HZ]⟩
    case measure=>simp [intOf];omega
  ·obtain rfl:k=s.size:=by omega
   obtain ⟨Y,eY,zY,aY⟩:=qh6 O ⟨#[39]⟩ 2001 1 zO (Nat.le_refl _) (by decide)
   have HY:Hid (Y=BS (qL s.data.toList)):=j4 (by
    rw [eY,←hO,show (⟨#[39]⟩:ByteArray)=BS [39] from rfl,qh7,List.take_of_length_le (by rw [hl];exact Nat.le_refl _)]
    rfl)
   rw [hO]
   clear hO hz zO eY zY
   go_wp2_with fail
   go_ret
   exact ⟨by rw [q9 HY];rfl,rfl⟩
theorem dig_len (u:Nat) (h:u≤9223372036854775807):(Lib.decDigits u).length≤21:=by
 have:=Lib.itoa_length_le (u:Int) (by omega) (by omega)
 rwa [Lib.itoa_nonneg] at this
theorem vv2:∀(u:Nat),u≤9223372036854775807→∀w:World,Calls Tryz.prog 225 #[.int .i64 (u:Int)] w fun e w'=>e=.returned (.string (BS (Lib.decDigits u)))∧Below w.heap.size w w':=by
 intro u
 induction u using Nat.strongRecOn with
 | _ u ih=>
  intro hu w
  have hd:(UInt8.ofNat (48+u % 10)).toNat=48+u % 10:=by rw [UInt8.toNat_ofNat'];omega
  have CV:∀w:World,(convert 51 9 (.slice (some ⟨w.heap.size,0,none⟩) 1 1)).run Tryz.prog (w.alloc (.cells #[.int .u8 (48+(u:Int) % 10)] 5))=.ok (.string (BS [UInt8.ofNat (48+u % 10)])) (w.alloc (.cells #[.int .u8 (48+(u:Int) % 10)] 5)):=fun w=>by
   have:=jd5 (UInt8.ofNat (48+u % 10)) w
   rw [hd,show ((48+u % 10:Nat):Int)=48+(u:Int) % 10 by omega] at this
   exact this
  have CV0:=CV w
  obtain ⟨S,hS⟩:∃S,BS [UInt8.ofNat (48+u % 10)]=S:=⟨_,rfl⟩
  rw [hS] at CV0
  have hu0:(0:Int)≤(u:Int):=by omega
  have hu1:(u:Int)≤9223372036854775807:=by omega
  by_cases h:u<10
  ·have hr:Lib.decDigits u=[UInt8.ofNat (48+u % 10)]:=by rw [Lib.decDigits_one h,Nat.mod_eq_of_lt h]
   rw [hr,hS]
   have h1:(u:Int)<10:=by omega
   clear CV hd hr ih hS
   go_enter Tryz.func225,Tryz.ntmps225
   go_wp2_with fail
   go_ret
   exact ⟨rfl,(Below.refl _ _).alloc (Nat.le_refl _) _⟩
  ·have hr:Lib.decDigits u=Lib.decDigits (u / 10)++[UInt8.ofNat (48+u % 10)]:=by rw [Lib.decDigits,dif_neg h]
   have h1:¬(u:Int)<10:=by omega
   have IH:Hid (∀w,Calls Tryz.prog 225 #[.int .i64 ((u:Int) / 10)] w fun e w'=>e=.returned (.string (BS (Lib.decDigits (u / 10))))∧Below w.heap.size w w'):=j4 fun w=>by
    have:=ih (u / 10) (by omega) (by omega) w
    rwa [show ((u / 10:Nat):Int)=(u:Int) / 10 by omega] at this
   obtain ⟨A,hA⟩:∃A,BS (Lib.decDigits (u / 10))=A:=⟨_,rfl⟩
   obtain ⟨R,eR,zR,aR⟩:=qh6 A S 21 1 (by rw [←hA,qc4];exact dig_len _ (by omega)) (by rw [←hS,qc4];exact Nat.le_refl _) (by decide)
   have HR:Hid (BS (Lib.decDigits u)=R):=j4 (by rw [hr,eR,←hA,←hS,qh7])
   rw [hA] at IH
   rw [q9 HR]
   clear CV hd hr ih hS hA eR zR
   go_enter Tryz.func225,Tryz.ntmps225
   go_wp2_with (go_at_call 225;refine (q9 IH _).mono ?_;rintro e w1 ⟨rfl,hb1⟩)
   go_ret
   exact ⟨rfl,j6 ((Below.refl _ _).alloc (Nat.le_refl _) _) hb1⟩
end
end Go.Proofs.YtfkcaldjphakpaaGreatDoor
