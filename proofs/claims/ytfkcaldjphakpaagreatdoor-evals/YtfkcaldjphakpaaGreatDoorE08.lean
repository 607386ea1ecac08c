/- Read. from: the ends that one more piece can reach. Fits. among. join: BETWEEN. join: what needs nothing but Join. An error's number is never 0. -/
import Derived.Test.YtfkcaldjphakpaaGreatDoorE21
import Derived.Test.YtfkcaldjphakpaaGreatDoorE24
import Derived.Deep.QuietTactic
import Derived.BigQuiet
import Derived.Deep.OwnRows
import Derived.Deep.RegionHeld3
import Derived.Deep.RegionWith
set_option maxHeartbeats 2000000
set_option maxRecDepth 100000
namespace Go.Proofs.YtfkcaldjphakpaaGreatDoor
open Go.RowKit
section
theorem ErrOk.set {w:World} (h:ErrOk w) {p:Addr} (hp:3<p.block) (u:Value):ErrOk (w.setCell p u):=by
 obtain ⟨h1,ev,h2,h3⟩:=h
 refine ⟨by rw [qa8];exact h1,ev, ?_,h3⟩
 rw [World.cell?_of_block (w:=w) (w':=w.setCell p u) (Below.heap_setCell w p u _ (by show 3≠p.block;omega))];exact h2
theorem vi9 (s:ByteArray) (w:World) (hE:ErrOk w) (hsz:s.size≤140737488355328) :
  Calls Tryz.prog 36 #[.string s] w (vy7 w (qq1 s)):=by
 have hmf:∀(fn:Fn) (first cap:Array Value) (w:World),(Instr.makeFunc fn first cap).run Tryz.prog w=.ok (.func fn first cap) w:=fun _ _ _ _=>rfl
 by_cases hs:s.size≤200
 ·rw [qq1,if_pos hs]
  have hs1:s.size≤140737488355328:=hsz
  have hb:decide ((200:Int)<(s.size:Int))=false:=decide_eq_false (by omega)
  have RDY:=v7 (vt5 w s hE hs)
  have BC:=v7 (vt4 w s)
  have BB:=v7 (vt3 w s)
  have BZ:=qh6 w s
  have EI:=v7 (lvl_reads (w.heap.size+3) s hs 12 0 rfl).E
  have HF1:=v7 (x8 s st0 (Nat.zero_le _))
  have GOOD:=v7 (lvl_good s 12).E
  have ERR2:Hid (∀w2 u,Kept (w.heap.size+3) (qs5 w s) w2→ErrOk (w2.setCell ⟨w.heap.size,0,none⟩ u)):=v7 fun w2 u hk=>((vm5 w s hE).kept hk (by have:=hE.1;omega)).set hE.1 u
  clear hE hsz
  cases hres:(lvl s 12).E (v6 s st0) with
  | err en pl=>
   have HRES:=v7 hres
   clear hres
   go_enter_defers Tryz.func36,Tryz.ntmps36
   go_wp2_with (first|(go_at_call 54;refine (qc9 (w.heap.size+3) s st0 (qs5 w s) hs1 (Nat.zero_le _) (q9 RDY).at' (q9 RDY).lt (q9 RDY).err).mono ?_;rintro e w1 ⟨rfl,hr1,hk1⟩;have hz1:=hk1.size;rw [qh6] at hz1;obtain ⟨kc,kf⟩:=qa5 hk1;rw [qh6] at kc kf;have a0:w1.cell? ⟨w.heap.size,0,none⟩=some (.pointer none):=(kc _ 0 (by omega) (by omega)).trans (q9 BC).1;have a1:w1.cell? ⟨w.heap.size+1,0,none⟩=some (.int .i64 0):=(kc _ 0 (by omega) (by omega)).trans (q9 BC).2.1;have a2:w1.cell? ⟨w.heap.size+2,0,none⟩=some (.int .i64 0):=(kc _ 0 (by omega) (by omega)).trans (q9 BC).2.2.1;have b0:w1.frozen? ⟨w.heap.size,0,none⟩=false:=(kf _ 0 (by omega) (by omega)).trans (q9 BC).2.2.2.1;have b1:w1.frozen? ⟨w.heap.size+1,0,none⟩=false:=(kf _ 0 (by omega) (by omega)).trans (q9 BC).2.2.2.2.1;have b2:w1.frozen? ⟨w.heap.size+2,0,none⟩=false:=(kf _ 0 (by omega) (by omega)).trans (q9 BC).2.2.2.2.2;have hR1:=v7 ((q9 RDY).kept hk1 hr1 (q9 HF1));have hK1:=v7 hk1;clear hr1 hk1 kc kf)|(go_at_call 55;refine (q9 EI w1 (v6 s st0) (q9 hR1) rfl).mono ?_;rintro e w2 ⟨hk2,h2⟩;rw [q9 HRES] at h2;subst h2;have hz2:=hk2.size;obtain ⟨kc,kf⟩:=qa5 hk2;have c0:w2.cell? ⟨w.heap.size,0,none⟩=some (.pointer none):=(kc _ 0 (by omega) (by omega)).trans a0;have c1:w2.cell? ⟨w.heap.size+1,0,none⟩=some (.int .i64 0):=(kc _ 0 (by omega) (by omega)).trans a1;have c2:w2.cell? ⟨w.heap.size+2,0,none⟩=some (.int .i64 0):=(kc _ 0 (by omega) (by omega)).trans a2;have d0:w2.frozen? ⟨w.heap.size,0,none⟩=false:=(kf _ 0 (by omega) (by omega)).trans b0;have d1:w2.frozen? ⟨w.heap.size+1,0,none⟩=false:=(kf _ 0 (by omega) (by omega)).trans b1;have d2:w2.frozen? ⟨w.heap.size+2,0,none⟩=false:=(kf _ 0 (by omega) (by omega)).trans b2;have hK2:=v7 ((q9 hK1).trans hk2);clear hk2 kc kf a0 a1 a2 b0 b1 b2;simp only [qa1]))
   refine leaves_cons (f:=53) (args:=#[.pointer (some ⟨w.heap.size,0,none⟩),.pointer (some ⟨w.heap.size+1,0,none⟩),.pointer (some ⟨w.heap.size+2,0,none⟩)]) (by simp) (by simp [go_sem]) ?_
   refine (qn5 w.heap.size (.pointer none) (.int .i64 0) (.int .i64 0) _ _ [] w2 (by omega) c0 c1 c2 d0 d1 d2).mono ?_
   rintro e u' w9 ⟨rfl,rfl,k0,k1,k2,hb9⟩
   have HB:=v7 (((q9 hK2).below (q9 BB) (by omega) (by omega)).trans hb9)
   simp [Leaves,settle,results,Tryz.results36,go_sem,k0,k1,k2]
   exact ⟨q9 HB,rfl⟩
  | ok t st2=>
   have CHK:=v7 (check_any (w.heap.size+3) t (q9 GOOD _ _ _ hres))
   have HRES:=v7 hres
   clear hres
   show Calls Tryz.prog _ _ _ (vy7 w (endR t st2))
   unfold endR
   by_cases hk:st2.tk.kind=0
   ·rw [if_pos hk]
    have HK:=v7 hk
    clear hk
    cases hch:chkR (qc8 t) with
    | none=>
     have HCH:=v7 hch
     clear hch
     go_enter_defers Tryz.func36,Tryz.ntmps36
     go_wp2_with (first|(go_at_call 54;refine (qc9 (w.heap.size+3) s st0 (qs5 w s) hs1 (Nat.zero_le _) (q9 RDY).at' (q9 RDY).lt (q9 RDY).err).mono ?_;rintro e w1 ⟨rfl,hr1,hk1⟩;have hz1:=hk1.size;rw [qh6] at hz1;obtain ⟨kc,kf⟩:=qa5 hk1;rw [qh6] at kc kf;have a0:w1.cell? ⟨w.heap.size,0,none⟩=some (.pointer none):=(kc _ 0 (by omega) (by omega)).trans (q9 BC).1;have a1:w1.cell? ⟨w.heap.size+1,0,none⟩=some (.int .i64 0):=(kc _ 0 (by omega) (by omega)).trans (q9 BC).2.1;have a2:w1.cell? ⟨w.heap.size+2,0,none⟩=some (.int .i64 0):=(kc _ 0 (by omega) (by omega)).trans (q9 BC).2.2.1;have b0:w1.frozen? ⟨w.heap.size,0,none⟩=false:=(kf _ 0 (by omega) (by omega)).trans (q9 BC).2.2.2.1;have b1:w1.frozen? ⟨w.heap.size+1,0,none⟩=false:=(kf _ 0 (by omega) (by omega)).trans (q9 BC).2.2.2.2.1;have b2:w1.frozen? ⟨w.heap.size+2,0,none⟩=false:=(kf _ 0 (by omega) (by omega)).trans (q9 BC).2.2.2.2.2;have hR1:=v7 ((q9 RDY).kept hk1 hr1 (q9 HF1));have hK1:=v7 hk1;clear hr1 hk1 kc kf)|(go_at_call 55;refine (q9 EI w1 (v6 s st0) (q9 hR1) rfl).mono ?_;rintro e w2 ⟨hk2,h2⟩;rw [q9 HRES] at h2;obtain ⟨v2,rfl,hn2,hr2,hf2,ho2,hp2⟩:=h2;obtain ⟨vb,rfl⟩:=hn2.ptr;have hn2:=v7 hn2;have hr2:=v7 hr2;have hf2:=v7 hf2;have hz2:=hk2.size;obtain ⟨kc,kf⟩:=qa5 hk2;have c0:w2.cell? ⟨w.heap.size,0,none⟩=some (.pointer none):=(kc _ 0 (by omega) (by omega)).trans a0;have c1:w2.cell? ⟨w.heap.size+1,0,none⟩=some (.int .i64 0):=(kc _ 0 (by omega) (by omega)).trans a1;have c2:w2.cell? ⟨w.heap.size+2,0,none⟩=some (.int .i64 0):=(kc _ 0 (by omega) (by omega)).trans a2;have d0:w2.frozen? ⟨w.heap.size,0,none⟩=false:=(kf _ 0 (by omega) (by omega)).trans b0;have d1:w2.frozen? ⟨w.heap.size+1,0,none⟩=false:=(kf _ 0 (by omega) (by omega)).trans b1;have d2:w2.frozen? ⟨w.heap.size+2,0,none⟩=false:=(kf _ 0 (by omega) (by omega)).trans b2;have hK2:=v7 ((q9 hK1).trans hk2);clear hk2 kc kf a0 a1 a2 b0 b1 b2)|(go_at_call 56;refine (qc3 (w.heap.size+3) s st2 0 (w2.setCell ⟨w.heap.size,0,none⟩ (.pointer (some ⟨vb,0,none⟩))) hs1 (q9 hf2).after ((q9 hr2).setOther (by show ¬w.heap.size=w.heap.size+3;omega) _) (by rw [qa8];omega) (q9 ERR2 _ _ (q9 hK2)) (q9 HK)).mono ?_;rintro e w3 ⟨rfl,hr3,hk3⟩;clear hr3;have hz3:w2.heap.size≤w3.heap.size:=(by have:=hk3.size;rw [qa8] at this;exact this);obtain ⟨kc,kf⟩:=qa5 hk3;rw [qa8] at kc kf;have g0:w3.cell? ⟨w.heap.size,0,none⟩=some (.pointer (some ⟨vb,0,none⟩)):=(kc _ 0 (by omega) (by omega)).trans (by simp [go_sem,c0]);have g1:w3.cell? ⟨w.heap.size+1,0,none⟩=some (.int .i64 0):=(kc _ 0 (by omega) (by omega)).trans (by simp [go_sem,c1]);have g2:w3.cell? ⟨w.heap.size+2,0,none⟩=some (.int .i64 0):=(kc _ 0 (by omega) (by omega)).trans (by simp [go_sem,c2]);have i0:w3.frozen? ⟨w.heap.size,0,none⟩=false:=(kf _ 0 (by omega) (by omega)).trans (by simp [go_sem,d0]);have i1:w3.frozen? ⟨w.heap.size+1,0,none⟩=false:=(kf _ 0 (by omega) (by omega)).trans (by simp [go_sem,d1]);have i2:w3.frozen? ⟨w.heap.size+2,0,none⟩=false:=(kf _ 0 (by omega) (by omega)).trans (by simp [go_sem,d2]);have hK3:=v7 hk3;clear hk3 kc kf c0 c1 c2 d0 d1 d2;simp only [tkV])|(go_at_call 57;refine (q9 CHK w3 (.pointer (some ⟨vb,0,none⟩)) ((q9 hn2).above (((Above.mk (Nat.le_refl _) (fun _ _ _=>rfl)).setCell (p:=⟨w.heap.size,0,none⟩) (by show w.heap.size≤w.heap.size+3;omega) (.pointer (some ⟨vb,0,none⟩))).trans (q9 hK3).above))).mono ?_;rintro e w4 ⟨hb4,h4⟩;rw [q9 HCH] at h4;subst h4;have hz4:=hb4.size;obtain ⟨bc,bf⟩:=v9 hb4;have j0:w4.cell? ⟨w.heap.size,0,none⟩=some (.pointer (some ⟨vb,0,none⟩)):=(bc _ 0 (by omega)).trans g0;have j1:w4.cell? ⟨w.heap.size+1,0,none⟩=some (.int .i64 0):=(bc _ 0 (by omega)).trans g1;have j2:w4.cell? ⟨w.heap.size+2,0,none⟩=some (.int .i64 0):=(bc _ 0 (by omega)).trans g2;have l0:w4.frozen? ⟨w.heap.size,0,none⟩=false:=(bf _ 0 (by omega)).trans i0;have l1:w4.frozen? ⟨w.heap.size+1,0,none⟩=false:=(bf _ 0 (by omega)).trans i1;have l2:w4.frozen? ⟨w.heap.size+2,0,none⟩=false:=(bf _ 0 (by omega)).trans i2;have hb4:=v7 hb4;clear bc bf g0 g1 g2 i0 i1 i2))
     refine leaves_cons (f:=53) (args:=#[.pointer (some ⟨w.heap.size,0,none⟩),.pointer (some ⟨w.heap.size+1,0,none⟩),.pointer (some ⟨w.heap.size+2,0,none⟩)]) (by simp) (by simp [go_sem]) ?_
     refine (jc2 _ _ _ _).mono ?_
     rintro e u' w9 ⟨rfl,rfl,rfl⟩
     simp [Leaves,settle,results,Tryz.results36,go_sem,j0,j1,j2]
     have A2:Above (w.heap.size+3) w2 w4:=(((Above.mk (Nat.le_refl _) (fun _ _ _=>rfl)).setCell (p:=⟨w.heap.size,0,none⟩) (by show w.heap.size≤w.heap.size+3;omega) (.pointer (some ⟨vb,0,none⟩))).trans (q9 hK3).above).trans (Kept.of_below (q9 hb4)).above
     have B4:Below w.heap.size w w4:=((q9 hK3).below (((q9 hK2).below (q9 BB) (by omega) (by omega)).setCell (by show w.heap.size≤w.heap.size;omega) _) (by omega) (by rw [qa8];omega)).trans ((q9 hb4).mono (by omega))
     exact ⟨((B4.setCell (by show w.heap.size≤w.heap.size;omega) _).setCell (by show w.heap.size≤w.heap.size+1;omega) _).setCell (by show w.heap.size≤w.heap.size+1+1;omega) _,_,rfl,(q9 hn2).above (((A2.setCell (by show w.heap.size≤w.heap.size+3;omega) _).setCell (by show w.heap.size+1≤w.heap.size+3;omega) _).setCell (by show w.heap.size+1+1≤w.heap.size+3;omega) _)⟩
    | some q=>
     have HCH:=v7 hch
     clear hch
     go_enter_defers Tryz.func36,Tryz.ntmps36
     go_wp2_with (first|(go_at_call 54;refine (qc9 (w.heap.size+3) s st0 (qs5 w s) hs1 (Nat.zero_le _) (q9 RDY).at' (q9 RDY).lt (q9 RDY).err).mono ?_;rintro e w1 ⟨rfl,hr1,hk1⟩;have hz1:=hk1.size;rw [qh6] at hz1;obtain ⟨kc,kf⟩:=qa5 hk1;rw [qh6] at kc kf;have a0:w1.cell? ⟨w.heap.size,0,none⟩=some (.pointer none):=(kc _ 0 (by omega) (by omega)).trans (q9 BC).1;have a1:w1.cell? ⟨w.heap.size+1,0,none⟩=some (.int .i64 0):=(kc _ 0 (by omega) (by omega)).trans (q9 BC).2.1;have a2:w1.cell? ⟨w.heap.size+2,0,none⟩=some (.int .i64 0):=(kc _ 0 (by omega) (by omega)).trans (q9 BC).2.2.1;have b0:w1.frozen? ⟨w.heap.size,0,none⟩=false:=(kf _ 0 (by omega) (by omega)).trans (q9 BC).2.2.2.1;have b1:w1.frozen? ⟨w.heap.size+1,0,none⟩=false:=(kf _ 0 (by omega) (by omega)).trans (q9 BC).2.2.2.2.1;have b2:w1.frozen? ⟨w.heap.size+2,0,none⟩=false:=(kf _ 0 (by omega) (by omega)).trans (q9 BC).2.2.2.2.2;have hR1:=v7 ((q9 RDY).kept hk1 hr1 (q9 HF1));have hK1:=v7 hk1;clear hr1 hk1 kc kf)|(go_at_call 55;refine (q9 EI w1 (v6 s st0) (q9 hR1) rfl).mono ?_;rintro e w2 ⟨hk2,h2⟩;rw [q9 HRES] at h2;obtain ⟨v2,rfl,hn2,hr2,hf2,ho2,hp2⟩:=h2;obtain ⟨vb,rfl⟩:=hn2.ptr;have hn2:=v7 hn2;have hr2:=v7 hr2;have hf2:=v7 hf2;have hz2:=hk2.size;obtain ⟨kc,kf⟩:=qa5 hk2;have c0:w2.cell? ⟨w.heap.size,0,none⟩=some (.pointer none):=(kc _ 0 (by omega) (by omega)).trans a0;have c1:w2.cell? ⟨w.heap.size+1,0,none⟩=some (.int .i64 0):=(kc _ 0 (by omega) (by omega)).trans a1;have c2:w2.cell? ⟨w.heap.size+2,0,none⟩=some (.int .i64 0):=(kc _ 0 (by omega) (by omega)).trans a2;have d0:w2.frozen? ⟨w.heap.size,0,none⟩=false:=(kf _ 0 (by omega) (by omega)).trans b0;have d1:w2.frozen? ⟨w.heap.size+1,0,none⟩=false:=(kf _ 0 (by omega) (by omega)).trans b1;have d2:w2.frozen? ⟨w.heap.size+2,0,none⟩=false:=(kf _ 0 (by omega) (by omega)).trans b2;have hK2:=v7 ((q9 hK1).trans hk2);clear hk2 kc kf a0 a1 a2 b0 b1 b2)|(go_at_call 56;refine (qc3 (w.heap.size+3) s st2 0 (w2.setCell ⟨w.heap.size,0,none⟩ (.pointer (some ⟨vb,0,none⟩))) hs1 (q9 hf2).after ((q9 hr2).setOther (by show ¬w.heap.size=w.heap.size+3;omega) _) (by rw [qa8];omega) (q9 ERR2 _ _ (q9 hK2)) (q9 HK)).mono ?_;rintro e w3 ⟨rfl,hr3,hk3⟩;clear hr3;have hz3:w2.heap.size≤w3.heap.size:=(by have:=hk3.size;rw [qa8] at this;exact this);obtain ⟨kc,kf⟩:=qa5 hk3;rw [qa8] at kc kf;have g0:w3.cell? ⟨w.heap.size,0,none⟩=some (.pointer (some ⟨vb,0,none⟩)):=(kc _ 0 (by omega) (by omega)).trans (by simp [go_sem,c0]);have g1:w3.cell? ⟨w.heap.size+1,0,none⟩=some (.int .i64 0):=(kc _ 0 (by omega) (by omega)).trans (by simp [go_sem,c1]);have g2:w3.cell? ⟨w.heap.size+2,0,none⟩=some (.int .i64 0):=(kc _ 0 (by omega) (by omega)).trans (by simp [go_sem,c2]);have i0:w3.frozen? ⟨w.heap.size,0,none⟩=false:=(kf _ 0 (by omega) (by omega)).trans (by simp [go_sem,d0]);have i1:w3.frozen? ⟨w.heap.size+1,0,none⟩=false:=(kf _ 0 (by omega) (by omega)).trans (by simp [go_sem,d1]);have i2:w3.frozen? ⟨w.heap.size+2,0,none⟩=false:=(kf _ 0 (by omega) (by omega)).trans (by simp [go_sem,d2]);have hK3:=v7 hk3;clear hk3 kc kf c0 c1 c2 d0 d1 d2;simp only [tkV])|(go_at_call 57;refine (q9 CHK w3 (.pointer (some ⟨vb,0,none⟩)) ((q9 hn2).above (((Above.mk (Nat.le_refl _) (fun _ _ _=>rfl)).setCell (p:=⟨w.heap.size,0,none⟩) (by show w.heap.size≤w.heap.size+3;omega) (.pointer (some ⟨vb,0,none⟩))).trans (q9 hK3).above))).mono ?_;rintro e w4 ⟨hb4,h4⟩;rw [q9 HCH] at h4;subst h4;have hz4:=hb4.size;obtain ⟨bc,bf⟩:=v9 hb4;have j0:w4.cell? ⟨w.heap.size,0,none⟩=some (.pointer (some ⟨vb,0,none⟩)):=(bc _ 0 (by omega)).trans g0;have j1:w4.cell? ⟨w.heap.size+1,0,none⟩=some (.int .i64 0):=(bc _ 0 (by omega)).trans g1;have j2:w4.cell? ⟨w.heap.size+2,0,none⟩=some (.int .i64 0):=(bc _ 0 (by omega)).trans g2;have l0:w4.frozen? ⟨w.heap.size,0,none⟩=false:=(bf _ 0 (by omega)).trans i0;have l1:w4.frozen? ⟨w.heap.size+1,0,none⟩=false:=(bf _ 0 (by omega)).trans i1;have l2:w4.frozen? ⟨w.heap.size+2,0,none⟩=false:=(bf _ 0 (by omega)).trans i2;have hb4:=v7 hb4;clear bc bf g0 g1 g2 i0 i1 i2;simp only [qa1]))
     refine leaves_cons (f:=53) (args:=#[.pointer (some ⟨w.heap.size,0,none⟩),.pointer (some ⟨w.heap.size+1,0,none⟩),.pointer (some ⟨w.heap.size+2,0,none⟩)]) (by simp) (by simp [go_sem]) ?_
     refine (qn5 w.heap.size (.pointer (some ⟨vb,0,none⟩)) (.int .i64 0) (.int .i64 0) _ _ [] w4 (by omega) j0 j1 j2 l0 l1 l2).mono ?_
     rintro e u' w9 ⟨rfl,rfl,k0,k1,k2,hb9⟩
     have HB:=v7 ((((q9 hK3).below (((q9 hK2).below (q9 BB) (by omega) (by omega)).setCell (by show w.heap.size≤w.heap.size;omega) _) (by omega) (by rw [qa8];omega)).trans ((q9 hb4).mono (by omega))).trans hb9)
     simp [Leaves,settle,results,Tryz.results36,go_sem,k0,k1,k2]
     exact ⟨q9 HB,rfl⟩
   ·rw [if_neg hk]
    have HK:=v7 hk
    clear hk
    go_enter_defers Tryz.func36,Tryz.ntmps36
    go_wp2_with (first|(go_at_call 54;refine (qc9 (w.heap.size+3) s st0 (qs5 w s) hs1 (Nat.zero_le _) (q9 RDY).at' (q9 RDY).lt (q9 RDY).err).mono ?_;rintro e w1 ⟨rfl,hr1,hk1⟩;have hz1:=hk1.size;rw [qh6] at hz1;obtain ⟨kc,kf⟩:=qa5 hk1;rw [qh6] at kc kf;have a0:w1.cell? ⟨w.heap.size,0,none⟩=some (.pointer none):=(kc _ 0 (by omega) (by omega)).trans (q9 BC).1;have a1:w1.cell? ⟨w.heap.size+1,0,none⟩=some (.int .i64 0):=(kc _ 0 (by omega) (by omega)).trans (q9 BC).2.1;have a2:w1.cell? ⟨w.heap.size+2,0,none⟩=some (.int .i64 0):=(kc _ 0 (by omega) (by omega)).trans (q9 BC).2.2.1;have b0:w1.frozen? ⟨w.heap.size,0,none⟩=false:=(kf _ 0 (by omega) (by omega)).trans (q9 BC).2.2.2.1;have b1:w1.frozen? ⟨w.heap.size+1,0,none⟩=false:=(kf _ 0 (by omega) (by omega)).trans (q9 BC).2.2.2.2.1;have b2:w1.frozen? ⟨w.heap.size+2,0,none⟩=false:=(kf _ 0 (by omega) (by omega)).trans (q9 BC).2.2.2.2.2;have hR1:=v7 ((q9 RDY).kept hk1 hr1 (q9 HF1));have hK1:=v7 hk1;clear hr1 hk1 kc kf)|(go_at_call 55;refine (q9 EI w1 (v6 s st0) (q9 hR1) rfl).mono ?_;rintro e w2 ⟨hk2,h2⟩;rw [q9 HRES] at h2;obtain ⟨v2,rfl,hn2,hr2,hf2,ho2,hp2⟩:=h2;obtain ⟨vb,rfl⟩:=hn2.ptr;have hn2:=v7 hn2;have hr2:=v7 hr2;have hf2:=v7 hf2;have hz2:=hk2.size;obtain ⟨kc,kf⟩:=qa5 hk2;have c0:w2.cell? ⟨w.heap.size,0,none⟩=some (.pointer none):=(kc _ 0 (by omega) (by omega)).trans a0;have c1:w2.cell? ⟨w.heap.size+1,0,none⟩=some (.int .i64 0):=(kc _ 0 (by omega) (by omega)).trans a1;have c2:w2.cell? ⟨w.heap.size+2,0,none⟩=some (.int .i64 0):=(kc _ 0 (by omega) (by omega)).trans a2;have d0:w2.frozen? ⟨w.heap.size,0,none⟩=false:=(kf _ 0 (by omega) (by omega)).trans b0;have d1:w2.frozen? ⟨w.heap.size+1,0,none⟩=false:=(kf _ 0 (by omega) (by omega)).trans b1;have d2:w2.frozen? ⟨w.heap.size+2,0,none⟩=false:=(kf _ 0 (by omega) (by omega)).trans b2;have hK2:=v7 ((q9 hK1).trans hk2);clear hk2 kc kf a0 a1 a2 b0 b1 b2)|(go_at_call 56;refine (qk6 (w.heap.size+3) s st2 0 (w2.setCell ⟨w.heap.size,0,none⟩ (.pointer (some ⟨vb,0,none⟩))) ((q9 hr2).setOther (by show ¬w.heap.size=w.heap.size+3;omega) _) (by rw [qa8];omega) (q9 HK)).mono ?_;rintro e w3 ⟨rfl,hk3⟩;have hz3:w2.heap.size≤w3.heap.size:=(by have:=hk3.size;rw [qa8] at this;exact this);obtain ⟨kc,kf⟩:=qa5 hk3;rw [qa8] at kc kf;have g0:w3.cell? ⟨w.heap.size,0,none⟩=some (.pointer (some ⟨vb,0,none⟩)):=(kc _ 0 (by omega) (by omega)).trans (by simp [go_sem,c0]);have g1:w3.cell? ⟨w.heap.size+1,0,none⟩=some (.int .i64 0):=(kc _ 0 (by omega) (by omega)).trans (by simp [go_sem,c1]);have g2:w3.cell? ⟨w.heap.size+2,0,none⟩=some (.int .i64 0):=(kc _ 0 (by omega) (by omega)).trans (by simp [go_sem,c2]);have i0:w3.frozen? ⟨w.heap.size,0,none⟩=false:=(kf _ 0 (by omega) (by omega)).trans (by simp [go_sem,d0]);have i1:w3.frozen? ⟨w.heap.size+1,0,none⟩=false:=(kf _ 0 (by omega) (by omega)).trans (by simp [go_sem,d1]);have i2:w3.frozen? ⟨w.heap.size+2,0,none⟩=false:=(kf _ 0 (by omega) (by omega)).trans (by simp [go_sem,d2]);have hK3:=v7 hk3;clear hk3 kc kf c0 c1 c2 d0 d1 d2;simp only [qa1]))
    refine leaves_cons (f:=53) (args:=#[.pointer (some ⟨w.heap.size,0,none⟩),.pointer (some ⟨w.heap.size+1,0,none⟩),.pointer (some ⟨w.heap.size+2,0,none⟩)]) (by simp) (by simp [go_sem]) ?_
    refine (qn5 w.heap.size (.pointer (some ⟨vb,0,none⟩)) (.int .i64 0) (.int .i64 0) _ _ [] w3 (by omega) g0 g1 g2 i0 i1 i2).mono ?_
    rintro e u' w9 ⟨rfl,rfl,k0,k1,k2,hb9⟩
    have HB:=v7 (((q9 hK3).below (((q9 hK2).below (q9 BB) (by omega) (by omega)).setCell (by show w.heap.size≤w.heap.size;omega) _) (by omega) (by rw [qa8];omega)).trans hb9)
    simp [Leaves,settle,results,Tryz.results36,go_sem,k0,k1,k2]
    exact ⟨q9 HB,rfl⟩
 ·rw [qq1,if_neg hs]
  have hb:decide ((200:Int)<(s.size:Int))=true:=decide_eq_true (by omega)
  clear hE hsz hs
  go_enter_defers Tryz.func36,Tryz.ntmps36
  go_wp2_with fail
  have q0:(((w.alloc (.cells #[.pointer none] 67)).alloc (.cells #[.int .i64 1] 41)).alloc (.cells #[.int .i64 0] 3)).cell? ⟨w.heap.size,0,none⟩=some (.pointer none):=by
   rw [World.cell?_alloc_past _ _ _ (by simp<;>omega),World.cell?_alloc_past _ _ _ (by simp),World.cell?_alloc_at _ _ _ _ rfl];rfl
  have q1:(((w.alloc (.cells #[.pointer none] 67)).alloc (.cells #[.int .i64 1] 41)).alloc (.cells #[.int .i64 0] 3)).cell? ⟨w.heap.size+1,0,none⟩=some (.int .i64 1):=by
   rw [World.cell?_alloc_past _ _ _ (by simp),World.cell?_alloc_at _ _ _ _ (by simp)];rfl
  have q2:(((w.alloc (.cells #[.pointer none] 67)).alloc (.cells #[.int .i64 1] 41)).alloc (.cells #[.int .i64 0] 3)).cell? ⟨w.heap.size+1+1,0,none⟩=some (.int .i64 0):=by
   rw [World.cell?_alloc_at _ _ _ _ (by simp)];rfl
  simp [bodyPostD,Leaves,results,Tryz.results36,go_sem,q0,q1,q2]
  exact ⟨x4 _ _ _ _,rfl⟩
end
section
theorem vb4:(Tryz.prog.info? 4).map (fun i=>(i.zero,i.size,i.bytes))=some (some (.bool false),1,1):=by kernel_rfl
def BoolsAt (w:World) (b n:Nat) (e:Nat→Bool):Prop:=∀j,j≤n→w.cell? ⟨b,j,none⟩=some (.bool (e j))
def qr6 (p:Pc) (t:List UInt8) (e:Nat→Bool) (k:Nat):Nat→Value:=fun j=>.bool (if j≤k then qj6 p t e j else false)
structure FromAt (w W:World) (p:Pc) (t:ByteArray) (e:Nat→Bool) (m k:Nat):Prop where
 row:W.rowIs (w.heap.size+1) 4 m (qr6 p t.data.toList e k)
 c0:W.cell? ⟨w.heap.size,0,none⟩=some (.int .i64 p.kind)
 c1:W.cell? ⟨w.heap.size,1,none⟩=some (.int .u8 p.c.toNat)
 lt:w.heap.size+1<W.heap.size
 below:Below w.heap.size w W
theorem getD_at (t:ByteArray) (k:Nat) (h:k<t.size):t.data.toList.getD k 0=t[k]:=by
 rw [List.getD_eq_getElem?_getD,List.getElem?_eq_getElem (by rw [j4];exact h),j9 t k h];rfl
theorem FromAt.drew {w W:World} {p:Pc} {t:ByteArray} {e:Nat→Bool} {m k:Nat} (h:FromAt w W p t e m k):FromAt w W.drew p t e m k:=⟨h.row.drew,h.c0,h.c1,h.lt,h.below.drew⟩
theorem FromAt.step {w W:World} {p:Pc} {t:ByteArray} {e:Nat→Bool} {m k:Nat} (h:FromAt w W p t e m k) (v:Bool) (hv:qj6 p t.data.toList e (k+1)=v):FromAt w (W.setCell ⟨w.heap.size+1,k+1,none⟩ (.bool v)) p t e m (k+1):=by
 refine ⟨(h.row.set (k+1) (.bool v)).congr fun i _=>?_, ?_, ?_,by simpa using h.lt,h.below.setCell (by show w.heap.size≤w.heap.size+1;omega) _⟩
 ·unfold qr6
  by_cases hi:i=k+1
  ·subst hi;simp [hv]
  ·rw [if_neg hi]
   by_cases hl:i≤k
   ·rw [if_pos hl,if_pos (by omega)]
   ·rw [if_neg hl,if_neg (by omega)]
 ·simp [go_sem,h.c0]
 ·simp [go_sem,h.c1]
theorem vu9 (w:World) (p:Pc) (t:ByteArray) (e:Nat→Bool) (m:Nat) (hk:(p.kind==2)=true):FromAt w ((w.alloc (.cells #[.int .i64 p.kind,.int .u8 p.c.toNat] 262)).alloc (.cells ((madeCells #[.bool false] m).setIfInBounds 0 (.bool (e 0))) 4)) p t e m 0:=by
 have hz:((madeCells #[.bool false] m).setIfInBounds 0 (Value.bool (e 0))).size=m:=by rw [Array.size_setIfInBounds];exact size_madeCells _ _
 have hr:=World.rowIs_alloc (w.alloc (.cells #[.int .i64 p.kind,.int .u8 p.c.toNat] 262)) ((madeCells #[.bool false] m).setIfInBounds 0 (.bool (e 0))) 4 (qr6 p t.data.toList e 0) (fun i hi=>by
  rw [hz] at hi
  rw [Array.getElem?_setIfInBounds]
  by_cases h0:i=0
  ·subst h0
   rw [if_pos rfl,if_pos (by rw [size_madeCells _ _];exact hi),qr6,if_pos (Nat.le_refl _),qj6,hk];rfl
  ·rw [if_neg (fun h=>h0 h.symm),qr6,if_neg (by omega)]
   simp [madeCells,hi,Nat.mod_one])
 rw [hz,show (w.alloc (.cells #[.int .i64 p.kind,.int .u8 p.c.toNat] 262)).heap.size=w.heap.size+1 by simp] at hr
 refine ⟨hr, ?_, ?_,by simp,qb2 _ _ _⟩
 ·rw [World.cell?_alloc_past _ _ _ (by simp),World.cell?_alloc_at _ _ _ _ rfl];rfl
 ·rw [World.cell?_alloc_past _ _ _ (by simp),World.cell?_alloc_at _ _ _ _ rfl];rfl
theorem vu8 (w:World) (p:Pc) (t:ByteArray) (e:Nat→Bool) (m:Nat) (hk:(p.kind==2)=false):FromAt w ((w.alloc (.cells #[.int .i64 p.kind,.int .u8 p.c.toNat] 262)).alloc (.cells (madeCells #[.bool false] m) 4)) p t e m 0:=by
 have hr:=World.rowIs_made (w.alloc (.cells #[.int .i64 p.kind,.int .u8 p.c.toNat] 262)) (.bool false) m 4
 rw [show (w.alloc (.cells #[.int .i64 p.kind,.int .u8 p.c.toNat] 262)).heap.size=w.heap.size+1 by simp] at hr
 refine ⟨hr.congr fun i _=>?_, ?_, ?_,by simp,qb2 _ _ _⟩
 ·unfold qr6
  split
  ·rename_i h;obtain rfl:i=0:=by omega
   rw [qj6,hk];rfl
  ·rfl
 ·rw [World.cell?_alloc_past _ _ _ (by simp),World.cell?_alloc_at _ _ _ _ rfl];rfl
 ·rw [World.cell?_alloc_past _ _ _ (by simp),World.cell?_alloc_at _ _ _ _ rfl];rfl
theorem from_any (p:Pc) (e:Nat→Bool) (eb cap:Nat) (t:ByteArray) (ht:t.size≤1000) (w:World) (he:BoolsAt w eb t.size e) (hlt:eb<w.heap.size) :
  Calls Tryz.prog 204 #[pcV p,.slice (some ⟨eb,0,none⟩) (t.size+1) cap,.string t] w fun en w'=>∃nb,en=.returned (.slice (some ⟨nb,0,none⟩) (t.size+1) (t.size+1))∧w.heap.size≤nb∧nb<w'.heap.size∧BoolsAt w' nb t.size (qj6 p t.data.toList e)∧Below w.heap.size w w':=by
 obtain ⟨m,hm⟩:∃m,t.size+1=m:=⟨_,rfl⟩
 have hmk:=run_make_row' (P:=Tryz.prog) 259 4 (.bool false) 1 Tryz.underlying259 vb4 rfl .i64 .i64 m (by omega) (by omega)
 rw [hm]
 have hm0:0<m:=by omega
 have HE:=v7 he
 have e0:=he 0 (Nat.zero_le _)
 have l1:eb<w.heap.size+1:=by omega
 have d0:¬w.heap.size+1=eb:=by omega
 have d1:¬eb=w.heap.size+1:=by omega
 have ROW0:=v7 (World.rowIs_made (w.alloc (.cells #[.int .i64 p.kind,.int .u8 p.c.toNat] 262)) (.bool false) m 4)
 have hrc:=(q9 ROW0).cell (i:=0) hm0
 have hrf:=(q9 ROW0).frozen 0
 rw [show (w.alloc (.cells #[.int .i64 p.kind,.int .u8 p.c.toNat] 262)).heap.size=w.heap.size+1 by simp] at hrc hrf ROW0
 clear he
 cases hk2:(p.kind==2)
 ·have ST:Hid (FromAt w ((w.alloc (.cells #[.int .i64 p.kind,.int .u8 p.c.toNat] 262)).alloc (.cells (madeCells #[.bool false] m) 4)) p t e m 0):=v7 (vu8 w p t e m hk2)
  conv=>arg 3;simp only [pcV]
  go_enter Tryz.func204,Tryz.ntmps204
  go_wp2_with fail
  clear hrc hrf e0 ROW0
  go_loopw [22] (fun i wr=>∃k:Nat,k≤t.size∧i=.int .i64 k∧Hid (FromAt w wr p t e m k)) (fun i _=>t.size - (intOf i).toNat)
  case atStart=>exact ⟨0,Nat.zero_le _,rfl,ST⟩
  case round=>
   obtain ⟨k,hk,rfl,hF⟩:=hrel
   have fc0:=(q9 hF).c0
   have fc1:=(q9 hF).c1
   have hz:=(q9 hF).lt
   by_cases hlt:k<t.size
   ·have ek:=((q9 hF).below.cell (p:=⟨eb,k,none⟩) (by assumption)).trans (q9 HE k (by omega))
    have rk:=(q9 hF).row.cell (i:=k+1) (by omega)
    have rf:=(q9 hF).row.frozen (k+1)
    have hkm:k+1<m:=by omega
    have hkm':k<m:=by omega
    have hi0:(0:Int)≤(k:Int)+1:=by omega
    have hi1:(k:Int)+1<(m:Int):=by omega
    have hi2:(0:Int)≤(k:Int):=by omega
    have hi3:(k:Int)<(m:Int):=by omega
    have hi4:(k:Int)<(t.size:Int):=by omega
    have hwr:IntKind.i64.wrap ((k:Int)+1)=(k:Int)+1:=IntWalk.i64_in _ (by omega)
    cases hk1:(p.kind==1)
    ·cases hek:e k
     ·rw [hek] at ek
      go_wp2_with fail
      go_region
      all_goals
       go_wp2_with fail
       go_roundw
       case rel=>exact ⟨k+1,by omega,by go_num,v7 ((q9 hF).drew.step _ (by rw [qj6,hk2,hk1,hek];simp))⟩
       case measure=>simp [intOf];omega
     ·rw [hek] at ek
      cases hx:(t[k]==p.c)
      all_goals
       have hx':=(qr0 t[k] p.c).trans hx
       go_wp2_with fail
       go_region_held3 (fun W=>W.cell? ⟨eb,k,none⟩=some (.bool true)∧W.cell? ⟨w.heap.size,1,none⟩=some (.int .u8 p.c.toNat)) (go_keep) (fail)
       go_wp2_with fail
       go_roundw
       case rel=>exact ⟨k+1,by omega,by go_num,v7 ((q9 hF).drew.step _ (by rw [qj6,hk2,hk1,hek,getD_at t k hlt,hx];simp))⟩
       case measure=>simp [intOf];omega
    ·obtain ⟨bk,hbk⟩:∃b,e k=b:=⟨_,rfl⟩
     rw [hbk] at ek
     go_wp2_with fail
     go_roundw
     case rel=>exact ⟨k+1,by omega,by go_num,v7 ((q9 hF).step _ (by rw [qj6,hk2,hk1,hbk];simp))⟩
     case measure=>simp [intOf];omega
   ·go_wp2_with fail
    go_ret
    obtain rfl:k=t.size:=by omega
    exact ⟨_,rfl,by omega,hz,fun j hj=>by have:=(q9 hF).row.cell (i:=j) (by omega);rw [this,qr6,if_pos hj],(q9 hF).below⟩
 ·have ST:Hid (FromAt w ((w.alloc (.cells #[.int .i64 p.kind,.int .u8 p.c.toNat] 262)).alloc (.cells ((madeCells #[.bool false] m).setIfInBounds 0 (.bool (e 0))) 4)) p t e m 0):=v7 (vu9 w p t e m hk2)
  conv=>arg 3;simp only [pcV]
  go_enter Tryz.func204,Tryz.ntmps204
  go_wp2_with fail
  clear hrc hrf e0 ROW0
  go_loopw [22] (fun i wr=>∃k:Nat,k≤t.size∧i=.int .i64 k∧Hid (FromAt w wr p t e m k)) (fun i _=>t.size - (intOf i).toNat)
  case atStart=>exact ⟨0,Nat.zero_le _,rfl,ST⟩
  case round=>
   obtain ⟨k,hk,rfl,hF⟩:=hrel
   have fc0:=(q9 hF).c0
   have hz:=(q9 hF).lt
   by_cases hlt:k<t.size
   ·have ek:=((q9 hF).below.cell (p:=⟨eb,k+1,none⟩) (by assumption)).trans (q9 HE (k+1) (by omega))
    have rk:=(q9 hF).row.cell (i:=k+1) (by omega)
    have rf:=(q9 hF).row.frozen (k+1)
    have rk0:wr.cell? ⟨w.heap.size+1,k,none⟩=some (.bool (qj6 p t.data.toList e k)):=by have:=(q9 hF).row.cell (i:=k) (by omega);rw [this,qr6,if_pos (Nat.le_refl _)]
    obtain ⟨nk,hnk⟩:∃b,qj6 p t.data.toList e k=b:=⟨_,rfl⟩
    rw [hnk] at rk0
    have HNK:=v7 hnk
    clear hnk
    have hkm:k+1<m:=by omega
    have hkm':k<m:=by omega
    have hi0:(0:Int)≤(k:Int)+1:=by omega
    have hi1:(k:Int)+1<(m:Int):=by omega
    cases hek:e (k+1)
    all_goals
     rw [hek] at ek
     go_wp2_with fail
     go_roundw
     case rel=>exact ⟨k+1,by omega,by go_num,v7 ((q9 hF).step _ (by rw [qj6,hk2,hek,q9 HNK];simp))⟩
     case measure=>simp [intOf];omega
   ·go_wp2_with fail
    go_ret
    obtain rfl:k=t.size:=by omega
    exact ⟨_,rfl,by omega,hz,fun j hj=>by have:=(q9 hF).row.cell (i:=j) (by omega);rw [this,qr6,if_pos hj],(q9 hF).below⟩
end
section
theorem je6 (ps:List Pc):∀(k:Nat) (p:Pc),ps[k]?=some p→(qm8 ps)[k * 2]?=some (.int .i64 p.kind)∧(qm8 ps)[k * 2+1]?=some (.int .u8 p.c.toNat):=by
 induction ps with
 | nil=>intro k p h;simp at h
 | cons q r ih=>
  intro k p h
  have hc:qm8 (q::r)=.int .i64 q.kind::.int .u8 q.c.toNat::qm8 r:=rfl
  rw [hc]
  cases k with
  | zero=>simp at h;subst h;exact ⟨rfl,rfl⟩
  | succ k=>
   have:=ih k p (by simpa using h)
   rw [show (k+1) * 2=k * 2+1+1 by omega]
   exact ⟨by simpa using this.1,by simpa using this.2⟩
theorem fit_more {ps:List Pc} {k:Nat} {p:Pc} {t:List UInt8} {e:Nat→Bool} (h:ps[k]?=some p):qr5 (ps.drop k) t e=qr5 (ps.drop (k+1)) t (qj6 p t e):=by
 obtain ⟨hk,he⟩:=List.getElem?_eq_some_iff.1 h
 rw [List.drop_eq_getElem_cons hk,he,qr5]
theorem fit_end {ps:List Pc} {k:Nat} {t:List UInt8} {e:Nat→Bool} (h:ps.length≤k):qr5 (ps.drop k) t e=e t.length:=by
 rw [List.drop_of_length_le h,qr5]
theorem vg5 (e:List UInt8):(p:List UInt8)→∀ps,qk3 e p=some ps→ps.length≤p.length
 | [],ps,h=>by rw [qk3] at h;injection h with h;subst h;simp
 | [c],ps,h=>by
  simp only [qk3] at h
  split at h
  ·cases h
  ·injection h with h;subst h;simp
 | c::d::t,ps,h=>by
  simp only [qk3] at h
  split at h
  ·cases hq:qk3 e t with
   | none=>rw [hq] at h;cases h
   | some q=>rw [hq] at h;injection h with h;subst h;have:=vg5 e t q hq;simp;omega
  ·cases hq:qk3 e (d::t) with
   | none=>rw [hq] at h;cases h
   | some q=>rw [hq] at h;injection h with h;subst h;have:=vg5 e (d::t) q hq;simp at this ⊢;omega
theorem je5 {base e size n:Nat} {w:World} {v:Value} {xs:List Value} (h:w.ownsRow base e size v n xs):∃a c,v=.slice a n c∧∀(j:Nat) (u:Value),xs[j]?=some u→∃g,a=some ⟨g,0,none⟩∧w.cell? ⟨g,j,none⟩=some u∧g<w.heap.size∧base≤g:=by
 have h0:=h
 rcases h.2 with ⟨rfl,hn⟩|⟨g,cap,cur,rfl,hb,hg,_⟩
 ·refine ⟨none,0,by rw [hn],fun j u hu=>?_⟩
  have:=h.1;rw [hn,Nat.zero_mul] at this
  rw [List.eq_nil_of_length_eq_zero this] at hu;simp at hu
 ·refine ⟨some ⟨g,0,none⟩,cap,rfl,fun j u hu=>⟨g,rfl, ?_,(Array.getElem?_eq_some_iff.1 hg).1,hb⟩⟩
  have:=h0.cells (g:=g) rfl j u hu
  have hadd:(⟨g,0,none⟩:Addr).add j=⟨g,j,none⟩:=by unfold Addr.add;split<;>simp_all
  rwa [hadd] at this
theorem jd2 (w:World) (m:Nat):∀j,j<m→(w.alloc (.cells ((madeCells #[.bool false] m).setIfInBounds 0 (.bool true)) 4)).cell? ⟨w.heap.size,j,none⟩=some (.bool (j==0)):=by
 have hz:((madeCells #[.bool false] m).setIfInBounds 0 (Value.bool true)).size=m:=by rw [Array.size_setIfInBounds];exact size_madeCells _ _
 have hr:=World.rowIs_alloc w ((madeCells #[.bool false] m).setIfInBounds 0 (.bool true)) 4 (fun j=>.bool (j==0)) (fun i hi=>by
  rw [hz] at hi
  rw [Array.getElem?_setIfInBounds]
  by_cases h0:i=0
  ·subst h0
   rw [if_pos rfl,if_pos (by rw [size_madeCells _ _];exact hi)];rfl
  ·rw [if_neg (fun h=>h0 h.symm)]
   simp [madeCells,hi,Nat.mod_one,h0])
 intro j hj
 exact hr.cell (by rw [hz];exact hj)
theorem BoolsAt.below {w w':World} {b n:Nat} {e:Nat→Bool} (h:BoolsAt w b n e) (hb:Below w.heap.size w w') (hlt:b<w.heap.size):BoolsAt w' b n e:=fun j hj=>(hb.cell (p:=⟨b,j,none⟩) hlt).trans (h j hj)
theorem fits_any (pat esc t:ByteArray) (hp:pat.size≤200) (ht:t.size≤1000) (w:World) :
  Calls Tryz.prog 156 #[.string pat,.string esc,.string t] w fun en w'=>en=.returned (.bool (vn9 pat.data.toList esc.data.toList t.data.toList))∧Below w.heap.size w w':=by
 have CUT:=v7 (vt7 pat esc hp w)
 unfold vn9
 cases hc:qk3 esc.data.toList pat.data.toList with
 | none=>
  rw [hc] at CUT
  clear hc
  go_enter Tryz.func156,Tryz.ntmps156
  go_wp2_with (go_at_call 203;refine (q9 CUT).mono ?_;rintro en w1 ⟨hb1,h1⟩;subst h1)
  go_ret
  exact ⟨rfl,hb1⟩
 | some ps=>
  rw [hc] at CUT
  have hpl:=vg5 _ _ _ hc
  rw [j4] at hpl
  clear hc
  obtain ⟨m,hm⟩:∃m,t.size+1=m:=⟨_,rfl⟩
  have hmk:=run_make_row' (P:=Tryz.prog) 259 4 (.bool false) 1 Tryz.underlying259 vb4 rfl .i64 .i64 m (by omega) (by omega)
  have hm0:0<m:=by omega
  have hmi:(t.size:Int)+1=(m:Int):=by omega
  obtain ⟨R,hR⟩:∃r,qr5 ps t.data.toList (fun j=>j==0)=r:=⟨_,rfl⟩
  show Calls _ _ _ _ (fun en w'=>en=.returned (.bool (qr5 ps t.data.toList fun j=>j==0))∧Below w.heap.size w w')
  rw [hR]
  have HR:=v7 hR
  clear hR
  obtain ⟨n,hn⟩:∃n,ps.length=n:=⟨_,rfl⟩
  rw [hn] at hpl
  have HN:=v7 hn
  go_enter Tryz.func156,Tryz.ntmps156
  go_wp2_with (go_at_call 203;refine (q9 CUT).mono ?_;rintro en w1 ⟨hb1,v1,rfl,hown⟩;obtain ⟨va,vc,rfl,hat⟩:=je5 hown;rw [q9 HN];have hz1:=hb1.size;have hrc:=(World.rowIs_made w1 (.bool false) m 4).cell (i:=0) hm0;have hrf:=(World.rowIs_made w1 (.bool false) m 4).frozen 0)
  have HAT:=v7 hat
  have ST:=v7 (jd2 w1 m)
  have hb1:=v7 hb1
  clear hown hrc hrf hat hn
  go_loopw [9,28] (fun s9 i wr=>∃(k eb:Nat) (f:Nat→Bool),k≤n∧i=.int .i64 k∧s9=.slice (some ⟨eb,0,none⟩) m m∧Hid (BoolsAt wr eb t.size f)∧eb<wr.heap.size∧Hid (R=qr5 (ps.drop k) t.data.toList f)∧Hid (Below w1.heap.size w1 wr)) (fun _ i _=>n - (intOf i).toNat)
  case atStart=>exact ⟨0,w1.heap.size,fun j=>j==0,Nat.zero_le _,rfl,rfl,v7 (fun j hj=>q9 ST j (by omega)),by simp,v7 (by rw [List.drop_zero,q9 HR]),v7 ((Below.refl _ _).alloc (Nat.le_refl _) _)⟩
  case round=>
   obtain ⟨k,eb,f,hk,rfl,rfl,hf,heb,hh,hbel⟩:=hrel
   have hzr:=(q9 hbel).size
   by_cases hlt:k<n
   ·obtain ⟨p,hpk⟩:∃p,ps[k]?=some p:=⟨_,List.getElem?_eq_getElem (by rw [q9 HN];exact hlt)⟩
    obtain ⟨q0,q1⟩:=je6 ps k p hpk
    obtain ⟨g,rfl,hc0,hg,_⟩:=q9 HAT _ _ q0
    obtain ⟨g',hgg,hc1,_,_⟩:=q9 HAT _ _ q1
    obtain rfl:g=g':=by simpa using hgg
    have d0:=((q9 hbel).cell (p:=⟨g,k * 2,none⟩) hg).trans hc0
    have d1:=((q9 hbel).cell (p:=⟨g,k * 2+1,none⟩) hg).trans hc1
    have HH:Hid (R=qr5 (ps.drop (k+1)) t.data.toList (qj6 p t.data.toList f)):=v7 (by rw [q9 hh,fit_more hpk])
    have FR:=v7 (fun w2 (h:BoolsAt w2 eb t.size f) (hl:eb<w2.heap.size)=>from_any p f eb m t ht w2 h hl)
    rw [hm] at FR
    clear hh hpk q0 q1 hgg hc0 hc1
    go_wp2_with (go_at_call 204;refine (q9 FR _ ((q9 hf).below ((Below.refl _ _).alloc (Nat.le_refl _) _) heb) (by simp;omega)).mono ?_;rintro en w2 ⟨nb,rfl,hnb,hnl,hbs,hb2⟩)
    go_roundw
    case rel=>exact ⟨k+1,nb,_,by omega,by go_num,rfl,v7 hbs,hnl,HH,v7 ((q9 hbel).trans ((qb5 hb2).mono (by omega)))⟩
    case measure=>simp [intOf];omega
   ·have HH:Hid (R=f t.size):=v7 (by rw [q9 hh,fit_end (by rw [q9 HN];omega),j4])
    have hfl:=q9 hf t.size (Nat.le_refl _)
    have htm:t.size<m:=by omega
    clear hh
    go_wp2_with fail
    go_ret
    exact ⟨by rw [q9 HH];rfl,v8 (q9 hb1) (q9 hbel)⟩
end
section
structure AmAt (w W:World) (F:Nat) (x f:V):Prop where
 x0:W.cell? ⟨w.heap.size,0,none⟩=some (.int .i64 x.kind)
 x1:W.cell? ⟨w.heap.size,1,none⟩=some (.int .i64 x.num)
 x2:W.cell? ⟨w.heap.size,2,none⟩=some (.string (BS x.str))
 r0:W.cell? ⟨w.heap.size+1,0,none⟩=some (.int .i64 0)
 r1:W.cell? ⟨w.heap.size+1,1,none⟩=some (.int .i64 0)
 r2:W.cell? ⟨w.heap.size+1,2,none⟩=some (.string ⟨#[]⟩)
 f0:W.cell? ⟨F,0,none⟩=some (.int .i64 f.kind)
 f1:W.cell? ⟨F,1,none⟩=some (.int .i64 f.num)
 f2:W.cell? ⟨F,2,none⟩=some (.string (BS f.str))
 fr:∀j,W.frozen? ⟨w.heap.size+1,j,none⟩=false
 ff:∀j,W.frozen? ⟨F,j,none⟩=false
 ge:w.heap.size+1<F
 lt:F<W.heap.size
 below:Below w.heap.size w W
theorem AmAt.next {w W W':World} {F:Nat} {x f:V} (h:AmAt w W F x f) (hb:Below W.heap.size W W'):AmAt w W' F x f:=by
 obtain ⟨hc,hf⟩:=v9 hb
 have hl:=h.lt
 have hg:=h.ge
 exact ⟨(hc _ 0 (by omega)).trans h.x0,(hc _ 1 (by omega)).trans h.x1,(hc _ 2 (by omega)).trans h.x2,(hc _ 0 (by omega)).trans h.r0,(hc _ 1 (by omega)).trans h.r1,(hc _ 2 (by omega)).trans h.r2,(hc _ 0 (by omega)).trans h.f0,(hc _ 1 (by omega)).trans h.f1,(hc _ 2 (by omega)).trans h.f2,fun j=>(hf _ j (by omega)).trans (h.fr j),fun j=>(hf _ j (by omega)).trans (h.ff j),hg,Nat.lt_of_lt_of_le hl hb.size,v8 h.below hb⟩
theorem AmAt.drew {w W:World} {F:Nat} {x f:V} (h:AmAt w W F x f):AmAt w W.drew F x f:=h.next ((Below.refl _ _).drew)
theorem TextsAt.any {lo:Nat} {w:World} {v:Value} {ts:List (List UInt8)} (h:TextsAt lo w v ts):∃a c,v=.slice a ts.length c∧∀(j:Nat) (t:List UInt8),ts[j]?=some t→∃g,a=some ⟨g,0,none⟩∧g<w.heap.size∧w.cell? ⟨g,j,none⟩=some (.string (BS t)):=by
 rcases h with ⟨rfl,rfl⟩|⟨g,c,rfl,_,h2,h3⟩
 ·exact ⟨none,0,rfl,fun j t hj=>by simp at hj⟩
 ·exact ⟨_,c,rfl,fun j t hj=>⟨g,rfl,h2,h3 j t hj⟩⟩
theorem AmAt.store {w W:World} {F:Nat} {x f:V} (h:AmAt w W F x f) (f':V):AmAt w (((W.setCell ⟨F,0,none⟩ (.int .i64 f'.kind)).setCell ⟨F,1,none⟩ (.int .i64 f'.num)).setCell ⟨F,2,none⟩ (.string (BS f'.str))) F x f':=by
 have hg:=h.ge
 have d0:¬F=w.heap.size:=by omega
 have d1:¬F=w.heap.size+1:=by omega
 have d2:¬w.heap.size=F:=by omega
 have d3:¬w.heap.size+1=F:=by omega
 refine ⟨?_, ?_, ?_, ?_, ?_, ?_, ?_, ?_, ?_,fun j=>?_,fun j=>?_,hg,by simpa using h.lt,((h.below.setCell (by show w.heap.size≤F;omega) _).setCell (by show w.heap.size≤F;omega) _).setCell (by show w.heap.size≤F;omega) _⟩
 ·simp [go_sem,h.x0]
 ·simp [go_sem,h.x1]
 ·simp [go_sem,h.x2]
 ·simp [go_sem,h.r0]
 ·simp [go_sem,h.r1]
 ·simp [go_sem,h.r2]
 ·simp [go_sem,h.f0]
 ·simp [go_sem,h.f1]
 ·simp [go_sem,h.f2]
 ·simp [go_sem,h.fr]
 ·simp [go_sem,h.ff]
theorem am_start (w w0:World) (x:V) (hb:Below ((w.alloc (.cells #[.int .i64 x.kind,.int .i64 x.num,.string (BS x.str)] 26)).alloc (.cells #[.int .i64 0,.int .i64 0,.string ⟨#[]⟩] 26)).heap.size ((w.alloc (.cells #[.int .i64 x.kind,.int .i64 x.num,.string (BS x.str)] 26)).alloc (.cells #[.int .i64 0,.int .i64 0,.string ⟨#[]⟩] 26)) w0) :
  AmAt w (w0.alloc (.cells #[.int .i64 (bV false).kind,.int .i64 (bV false).num,.string (BS (bV false).str)] 26)) w0.heap.size x (bV false):=by
 obtain ⟨hc,hf⟩:=v9 hb
 have hz:=hb.size
 simp at hz
 refine ⟨?_, ?_, ?_, ?_, ?_, ?_, ?_, ?_, ?_,fun j=>?_,fun j=>?_,by omega,by simp,qe3 (v8 (qb2 w _ _) hb) _⟩
 ·rw [World.cell?_alloc_past _ _ _ (by omega),hc _ 0 (by simp;omega),World.cell?_alloc_past _ _ _ (by simp),World.cell?_alloc_at _ _ _ _ rfl];rfl
 ·rw [World.cell?_alloc_past _ _ _ (by omega),hc _ 1 (by simp;omega),World.cell?_alloc_past _ _ _ (by simp),World.cell?_alloc_at _ _ _ _ rfl];rfl
 ·rw [World.cell?_alloc_past _ _ _ (by omega),hc _ 2 (by simp;omega),World.cell?_alloc_past _ _ _ (by simp),World.cell?_alloc_at _ _ _ _ rfl];rfl
 ·rw [World.cell?_alloc_past _ _ _ (by omega),hc _ 0 (by simp),World.cell?_alloc_at _ _ _ _ (by simp)];rfl
 ·rw [World.cell?_alloc_past _ _ _ (by omega),hc _ 1 (by simp),World.cell?_alloc_at _ _ _ _ (by simp)];rfl
 ·rw [World.cell?_alloc_past _ _ _ (by omega),hc _ 2 (by simp),World.cell?_alloc_at _ _ _ _ (by simp)];rfl
 ·rw [World.cell?_alloc_at _ _ _ _ rfl];rfl
 ·rw [World.cell?_alloc_at _ _ _ _ rfl];rfl
 ·rw [World.cell?_alloc_at _ _ _ _ rfl];rfl
 ·rw [World.frozen?_alloc_past _ _ _ (by omega),hf _ j (by simp),World.frozen?_alloc_at _ _ _ _ (by simp)]
 ·rw [World.frozen?_alloc_at _ _ _ _ rfl]
def ve2 (x f:V) (t:List UInt8):V:=orV f (eqV x (tV t))
theorem am_more {x f:V} {ts:List (List UInt8)} {k:Nat} {t:List UInt8} (h:ts[k]?=some t):(ts.drop k).foldl (ve2 x) f=(ts.drop (k+1)).foldl (ve2 x) (orV f (eqV x (tV t))):=by
 obtain ⟨hk,he⟩:=List.getElem?_eq_some_iff.1 h
 rw [List.drop_eq_getElem_cons hk,he];rfl
theorem am_end {x f:V} {ts:List (List UInt8)} {k:Nat} (h:ts.length≤k):(ts.drop k).foldl (ve2 x) f=f:=by
 rw [List.drop_of_length_le h];rfl
theorem among_any (lo:Nat) (t:Ast) (hts:(qb4 t).texts.length≤1000) (w:World) (b:Nat) (x:V) (h:IsNode lo w (.pointer (some ⟨b,0,none⟩)) t) :
  Calls Tryz.prog 108 #[.pointer (some ⟨b,0,none⟩),vV x] w fun e w'=>e=.returned (vV (qu1 x (qb4 t).texts))∧Below w.heap.size w w':=by
 obtain ⟨b',sv,hb,hnode,_⟩:=h.parts
 obtain rfl:b=b':=by simpa using hb
 obtain ⟨tv,c6,htx⟩:=hnode.c6
 have hbw:=hnode.within
 obtain ⟨ta,tc,rfl,htxt⟩:=htx.any
 obtain ⟨R,hR⟩:∃r,qu1 x (qb4 t).texts=r:=⟨_,rfl⟩
 rw [hR]
 have HR:Hid ((qb4 t).texts.foldl (ve2 x) (bV false)=R):=v7 hR
 obtain ⟨ts,hts'⟩:∃l,(qb4 t).texts=l:=⟨_,rfl⟩
 rw [hts'] at hts HR c6 htxt
 obtain ⟨n,hn⟩:∃n,ts.length=n:=⟨_,rfl⟩
 rw [hn] at hts c6
 have HN:=v7 hn
 have HT:=v7 htxt
 clear hR hts' hnode htx hb h hn htxt
 conv=>arg 3;simp only [vV]
 have m1:b<w.heap.size+1:=by omega
 have m2:b<w.heap.size+1+1:=by omega
 go_enter Tryz.func108,Tryz.ntmps108
 go_wp2_with (go_at_call 64;refine (qi1 false _).mono ?_;rintro e w0 ⟨rfl,hb0⟩;have c6':w0.cell? ⟨b,6,none⟩=some (.slice ta n tc):=((v9 hb0).1 _ 6 (by simp;omega)).trans (by rw [World.cell?_alloc_past _ _ _ (by simp;omega),World.cell?_alloc_past _ _ _ (by omega)];exact c6);have hz0:w.heap.size+1<w0.heap.size:=(by have:=hb0.size;simp at this;omega);have hbz:b<w0.heap.size:=(by omega);have AM:Hid (AmAt w (w0.alloc (.cells #[.int .i64 (bV false).kind,.int .i64 (bV false).num,.string (BS (bV false).str)] 26)) w0.heap.size x (bV false)):=v7 (am_start w w0 x hb0);clear hb0;simp only [vV])
 go_loopw [14] (fun i wr=>∃(k:Nat) (f:V),k≤n∧i=.int .i64 k∧Hid (R=(ts.drop k).foldl (ve2 x) f)∧Hid (AmAt w wr w0.heap.size x f)) (fun i _=>n - (intOf i).toNat)
 case atStart=>exact ⟨0,bV false,Nat.zero_le _,rfl,v7 (by rw [List.drop_zero,q9 HR]),AM⟩
 case round=>
  obtain ⟨k,f,hk,rfl,hh,hAM⟩:=hrel
  by_cases hlt:k<n
  ·obtain ⟨s,hs⟩:∃s,ts[k]?=some s:=⟨_,List.getElem?_eq_getElem (by rw [q9 HN];exact hlt)⟩
   obtain ⟨g,rfl,hg2,hcs⟩:=q9 HT k s hs
   have dg:=((q9 hAM).below.cell (p:=⟨g,k,none⟩) hg2).trans hcs
   have HH:Hid (R=(ts.drop (k+1)).foldl (ve2 x) (orV f (eqV x (tV s)))):=v7 (by rw [q9 hh,am_more hs])
   have AM0:=v7 (q9 hAM).drew
   clear hh hs hcs AM hAM
   go_wp2_with fail
   obtain ⟨x0_0,x1_0,x2_0,r0_0,r1_0,r2_0,f0_0,f1_0,f2_0,fr_0,ff_0,ge_0,lt_0,bel_0⟩:=q9 AM0
   go_region_with (first|(go_at_call 63;refine (vs7 (BS s) _).mono ?_;rw [qm6];rintro e w1 ⟨rfl,hb1⟩;have AM1:=v7 ((q9 AM0).next hb1);obtain ⟨x0_1,x1_1,x2_1,r0_1,r1_1,r2_1,f0_1,f1_1,f2_1,fr_1,ff_1,ge_1,lt_1,bel_1⟩:=q9 AM1;clear hb1)|(go_at_call 155;refine (qz4 x (tV s) _).mono ?_;rintro e w2 ⟨rfl,hb2⟩;have AM2:=v7 ((q9 AM1).next hb2);obtain ⟨x0_2,x1_2,x2_2,r0_2,r1_2,r2_2,f0_2,f1_2,f2_2,fr_2,ff_2,ge_2,lt_2,bel_2⟩:=q9 AM2;clear hb2)|(go_at_call 154;refine (vOr_any f (eqV x (tV s)) _).mono ?_;rintro e w3 ⟨rfl,hb3⟩;have AM3:=v7 ((q9 AM2).next hb3);obtain ⟨x0_3,x1_3,x2_3,r0_3,r1_3,r2_3,f0_3,f1_3,f2_3,fr_3,ff_3,ge_3,lt_3,bel_3⟩:=q9 AM3;clear hb3;simp only [vV]))
   all_goals
    go_wp2_with fail
    go_roundw
    case rel=>exact ⟨k+1,_,by omega,by go_num,HH,v7 ((q9 AM3).store _)⟩
    case measure=>simp [intOf];omega
  ·have HH:Hid (R=f):=v7 (by rw [q9 hh,am_end (by rw [q9 HN];omega)])
   have AM0:=hAM
   clear hh AM hAM
   obtain ⟨x0_0,x1_0,x2_0,r0_0,r1_0,r2_0,f0_0,f1_0,f2_0,fr_0,ff_0,ge_0,lt_0,bel_0⟩:=q9 AM0
   go_wp2_with fail
   refine bodyPost_ret (by simp [results,Tryz.results108,go_sem,r0_0,r1_0,r2_0]<;>rfl) rfl ⟨?_, ?_⟩
   ·rw [q9 HH];rfl
   ·exact ((bel_0.setCell (by simp) _).setCell (by simp) _).setCell (by simp) _
end
section
structure JoinAt (w W:World) (x y z:V):Prop where
 x0:W.cell? ⟨w.heap.size,0,none⟩=some (.int .i64 x.kind)
 x1:W.cell? ⟨w.heap.size,1,none⟩=some (.int .i64 x.num)
 x2:W.cell? ⟨w.heap.size,2,none⟩=some (.string (BS x.str))
 y0:W.cell? ⟨w.heap.size+1,0,none⟩=some (.int .i64 y.kind)
 y1:W.cell? ⟨w.heap.size+1,1,none⟩=some (.int .i64 y.num)
 y2:W.cell? ⟨w.heap.size+1,2,none⟩=some (.string (BS y.str))
 z0:W.cell? ⟨w.heap.size+2,0,none⟩=some (.int .i64 z.kind)
 z1:W.cell? ⟨w.heap.size+2,1,none⟩=some (.int .i64 z.num)
 z2:W.cell? ⟨w.heap.size+2,2,none⟩=some (.string (BS z.str))
 r0:W.cell? ⟨w.heap.size+3,0,none⟩=some (.int .i64 0)
 r1:W.cell? ⟨w.heap.size+3,1,none⟩=some (.int .i64 0)
 r2:W.cell? ⟨w.heap.size+3,2,none⟩=some (.string ⟨#[]⟩)
 fz:∀j,W.frozen? ⟨w.heap.size+3,j,none⟩=false
 lt:w.heap.size+3<W.heap.size
 below:Below w.heap.size w W
theorem qy1 (w:World) (x y z:V):JoinAt w ((((w.alloc (.cells #[.int .i64 x.kind,.int .i64 x.num,.string (BS x.str)] 26)).alloc (.cells #[.int .i64 y.kind,.int .i64 y.num,.string (BS y.str)] 26)).alloc (.cells #[.int .i64 z.kind,.int .i64 z.num,.string (BS z.str)] 26)).alloc (.cells #[.int .i64 0,.int .i64 0,.string ⟨#[]⟩] 26)) x y z:=⟨by rw [World.cell?_alloc_past _ _ _ (by simp<;>omega),World.cell?_alloc_past _ _ _ (by simp<;>omega),World.cell?_alloc_past _ _ _ (by simp),World.cell?_alloc_at _ _ _ _ rfl];rfl,by rw [World.cell?_alloc_past _ _ _ (by simp<;>omega),World.cell?_alloc_past _ _ _ (by simp<;>omega),World.cell?_alloc_past _ _ _ (by simp),World.cell?_alloc_at _ _ _ _ rfl];rfl,by rw [World.cell?_alloc_past _ _ _ (by simp<;>omega),World.cell?_alloc_past _ _ _ (by simp<;>omega),World.cell?_alloc_past _ _ _ (by simp),World.cell?_alloc_at _ _ _ _ rfl];rfl,by rw [World.cell?_alloc_past _ _ _ (by simp<;>omega),World.cell?_alloc_past _ _ _ (by simp),World.cell?_alloc_at _ _ _ _ (by simp)];rfl,by rw [World.cell?_alloc_past _ _ _ (by simp<;>omega),World.cell?_alloc_past _ _ _ (by simp),World.cell?_alloc_at _ _ _ _ (by simp)];rfl,by rw [World.cell?_alloc_past _ _ _ (by simp<;>omega),World.cell?_alloc_past _ _ _ (by simp),World.cell?_alloc_at _ _ _ _ (by simp)];rfl,by rw [World.cell?_alloc_past _ _ _ (by simp),World.cell?_alloc_at _ _ _ _ (by simp)];rfl,by rw [World.cell?_alloc_past _ _ _ (by simp),World.cell?_alloc_at _ _ _ _ (by simp)];rfl,by rw [World.cell?_alloc_past _ _ _ (by simp),World.cell?_alloc_at _ _ _ _ (by simp)];rfl,by rw [World.cell?_alloc_at _ _ _ _ (by simp)];rfl,by rw [World.cell?_alloc_at _ _ _ _ (by simp)];rfl,by rw [World.cell?_alloc_at _ _ _ _ (by simp)];rfl,fun j=>by rw [World.frozen?_alloc_at _ _ _ _ (by simp)],by simp,(x4 w _ _ _).alloc (by simp;omega) _⟩
theorem JoinAt.next {w W W':World} {x y z:V} (h:JoinAt w W x y z) (hb:Below W.heap.size W W'):JoinAt w W' x y z:=by
 obtain ⟨hc,hf⟩:=v9 hb
 have hl:=h.lt
 exact ⟨(hc _ 0 (by omega)).trans h.x0,(hc _ 1 (by omega)).trans h.x1,(hc _ 2 (by omega)).trans h.x2,(hc _ 0 (by omega)).trans h.y0,(hc _ 1 (by omega)).trans h.y1,(hc _ 2 (by omega)).trans h.y2,(hc _ 0 (by omega)).trans h.z0,(hc _ 1 (by omega)).trans h.z1,(hc _ 2 (by omega)).trans h.z2,(hc _ 0 (by omega)).trans h.r0,(hc _ 1 (by omega)).trans h.r1,(hc _ 2 (by omega)).trans h.r2,fun j=>(hf _ j (by omega)).trans (h.fz j),Nat.lt_of_lt_of_le hl hb.size,v8 h.below hb⟩
theorem JoinAt.drew {w W:World} {x y z:V} (h:JoinAt w W x y z):JoinAt w W.drew x y z:=h.next ((Below.refl _ _).drew)
theorem joinN_20 (lo:Nat) (t:Ast) (h20:(qb4 t).op=20):vb0 lo t:=by
 intro w b x y z _ _ _ _ h
 have hr:qq5 (qb4 t) x y z=jb6 (leV y x) (leV x z):=by rw [qq5,if_pos h20]
 rw [hr]
 obtain ⟨b',sv,hb,hnode,_⟩:=h.parts
 obtain rfl:b=b':=by simpa using hb
 have c0:=hnode.c0
 have hbw:=hnode.within
 have m1:b<w.heap.size+1:=by omega
 have m2:b<w.heap.size+1+1:=by omega
 have m3:b<w.heap.size+1+1+1:=by omega
 rw [h20] at c0
 have d0:¬w.heap.size+1+1+1=w.heap.size:=by omega
 have d1:¬w.heap.size+1+1+1=w.heap.size+1:=by omega
 have d2:¬w.heap.size=w.heap.size+1+1+1:=by omega
 have d3:¬w.heap.size+1=w.heap.size+1+1+1:=by omega
 have d4:¬w.heap.size+1+1=w.heap.size:=by omega
 have d5:¬w.heap.size=w.heap.size+1+1:=by omega
 have JA0:=v7 (qy1 w x y z).drew
 clear hr hnode hb h h20
 conv=>arg 3;simp only [vV]
 go_enter Tryz.func65,Tryz.ntmps65
 go_wp2_with fail
 obtain ⟨x0_0,x1_0,x2_0,y0_0,y1_0,y2_0,z0_0,z1_0,z2_0,r0_0,r1_0,r2_0,fz_0,lt_0,bel_0⟩:=q9 JA0
 go_region_held3 (fun W=>W.cell? ⟨w.heap.size,0,none⟩=some (.int .i64 x.kind)∧W.cell? ⟨w.heap.size,1,none⟩=some (.int .i64 x.num)∧W.cell? ⟨w.heap.size,2,none⟩=some (.string (BS x.str))∧W.cell? ⟨w.heap.size+1,0,none⟩=some (.int .i64 y.kind)∧W.cell? ⟨w.heap.size+1,1,none⟩=some (.int .i64 y.num)∧W.cell? ⟨w.heap.size+1,2,none⟩=some (.string (BS y.str))∧W.cell? ⟨w.heap.size+2,0,none⟩=some (.int .i64 z.kind)∧W.cell? ⟨w.heap.size+2,1,none⟩=some (.int .i64 z.num)∧W.cell? ⟨w.heap.size+2,2,none⟩=some (.string (BS z.str))) (go_keep) (first|(go_at_call_of 107 (Value.agg #[Value.int IntKind.i64 y.kind,Value.int IntKind.i64 y.num,Value.string (BS y.str)]);refine (qk8 y x _).mono ?_;rintro e w1 ⟨rfl,hb1⟩;have JA1:=v7 ((q9 JA0).next hb1);obtain ⟨x0_1,x1_1,x2_1,y0_1,y1_1,y2_1,z0_1,z1_1,z2_1,r0_1,r1_1,r2_1,fz_1,lt_1,bel_1⟩:=q9 JA1;clear hb1)|(go_at_call_of 107 (Value.agg #[Value.int IntKind.i64 z.kind,Value.int IntKind.i64 z.num,Value.string (BS z.str)]);refine (qk8 x z _).mono ?_;rintro e w2 ⟨rfl,hb2⟩;have JA2:=v7 ((q9 JA1).next hb2);obtain ⟨x0_2,x1_2,x2_2,y0_2,y1_2,y2_2,z0_2,z1_2,z2_2,r0_2,r1_2,r2_2,fz_2,lt_2,bel_2⟩:=q9 JA2;clear hb2)|(go_at_call 106;refine (jb0 (leV y x) (leV x z) _).mono ?_;rintro e w3 ⟨rfl,hb3⟩;have JA3:=v7 ((q9 JA2).next hb3);obtain ⟨x0_3,x1_3,x2_3,y0_3,y1_3,y2_3,z0_3,z1_3,z2_3,r0_3,r1_3,r2_3,fz_3,lt_3,bel_3⟩:=q9 JA3;clear hb3;simp only [vV]))
 go_wp2_with fail
 refine bodyPost_ret (by simp [results,Tryz.results65,go_sem,r0_3,r1_3,r2_3]<;>rfl) rfl ⟨rfl, ?_⟩
 exact ((bel_3.setCell (by simp;omega) _).setCell (by simp;omega) _).setCell (by simp;omega) _
end
section
theorem jd7 (lo:Nat) (t:Ast) (h20:¬(qb4 t).op=20) (h21:¬(qb4 t).op=21) (h22:¬(qb4 t).op=22) (hJ:∀x y,Rng x.num→Rng y.num→qj9 (qb4 t).op x y (va1 (qb4 t).op x y)):vb0 lo t:=by
 intro w b x y z hx hy _ _ h
 have hr:qq5 (qb4 t) x y z=va1 (qb4 t).op x y:=by rw [qq5,if_neg h20,if_neg h21,if_neg h22]
 rw [hr]
 have CON:=v7 (hJ x y hx hy)
 obtain ⟨b',sv,hb,hnode,_⟩:=h.parts
 obtain rfl:b=b':=by simpa using hb
 have c0:=hnode.c0
 have hbw:=hnode.within
 have m1:b<w.heap.size+1:=by omega
 have m2:b<w.heap.size+1+1:=by omega
 have m3:b<w.heap.size+1+1+1:=by omega
 obtain ⟨op,hop⟩:∃op,(qb4 t).op=op:=⟨_,rfl⟩
 rw [hop] at c0 h20 h21 h22 CON ⊢
 have e20:(op==20)=false:=beq_eq_false_iff_ne.2 h20
 have e21:(op==21)=false:=beq_eq_false_iff_ne.2 h21
 have e22:(op==22)=false:=beq_eq_false_iff_ne.2 h22
 obtain ⟨r,hr'⟩:∃r,va1 op x y=r:=⟨_,rfl⟩
 rw [hr'] at CON ⊢
 clear hr hr' hnode hb h hx hy h20 h21 h22 hop hJ
 conv=>arg 3;simp only [vV]
 go_enter Tryz.func65,Tryz.ntmps65
 go_wp2_with fail
 go_region_with (go_at_call 110;refine (q9 CON _).mono ?_;rintro e w1 ⟨rfl,hb1'⟩;have hb1:Below w.heap.size w w1:=v8 (((x4 _ _ _ _).alloc (by simp;omega) _).drew) hb1';obtain ⟨hc1,hf1⟩:=v9 hb1';have hz1:w.heap.size+3<w1.heap.size:=(by have:=hb1'.size;simp at this;omega);simp only [vV])
 all_goals go_wp2_with fail
 all_goals refine bodyPost_ret (by simp [results,Tryz.results65,go_sem,hc1]<;>rfl) rfl ⟨rfl, ?_⟩
 all_goals exact ((hb1.setCell (by simp;omega) _).setCell (by simp;omega) _).setCell (by simp;omega) _
end
section
def En (r:TRes):Prop:=∀en,r=.err en→en=2∨en=3
def Nz (o:Nat) (f:TS→TRes):Prop:=∀ts,ts.op=o→En (f ts)∧∀t ts',f ts=.ok t ts'→ts'.op=o
theorem En.ok {t:Ast} {ts:TS}:En (.ok t ts):=fun _ h=>by cases h
theorem En.two:En (.err 2):=fun _ h=>by injection h with h;exact .inl h.symm
theorem En.three:En (.err 3):=fun _ h=>by injection h with h;exact .inr h.symm
theorem Nz.join {o:Nat} {f:TS→TRes} (h:Nz o f) (ts:TS) (l:Ast) (ho:ts.op=o):En (va3 f ts l)∧∀t ts',va3 f ts l=.ok t ts'→ts'.op=o:=by
 obtain ⟨h1,h2⟩:=h ts.next ho
 unfold va3
 cases hf:f ts.next with
 | err en=>rw [hf] at h1;exact ⟨h1,fun _ _ h=>by cases h⟩
 | ok t ts'=>exact ⟨En.ok,fun _ _ h=>by injection h with _ e;rw [←e];exact h2 _ _ hf⟩
theorem Nz.loop {o:Nat} {f:TS→TRes} (h:Nz o f) (ks:List Int):∀n l ts,ts.op=o→En (qx2 f ks n l ts)∧∀t ts',qx2 f ks n l ts=.ok t ts'→ts'.op=o:=by
 intro n
 induction n with
 | zero=>intro l ts ho;rw [qx2];exact ⟨En.ok,fun _ _ h=>by injection h with _ e;rw [←e];exact ho⟩
 | succ n ih=>
  intro l ts ho
  rw [qx2]
  split
  ·obtain ⟨h1,h2⟩:=h.join ts l ho
   cases hf:va3 f ts l with
   | err en=>rw [hf] at h1;exact ⟨h1,fun _ _ h=>by cases h⟩
   | ok t ts'=>exact ih t ts' (h2 _ _ hf)
  ·exact ⟨En.ok,fun _ _ h=>by injection h with _ e;rw [←e];exact ho⟩
theorem Nz.row {o:Nat} {f:TS→TRes} (h:Nz o f) (ks:List Int):Nz o (ja5 f ks):=by
 intro ts ho
 obtain ⟨h1,h2⟩:=h ts ho
 unfold ja5
 cases hf:f ts with
 | err en=>rw [hf] at h1;exact ⟨h1,fun _ _ h=>by cases h⟩
 | ok t ts'=>exact h.loop ks _ t ts' (h2 _ _ hf)
theorem Nz.sign {o:Nat} (hk:o≤12) {f:TS→TRes} (h:o<12→Nz (o+1) f) (n:Int) (ts:TS) (ho:ts.op=o):En (va4 f n ts)∧∀t ts',va4 f n ts=.ok t ts'→ts'.op=o:=by
 unfold va4
 by_cases h12:ts.op=12
 ·rw [if_pos h12];exact ⟨En.three,fun _ _ h=>by cases h⟩
 ·rw [if_neg h12]
  obtain ⟨h1,h2⟩:=h (by omega) (tIn ts) (by show ts.op+1=_;omega)
  cases hf:f (tIn ts) with
  | err en=>rw [hf] at h1;exact ⟨h1,fun _ _ h=>by cases h⟩
  | ok t ts'=>exact ⟨En.ok,fun _ _ h=>by injection h with _ e;rw [←e];exact ho⟩
theorem Nz.group {o:Nat} (hk:o≤12) {f:TS→TRes} (h:o<12→Nz (o+1) f) (ts:TS) (ho:ts.op=o):En (qv0 f ts)∧∀t ts',qv0 f ts=.ok t ts'→ts'.op=o:=by
 unfold qv0
 by_cases h12:ts.op=12
 ·rw [if_pos h12];exact ⟨En.three,fun _ _ h=>by cases h⟩
 ·rw [if_neg h12]
  obtain ⟨h1,h2⟩:=h (by omega) (tIn ts) (by show ts.op+1=_;omega)
  cases hf:f (tIn ts) with
  | err en=>rw [hf] at h1;exact ⟨h1,fun _ _ h=>by cases h⟩
  | ok t ts'=>
   show En (if ts'.tk.kind=27 then _ else _)∧∀t2 ts2,(if ts'.tk.kind=27 then _ else _)=TRes.ok t2 ts2→_
   split
   ·exact ⟨En.ok,fun _ _ h=>by injection h with _ e;rw [←e];exact ho⟩
   ·exact ⟨En.two,fun _ _ h=>by cases h⟩
theorem Nz.signed {o:Nat} (hk:o≤12) {f g:TS→TRes} (hS:o<12→Nz (o+1) f) (hE:o<12→Nz (o+1) g):Nz o (qn7 f g):=by
 intro ts ho
 unfold qn7
 split
 ·exact Nz.sign hk hS 14 ts ho
 split
 ·exact Nz.sign hk hS 15 ts ho
 split
 ·exact Nz.group hk hE ts ho
 split
 ·exact ⟨En.ok,fun _ _ h=>by injection h with _ e;rw [←e];exact ho⟩
 split
 ·exact ⟨En.ok,fun _ _ h=>by injection h with _ e;rw [←e];exact ho⟩
 split
 ·exact ⟨En.ok,fun _ _ h=>by injection h with _ e;rw [←e];exact ho⟩
 split
 ·exact ⟨En.ok,fun _ _ h=>by injection h with _ e;rw [←e];exact ho⟩
 split
 ·exact ⟨En.ok,fun _ _ h=>by injection h with _ e;rw [←e];exact ho⟩
 ·exact ⟨En.two,fun _ _ h=>by cases h⟩
theorem nz_isNull {o:Nat} (l:Ast) (ts:TS) (ho:ts.op=o):En (tIsNull l ts)∧∀t ts',tIsNull l ts=.ok t ts'→ts'.op=o:=by
 unfold tIsNull
 split
 ·split
  ·exact ⟨En.ok,fun _ _ h=>by injection h with _ e;rw [←e];exact ho⟩
  ·exact ⟨En.two,fun _ _ h=>by cases h⟩
 ·split
  ·exact ⟨En.ok,fun _ _ h=>by injection h with _ e;rw [←e];exact ho⟩
  ·exact ⟨En.two,fun _ _ h=>by cases h⟩
theorem nz_inLoop {o:Nat} (l:Ast):∀n xs ts,ts.op=o→ts.toks.length<n→En (qk5 l n xs ts)∧∀t ts',qk5 l n xs ts=.ok t ts'→ts'.op=o:=by
 intro n
 induction n with
 | zero=>intro xs ts _ h;omega
 | succ n ih=>
  intro xs ts ho hl
  rw [qk5]
  by_cases h28:ts.tk.kind=28
  ·rw [if_pos h28]
   have hne:=qb3 (by decide) h28
   have hlt:ts.next.toks.length<ts.toks.length:=by
    cases ht:ts.toks with
    | nil=>exact absurd ht hne
    | cons a r=>show (ts.toks.tail).length<_;rw [ht];simp
   split
   ·have:=qb6 ts.next
    exact ih _ ts.next.next ho (by omega)
   ·exact ⟨En.two,fun _ _ h=>by cases h⟩
  ·rw [if_neg h28]
   split
   ·exact ⟨En.ok,fun _ _ h=>by injection h with _ e;rw [←e];exact ho⟩
   ·exact ⟨En.two,fun _ _ h=>by cases h⟩
theorem nz_in {o:Nat} (l:Ast) (ts:TS) (ho:ts.op=o):En (tInRes l ts)∧∀t ts',tInRes l ts=.ok t ts'→ts'.op=o:=by
 unfold tInRes
 split
 ·split
  ·have l1:=qb6 ts
   have l2:=qb6 ts.next
   have l3:=qb6 ts.next.next
   exact nz_inLoop l _ _ ts.next.next.next ho (by omega)
  ·exact ⟨En.two,fun _ _ h=>by cases h⟩
 ·exact ⟨En.two,fun _ _ h=>by cases h⟩
theorem nz_like {o:Nat} (l:Ast) (ts:TS) (ho:ts.op=o):En (tLike l ts)∧∀t ts',tLike l ts=.ok t ts'→ts'.op=o:=by
 unfold tLike
 split
 ·split
  ·split
   ·exact ⟨En.ok,fun _ _ h=>by injection h with _ e;rw [←e];exact ho⟩
   ·exact ⟨En.two,fun _ _ h=>by cases h⟩
  ·exact ⟨En.ok,fun _ _ h=>by injection h with _ e;rw [←e];exact ho⟩
 ·exact ⟨En.two,fun _ _ h=>by cases h⟩
theorem Nz.between {o:Nat} {f:TS→TRes} (h:Nz o f) (l:Ast) (ts:TS) (ho:ts.op=o):En (qk7 f l ts)∧∀t ts',qk7 f l ts=.ok t ts'→ts'.op=o:=by
 unfold qk7
 split
 ·obtain ⟨h1,h2⟩:=h ts.next ho
  cases hf:f ts.next with
  | err en=>rw [hf] at h1;exact ⟨h1,fun _ _ h=>by cases h⟩
  | ok t ts1=>
   show En (if ts1.tk.kind=5 then _ else _)∧∀t2 ts2,(if ts1.tk.kind=5 then _ else _)=TRes.ok t2 ts2→_
   split
   ·have ho1:ts1.op=o:=h2 _ _ hf
    obtain ⟨h3,h4⟩:=h ts1.next ho1
    cases hg:f ts1.next with
    | err en=>rw [hg] at h3;exact ⟨h3,fun _ _ h=>by cases h⟩
    | ok t2 ts2=>exact ⟨En.ok,fun _ _ h=>by injection h with _ e;rw [←e];exact h4 _ _ hg⟩
   ·exact ⟨En.two,fun _ _ h=>by cases h⟩
 ·exact ⟨En.two,fun _ _ h=>by cases h⟩
theorem Nz.keyword {o:Nat} {f:TS→TRes} (h:Nz o f) (bare:Bool) (l:Ast) (ts:TS) (ho:ts.op=o):En (qi6 f bare l ts)∧∀t ts',qi6 f bare l ts=.ok t ts'→ts'.op=o:=by
 unfold qi6
 split
 ·exact nz_in l ts ho
 split
 ·exact nz_like l ts ho
 ·exact h.between l ts ho
theorem Nz.test {o:Nat} {f:TS→TRes} (h:Nz o f):Nz o (ve1 f):=by
 intro ts ho
 obtain ⟨h1,h2⟩:=h ts ho
 unfold ve1
 cases hf:f ts with
 | err en=>rw [hf] at h1;exact ⟨h1,fun _ _ h=>by cases h⟩
 | ok l ts1=>
  have ho1:=h2 _ _ hf
  show En (ve0 f _ l ts1)∧∀t2 ts2,ve0 f _ l ts1=TRes.ok t2 ts2→_
  unfold ve0
  split
  ·exact h.join ts1 l ho1
  split
  ·split
   ·exact nz_isNull l ts1 ho1
   ·exact ⟨En.ok,fun _ _ h=>by injection h with _ e;rw [←e];exact ho1⟩
  split
  ·obtain ⟨h3,h4⟩:=h.keyword (ts.tk.kind==2&&opA l==0) l ts1.next ho1
   cases hg:qi6 f (ts.tk.kind==2&&opA l==0) l ts1.next with
   | err en=>rw [hg] at h3;exact ⟨h3,fun _ _ h=>by cases h⟩
   | ok t2 ts2=>exact ⟨En.ok,fun _ _ h=>by injection h with _ e;rw [←e];exact h4 _ _ hg⟩
  split
  ·exact h.keyword _ l ts1 ho1
  ·exact ⟨En.ok,fun _ _ h=>by injection h with _ e;rw [←e];exact ho1⟩
theorem Nz.denied {o:Nat} (hk:o≤12) {f g:TS→TRes} (hD:o<12→Nz (o+1) f) (hT:Nz o g):Nz o (qq2 f g):=by
 intro ts ho
 unfold qq2
 split
 ·exact Nz.sign hk hD 5 ts ho
 ·exact hT ts ho
structure Nz3 (o:Nat) (L:T3):Prop where
 S:Nz o L.S
 D:Nz o L.D
 E:Nz o L.E
theorem nz_up {o:Nat} (hk:o≤12) {L:T3} (h:o<12→Nz3 (o+1) L):Nz3 o (tUp L):=by
 have hS:=Nz.signed hk (fun e=>(h e).S) (fun e=>(h e).E)
 have hT:=((hS.row [24,25]).row [22,23]).test
 have hD:=Nz.denied hk (fun e=>(h e).D) hT
 exact ⟨hS,hD,(hD.row [5]).row [6]⟩
theorem nz_lvl:∀d o,o+d=12→Nz3 o (tLvl d):=by
 intro d
 induction d with
 | zero=>intro o h;exact nz_up (by omega) (fun e=>absurd e (by omega))
 | succ d ih=>intro o h;exact nz_up (by omega) (fun e=>ih (o+1) (by omega))
theorem qp3 {s:ByteArray} {en pl:Int} (h:qq1 s=.err en pl):en=1∨en=2∨en=3∨en=4:=by
 unfold qq1 at h
 by_cases hs:s.size≤200
 ·rw [if_pos hs] at h
  obtain ⟨L,hL⟩:=vz6 _ s.data.toList (Nat.le_refl _)
  have hst:Str s (v6 s st0) L:=vs1 hL st0 (Nat.zero_le _) (List.drop_zero)
  have hfi:=x8 s st0 (Nat.zero_le _)
  have hsim:=(sim_lvl s 12).E (v6 s st0) ⟨L,0⟩ hfi hst rfl
  rcases hsim.cases with ⟨t1,st,ts,e1,e2,e3,e4,e5⟩|⟨en',pl',e1,e2⟩
  ·rw [e1] at h
   change endR t1 st=_ at h
   unfold endR at h
   by_cases hk:st.tk.kind=0
   ·rw [if_pos hk] at h
    cases hc:chkR (qc8 t1) with
    | some q=>rw [hc] at h;injection h with h1 _;exact .inr (.inr (.inr h1.symm))
    | none=>rw [hc] at h;cases h
   ·rw [if_neg hk] at h;injection h with h1 _;exact .inr (.inl h1.symm)
  ·rw [e1] at h
   injection h with h1 _
   subst h1
   rcases ((nz_lvl 12 0 rfl).E ⟨L,0⟩ rfl).1 _ e2 with e|e
   ·exact .inr (.inl e)
   ·exact .inr (.inr (.inl e))
 ·rw [if_neg hs] at h
  injection h with h1 _
  exact .inl h1.symm
end
end Go.Proofs.YtfkcaldjphakpaaGreatDoor
