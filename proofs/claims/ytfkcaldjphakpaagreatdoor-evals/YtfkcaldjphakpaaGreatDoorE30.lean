/- The laws by the document's answer: evaled. The laws by the document's answer: Evals, of any script. -/
import Derived.Test.YtfkcaldjphakpaaGreatDoorE29
import Derived.Test.YtfkcaldjphakpaaGreatDoorE28
import Derived.Deep.RegionHeld3
import Derived.Deep.DeepCutAuto
set_option maxHeartbeats 4000000
set_option maxRecDepth 100000
namespace Go.Proofs.YtfkcaldjphakpaaGreatDoor
open Go.RowKit
section
theorem eql_self (v:V) (w:World):(binOp .eql 26 (vV v) (vV v)).run Tryz.prog w=.ok (.bool true) w:=by
 rw [qr3,decide_eq_true rfl]
theorem jd0 {w:World} {x:Ox} (hx:OxOk w x) (hE:ErrOk w):Calls Tryz.prog 45 #[oxV x] w fun e w'=>e=.returned (.bool true)∧Below w.heap.size w w':=by
 obtain ⟨kind,nn,id,text,la,lc,ts,ev,ps⟩:=x
 have hev:EvIn w ev ps:=hx.ev
 have hg:EvGood ps:=hx.good
 have hel:48 * ps.length≤140737488355328:=hx.el
 have htx:(BS text).size≤140737488355328:=hx.text
 obtain ⟨n,hn⟩:∃n,ps.length=n:=⟨_,rfl⟩
 have hsl:∃a c,ev=.slice a n c:=by
  obtain ⟨a,m,c,rfl⟩:=hev.slice
  exact ⟨a,c,by rw [←hn,hev.len]⟩
 obtain ⟨a,c,rfl⟩:=hsl
 obtain ⟨R,hR⟩:∃R,vg8 (BS text) ps=R:=⟨_,rfl⟩
 obtain ⟨val,er,pl⟩:=R
 have hb1:=(Below.refl w.heap.size w).alloc (Nat.le_refl _) (.cells #[.int .i64 kind,.int .i64 nn,.int .i64 id,.string (BS text),.slice la ts.length lc,.slice a n c] 64)
 have EVT:=v7 (event_any (hev.below hb1) hel)
 unfold vk9 at EVT
 have HNE:=v7 hn
 rw [hn,World.size_alloc] at EVT
 have SE:Hid (∀(w:World) (ev:Value),ErrOk w→EvIn w ev ps→Calls Tryz.prog 23 #[.string (BS text),ev] w fun e w'=>e=.returned (.tuple #[vV val,.int .i64 er,.int .i64 pl])∧Below w.heap.size w w'):=v7 fun w ev h1 h2=>by
  have:=eval_any (BS text) htx ps ev w h1 h2 hg
  rw [hR] at this;exact this
 have RE:Hid (∀(w:World) (ev:Value),EvIn w ev ps→Calls Tryz.prog 77 #[.string (BS text),ev] w fun e w'=>e=.returned (.tuple #[vV val,.int .i64 er,.int .i64 pl])∧Below w.heap.size w w'):=v7 fun w ev h2=>by
  have:=reval_any (BS text) htx ps ev w h2 hg
  rw [hR] at this;exact this
 have ST:Hid (∀(w:World) (lb:Nat) (ev:Value),EvRow w lb ps 8→EvIn w ev ps→Calls Tryz.prog 78 #[.slice (some ⟨lb,0,none⟩) (n+8) (n+8),ev] w fun e w'=>e=.returned (.bool true)∧Below w.heap.size w w'):=v7 fun w lb ev h1 h2=>by
  have:=still_any h1 h2 hel
  rw [hn] at this;exact this
 have HER:=v7 hE
 have HEV:=v7 (hev.below hb1)
 have HB1:=v7 hb1
 have EQ:=fun w=>eql_self val w
 simp only [vV] at SE RE EQ
 have hn0:(0:Int)≤(n:Int):=by omega
 have hn8:(n:Int)≤(n:Int)+8:=by omega
 have hnk:n≤n+8:=by omega
 obtain ⟨lt,hlt⟩:∃k,ts.length=k:=⟨_,rfl⟩
 unfold oxV
 simp only
 rw [hlt] at HB1 HEV EVT ⊢
 clear hx hev hg hel htx hR hE hb1 hn hlt
 go_enter Tryz.func45,Tryz.ntmps45
 go_upto_region 2 with (go_at_call 76;refine (q9 EVT).mono ?_;rintro e w2 ⟨rfl,hrow,hb2⟩;rw [show w.heap.size+1=(w.alloc (.cells #[.int .i64 kind,.int .i64 nn,.int .i64 id,.string (BS text),.slice la lt lc,.slice a n c] 64)).heap.size from (World.size_alloc _ _).symm] at hb2;have HROW:=v7 hrow;have hz2:w.heap.size+1<w2.heap.size:=hrow.lt;have HB2:=v7 (v8 (q9 HB1) hb2);have HEV2:=v7 ((q9 HEV).below hb2);have o3:w2.cell? ⟨w.heap.size,3,none⟩=some (.string (BS text)):=((v9 hb2).1 _ 3 (by simp)).trans (by simp);have o5:w2.cell? ⟨w.heap.size,5,none⟩=some (.slice a n c):=((v9 hb2).1 _ 5 (by simp)).trans (by simp);clear hrow hb2)
 go_cut [4,5,6] (fun s4 s5 s6 wx=>∃vb,s4=.pointer (some ⟨vb,0,none⟩)∧s5=.int .i64 er∧s6=.int .i64 pl∧w2.heap.size≤vb∧Hid (VarAt w2 wx vb val))
 case first=>
  have hzw:w.heap.size<w2.heap.size:=by omega
  have q1:w.heap.size<w2.heap.size+1:=by omega
  have n1:¬w.heap.size=w2.heap.size:=by omega
  have n2:¬w2.heap.size=w.heap.size:=by omega
  have HEI:Hid (∀W,Below w2.heap.size w2 W→ErrOk W∧EvIn W (.slice (some ⟨w.heap.size+1,0,none⟩) n (n+8)) ps):=v7 fun W hb=>⟨(q9 HER).below (v8 (q9 HB2) hb) (Nat.le_refl _),.inr ⟨w.heap.size+1,0,n+8,by rw [q9 HNE],by rw [q9 HNE];omega,((q9 HROW).below hb).ev,((q9 HROW).below hb).lt⟩⟩
  go_region_held3 (fun W=>W.cell? ⟨w.heap.size,3,none⟩=some (.string (BS text))∧W.cell? ⟨w.heap.size,5,none⟩=some (.slice a n c)) (first|with_reducible assumption|go_keep) ((go_at_call 23;refine ((fun hb=>q9 SE _ _ (q9 HEI _ hb).1 (q9 HEI _ hb).2) (by first|exact (Below.refl _ _).drew|exact ((Below.refl _ _).alloc (Nat.le_refl _) _).drew)).mono ?_;rintro e w3 ⟨rfl,hb3⟩;obtain ⟨hc3,hf3⟩:=v9 hb3;have hz3:w2.heap.size≤w3.heap.size:=(by have:=hb3.size;simp at this;omega);have hSS:(w3.cell? ⟨w.heap.size,3,none⟩=some (.string (BS text))∧w3.cell? ⟨w.heap.size,5,none⟩=some (.slice a n c)):=(by refine ⟨(hc3 _ _ ?_).trans ?_,(hc3 _ _ ?_).trans ?_⟩<;>simp [*]);have p1:¬w.heap.size=w3.heap.size:=(by omega)))
  all_goals
   go_wp2_with fail
   go_meet
   first
    | exact ⟨_,rfl,rfl,rfl,hz3,v7 (VarAt.new (v8 (Below.refl _ _).drew hb3) _)⟩
    | exact ⟨_,rfl,rfl,rfl,Nat.le_refl _,v7 (((VarAt.new (Below.refl _ _) nV).below (v8 (Below.refl _ _).drew hb3)).put (Nat.le_refl _) _)⟩
 case rest=>
  obtain ⟨vb,rfl,rfl,rfl,hvb,HV⟩:=hcut
  have hbc:=(q9 HV).bel
  have hzc:=hbc.size
  have c3:wc.cell? ⟨w.heap.size,3,none⟩=some (.string (BS text)):=((v9 hbc).1 _ 3 (by omega)).trans o3
  have c5:wc.cell? ⟨w.heap.size,5,none⟩=some (.slice a n c):=((v9 hbc).1 _ 5 (by omega)).trans o5
  have HEVC:=v7 ((q9 HEV2).below hbc)
  have HROWC:=v7 ((q9 HROW).below hbc)
  have HBC:=v7 (v8 (q9 HB2) hbc)
  clear hbc o3 o5
  go_wp2_with (first|(go_at_call 77;refine (q9 RE _ _ (q9 HEVC)).mono ?_;rintro e w4 ⟨rfl,hb4⟩;have hz4:=hb4.size;have hb5:=hb4.alloc hb4.size (.cells #[.int .i64 val.kind,.int .i64 val.num,.string (BS val.str)] 26);have HV5:=v7 ((q9 HV).below hb5);have HU5:=v7 (VarAt.new hb4 val);have HEV5:=v7 ((q9 HEVC).below hb5);have HROW5:=v7 ((q9 HROWC).below hb5);have HB5:=v7 (v8 (q9 HBC) hb5);have d5:w4.cell? ⟨w.heap.size,5,none⟩=some (.slice a n c):=((v9 hb4).1 _ 5 (by omega)).trans c5;have hzw4:w.heap.size<w4.heap.size:=(by omega);have nw4:¬w.heap.size=w4.heap.size:=(by omega);clear hb4 hb5)|(go_at_call 78;refine (q9 ST _ _ _ (q9 HROW5) (q9 HEV5)).mono ?_;rintro e w6 ⟨rfl,hb6⟩;have hV6:=(q9 HV5).below hb6;have hU6:=(q9 HU5).below hb6;have v0:=hV6.c0;have v1:=hV6.c1;have v2:=hV6.c2;have u0:=hU6.c0;have u1:=hU6.c1;have u2:=hU6.c2;have HB6:=v7 (v8 (q9 HB5) hb6);clear hV6 hU6 hb6))
  go_ret
  exact ⟨rfl,q9 HB6⟩
end
section
theorem je0 {w:World} {wb:Nat} (c1:w.cell? ⟨wb,1,none⟩=some (.slice none 0 0)):Calls Tryz.prog 34 #[.pointer (some ⟨wb,0,none⟩)] w fun e w'=>e=.returned (.bool true)∧w'=w:=by
 go_enter Tryz.func34,Tryz.ntmps34
 go_wp2_with fail
 go_loopw [3] (fun i wr=>i=.int .i64 0∧wr=w) (fun _ _=>0)
 case atStart=>exact ⟨rfl,rfl⟩
 case round=>
  obtain ⟨rfl,rfl⟩:=hrel
  go_wp2_with fail
  go_ret
  exact ⟨rfl,rfl⟩
theorem step_eval {w:World} {x:Ox} {wv:Value} (hx:OxOk w x) (hE:ErrOk w) (hk:x.kind=1):Calls Tryz.prog 33 #[wv,oxV x] w fun e w'=>e=.returned (.bool true)∧Below w.heap.size w w':=by
 obtain ⟨ea,en,ec,hev⟩:=hx.ev.slice
 have EV:Hid (∀W,Below w.heap.size w W→Calls Tryz.prog 45 #[oxV x] W fun e w'=>e=.returned (.bool true)∧Below W.heap.size W w'):=v7 fun W hb=>jd0 (hx.below hb) (hE.below hb (Nat.le_refl _))
 unfold oxV at EV ⊢
 rw [hk,hev] at EV ⊢
 have hb1:=v7 ((Below.refl w.heap.size w).alloc (Nat.le_refl _) (.cells #[.int .i64 1,.int .i64 x.n,.int .i64 x.id,.string (BS x.text),.slice x.la x.ts.length x.lc,.slice ea en ec] 64))
 clear hx hE hk hev
 go_enter Tryz.func33,Tryz.ntmps33
 go_wp2_with (go_at_call 45;refine (q9 EV _ (q9 hb1)).mono ?_;rintro e w2 ⟨rfl,hb2⟩)
 go_ret
 exact ⟨rfl,v8 (q9 hb1) hb2⟩
structure Holdless (w W:World):Prop where
 bel:Below w.heap.size w W
 c1:W.cell? ⟨w.heap.size,1,none⟩=some (.slice none 0 0)
 lt:w.heap.size<W.heap.size
theorem Holdless.below {w W W':World} (h:Holdless w W) (hb:Below W.heap.size W W'):Holdless w W':=⟨v8 h.bel hb,((v9 hb).1 _ _ h.lt).trans h.c1,Nat.lt_of_lt_of_le h.lt hb.size⟩
theorem Holdless.start (w:World):Holdless w (w.alloc (.cells #[.slice none 0 0,.slice none 0 0] 61)):=⟨(Below.refl _ _).alloc (Nat.le_refl _) _,by simp,by simp⟩
theorem jh4 (K:Int) (hK:K<5) (w:World) (v:Value) (l:List Ox) (hl:OpsAt w v l)
  (hstep:∀W x,Below w.heap.size w W→OxOk W x→x.kind=K→Calls Tryz.prog 33 #[.pointer (some ⟨w.heap.size,0,none⟩),oxV x] W fun e W'=>e=.returned (.bool true)∧Below W.heap.size W W') :
  Calls Tryz.prog 15 #[v,.int .i64 K,.int .i64 K] w fun e w'=>e=.returned (.int .i64 (-1))∧Below w.heap.size w w':=by
 refine (upto_any K K (Holdless w) w v l hl (Holdless.start w) (fun W h=>h.bel) (fun W W' h hb=>h.below hb) (fun W x h hx hk=>?_) (fun W h=>?_)).mono fun e w' h=>⟨h.1,h.2.bel⟩
 ·refine (hstep W x h.bel hx (by omega)).mono fun e W' h2=>⟨h2.1,h.below h2.2⟩
 ·refine (je0 h.c1).mono fun e W' h2=>⟨h2.1,by rw [h2.2];exact h⟩
theorem evals_all (w:World) (v:Value) (l:List Ox) (hl:OpsAt w v l) (hE:ErrOk w):Calls Tryz.prog 3 #[v] w fun e w'=>e=.returned (.bool true)∧Below w.heap.size w w':=by
 have UP:=v7 (jh4 1 (by decide) w v l hl (fun W x hb hx hk=>step_eval hx (hE.below hb (Nat.le_refl _)) hk))
 obtain ⟨a,cap,rfl,_⟩:=hl
 clear hE
 go_enter Tryz.func3,Tryz.ntmps3
 go_wp2_with (go_at_call 15;refine (q9 UP).mono ?_;rintro e w2 ⟨rfl,hb2⟩)
 go_ret
 exact ⟨rfl,hb2⟩
end
end Go.Proofs.YtfkcaldjphakpaaGreatDoor
