/- The contracts of (*reader).refuse, take, skip, enter. -/
import Derived.Test.YtfkcaldjphakpaaGreatDoorM02
import Derived.Deep.RegionHeld3
set_option maxHeartbeats 16000000
set_option maxRecDepth 100000
namespace Go.Proofs.YtfkcaldjphakpaaGreatDoor
open Go.RowKit Go.Proofs.Tryz
def qd2(en pl:Int):Ending:=.panicked [{ v:=.iface 88 (.agg #[.int .i64 en,.int .i64 pl]),recovered:=false }]
theorem vf7(r:Value)(pl:Int)(w:World):
  Calls prog 103 #[r,.int .i64 pl] w λe w'=>e=qd2 2 pl/\w'=w:=by
 go_enter func103,ntmps103
 go_wp2_with fail
 exact⟨rfl,rfl,rfl⟩
theorem RdAt.allocd{w:World}{rb:Nat}{s:ByteArray}{st:St}(h:RdAt w rb s st)(o:Obj)(A1:rb<w.heap.size):RdAt (w.alloc o) rb s st:=
 h.below ((Below.refl _ _).alloc (Nat.le_refl _) o) A1
theorem qe1{rb:Nat}{W w1:World}(hk:Kept rb W w1):(∀b o,b<W.heap.size->¬b=rb->w1.cell? ⟨b,o,none⟩=W.cell? ⟨b,o,none⟩)/\(∀b o,b<W.heap.size->¬b=rb->w1.frozen? ⟨b,o,none⟩=W.frozen? ⟨b,o,none⟩):=
 ⟨λb o h hn=>World.cell?_of_block (w:=W) (w':=w1) (a:=⟨b,o,none⟩) (hk.block b h hn),λb o h hn=>World.frozen?_of_block (w:=W) (w':=w1) (a:=⟨b,o,none⟩) (hk.block b h hn)⟩
theorem Kept.later{rb:Nat}{a w:World}(h:Kept rb a w){p:Addr}(hp:a.heap.size<=p.block)(u:Value):Kept rb a (w.setCell p u):=by
 have hb:=(Below.refl 0 w).setCell (p:=p) (Nat.zero_le _) u;refine⟨hb.os.trans h.os,hb.tape.trans h.tape,hb.output.trans h.output,Nat.le_trans h.size hb.size,λk hk hn=>?_⟩;rw[Below.heap_setCell w p u k (by omega)];exact h.block k hk hn
theorem RdAt.setOther{w:World}{rb:Nat}{s:ByteArray}{st:St}(h:RdAt w rb s st){p:Addr}(hp:¬p.block=rb)(u:Value):RdAt (w.setCell p u) rb s st:=by
 have hb:=Below.heap_setCell w p u rb (by omega);have hc:∀j,(w.setCell p u).cell? ⟨rb,j,none⟩=w.cell? ⟨rb,j,none⟩:=λj=>World.cell?_of_block (w:=w) (w':=w.setCell p u) (a:=⟨rb,j,none⟩) hb
 have hf:∀j,(w.setCell p u).frozen? ⟨rb,j,none⟩=w.frozen? ⟨rb,j,none⟩:=λj=>World.frozen?_of_block (w:=w) (w':=w.setCell p u) (a:=⟨rb,j,none⟩) hb
 exact⟨(hc 0).trans h.c0,(hc 1).trans h.c1,(hc 2).trans h.c2,(hc 3).trans h.c3,(hc 4).trans h.c4,(hc 5).trans h.c5,(hc 6).trans h.c6,λj=>(hf j).trans (h.fz j)⟩
theorem qd1(rb:Nat)(s:ByteArray)(st:St)(k:Int)(w:World)(hs:s.size<=140737488355328)(ha:st.after<=s.size)(hr:RdAt w rb s st)(A1:rb<w.heap.size)(hE:ErrOk w)(hk:st.tk.kind=k):
  Calls prog 56 #[.pointer (some ⟨rb,0,none⟩),.int .i64 k] w λe w'=>e=.returned (tkV st.tk st.place)/\RdAt w' rb s (j4 s st)/\Kept rb w w':=by
 have HR:=j3 hr;obtain⟨c0,c1,c2,c3,c4,c5,c6,fz⟩:=hr;have C1:(st.tk.kind != k)=false:=by rw[hk];simp
 have n0:¬w.heap.size=rb:=by omega
 have n1:¬w.heap.size+1=rb:=by omega
 clear hk;go_enter func56,ntmps56
 go_wp2_with(go_at_call 54;refine(qm3 rb s st _ hs ha ((q9 HR).below (vr1 _ _ _) A1) (by simp;omega) ((hE.alloc _).alloc _)).mono ?_;rintro e w1⟨rfl,A4,A0⟩;obtain⟨hc,hf⟩:=qe1 A0;have A4:=j3 A4;have q0:w1.cell? ⟨w.heap.size,0,none⟩=some (.int .i64 0):=(hc _ 0 (by simp;omega) n0).trans (by simp);have q1:w1.cell? ⟨w.heap.size,1,none⟩=some (.int .i64 0):=(hc _ 1 (by simp;omega) n0).trans (by simp);have q2:w1.cell? ⟨w.heap.size,2,none⟩=some (.int .i64 0):=(hc _ 2 (by simp;omega) n0).trans (by simp);have q3:w1.cell? ⟨w.heap.size,3,none⟩=some (.string ⟨#[]⟩):=(hc _ 3 (by simp;omega) n0).trans (by simp))
 refine bodyPost_ret (by simp[results,results56,go_sem,q0,q1,q2,q3]<;>rfl) rfl ⟨rfl, ?_, ?_⟩
 ·exact((((q9 A4).setOther (by simpa using n0) _).setOther (by simpa using n0) _).setOther (by simpa using n0) _).setOther (by simpa using n0) _
 ·exact(((((((Kept.refl rb w).alloc _).alloc _).trans A0).later (by simp) _).later (by simp) _).later (by simp) _).later (by simp) _
theorem qn0(rb:Nat)(s:ByteArray)(st:St)(k:Int)(w:World)(hr:RdAt w rb s st)(A1:rb<w.heap.size)(hk:¬st.tk.kind=k):
  Calls prog 56 #[.pointer (some ⟨rb,0,none⟩),.int .i64 k] w λe w'=>e=qd2 2 st.place/\Kept rb w w':=by
 obtain⟨c0,c1,c2,c3,c4,c5,c6,fz⟩:=hr;have C1:(st.tk.kind != k)=true:=by simpa using hk
 clear hk;go_enter func56,ntmps56
 go_wp2_with(go_at_call 103;refine(vf7 _ _ _).mono ?_;rintro e w1⟨rfl,rfl⟩;simp only[qd2])
 exact⟨rfl,rfl,((Kept.refl rb w).alloc _).alloc _⟩
theorem RdAt.setOp{w:World}{rb:Nat}{s:ByteArray}{st:St}(h:RdAt w rb s st)(n:Nat)(m:Int)(hm:m=n):RdAt (w.setCell ⟨rb,6,none⟩ (.int .i64 m)) rb s { st with op:=n }:=by
 obtain⟨c0,c1,c2,c3,c4,c5,c6,fz⟩:=h;subst hm;exact⟨by simp[go_sem,c0],by simp[go_sem,c1],by simp[go_sem,c2],by simp[go_sem,c3],by simp[go_sem,c4],by simp[go_sem,c5],by simp[go_sem,c6],λj=>by simp[go_sem,fz]⟩
theorem size_setCell(w:World)(p:Addr)(u:Value):(w.setCell p u).heap.size=w.heap.size:=by simp
theorem qt8(rb:Nat)(s:ByteArray)(st:St)(w:World)(hs:s.size<=140737488355328)(ha:st.after<=s.size)(hr:RdAt w rb s st)(A1:rb<w.heap.size)(hE:ErrOk w)(g9:3<rb)(H6:st.op<12):
  Calls prog 199 #[.pointer (some ⟨rb,0,none⟩)] w λe w'=>e=.returned (tkV st.tk st.place)/\RdAt w' rb s { j4 s st with op:=st.op+1 }/\Kept rb w w':=by
 have HR:=j3 (hr.setOp (st.op+1) ((st.op:Int)+1) (by omega));have HK:=j3 ((Kept.refl rb w).setCell 6 (.int .i64 ((st.op:Int)+1)));have HE:=j3 (hE.kept (q9 HK) g9);obtain⟨c0,c1,c2,c3,c4,c5,c6,fz⟩:=hr;have C1:((st.op:Int)==12)=false:=beq_eq_false_iff_ne.2 (by omega);have n0:¬w.heap.size=rb:=by omega
 have n1:¬w.heap.size+1=rb:=by omega
 clear hE;go_enter func199,ntmps199
 go_wp2_with fail
 refine(qm3 rb s { st with op:=st.op+1 } _ hs ha ((q9 HR).below (vr1 _ _ _) (by rw[size_setCell];exact A1)) (by simp;omega) (((q9 HE).alloc _).alloc _)).mono ?_;rintro e w1⟨rfl,A4,A0⟩;obtain⟨hc,hf⟩:=qe1 A0;have A4:=j3 A4;have q0:w1.cell? ⟨w.heap.size,0,none⟩=some (.int .i64 0):=(hc _ 0 (by simp;omega) n0).trans (by rw[World.cell?_alloc_past _ _ _ (by simp),World.cell?_alloc_at _ _ _ _ (by simp)];rfl);have q1:w1.cell? ⟨w.heap.size,1,none⟩=some (.int .i64 0):=(hc _ 1 (by simp;omega) n0).trans (by rw[World.cell?_alloc_past _ _ _ (by simp),World.cell?_alloc_at _ _ _ _ (by simp)];rfl);have q2:w1.cell? ⟨w.heap.size,2,none⟩=some (.int .i64 0):=(hc _ 2 (by simp;omega) n0).trans (by rw[World.cell?_alloc_past _ _ _ (by simp),World.cell?_alloc_at _ _ _ _ (by simp)];rfl);have q3:w1.cell? ⟨w.heap.size,3,none⟩=some (.string ⟨#[]⟩):=(hc _ 3 (by simp;omega) n0).trans (by rw[World.cell?_alloc_past _ _ _ (by simp),World.cell?_alloc_at _ _ _ _ (by simp)];rfl)
 go_wp2_with fail
 refine bodyPost_ret (by simp[results,results199,go_sem,q0,q1,q2,q3]<;>rfl) rfl ⟨rfl, ?_, ?_⟩
 ·exact((((q9 A4).setOther (by simpa using n0) _).setOther (by simpa using n0) _).setOther (by simpa using n0) _).setOther (by simpa using n0) _
 ·exact((((((((q9 HK).alloc _).alloc _).trans A0).later (by simp) _).later (by simp) _).later (by simp) _).later (by simp) _)
theorem vu7(rb:Nat)(s:ByteArray)(st:St)(w:World)(hr:RdAt w rb s st)(A1:rb<w.heap.size)(H6:st.op=12):
  Calls prog 199 #[.pointer (some ⟨rb,0,none⟩)] w λe w'=>e=qd2 3 st.place/\Kept rb w w':=by
 obtain⟨c0,c1,c2,c3,c4,c5,c6,fz⟩:=hr;have C1:((st.op:Int)==12)=true:=beq_iff_eq.2 (by omega);clear H6;go_enter func199,ntmps199
 go_wp2_with fail
 exact⟨rfl,rfl,((Kept.refl rb w).alloc _).alloc _⟩
theorem qy8(rb:Nat)(s:ByteArray)(st:St)(k:Int)(w:World)(hs:s.size<=140737488355328)(ha:st.after<=s.size)(hr:RdAt w rb s st)(A1:rb<w.heap.size)(hE:ErrOk w)(hk:st.tk.kind=k):
  Calls prog 267 #[.pointer (some ⟨rb,0,none⟩),.int .i64 k] w λe w'=>e=.returned (.bool true)/\RdAt w' rb s (j4 s st)/\Kept rb w w':=by
 have HR:=j3 hr;obtain⟨c0,c1,c2,c3,c4,c5,c6,fz⟩:=hr;have C1:(st.tk.kind != k)=false:=by rw[hk];simp
 clear hk;go_enter func267,ntmps267
 go_wp2_with(go_at_call 54;refine(qm3 rb s st _ hs ha (q9 HR) A1 hE).mono ?_;rintro e w1⟨rfl,A4,A0⟩;have A4:=j3 A4)
 go_ret;exact⟨rfl,q9 A4,A0⟩
theorem vp5(rb:Nat)(s:ByteArray)(st:St)(k:Int)(w:World)(hr:RdAt w rb s st)(hk:¬st.tk.kind=k):
  Calls prog 267 #[.pointer (some ⟨rb,0,none⟩),.int .i64 k] w λe w'=>e=.returned (.bool false)/\w'=w:=by
 obtain⟨c0,c1,c2,c3,c4,c5,c6,fz⟩:=hr;have C1:(st.tk.kind != k)=true:=by simpa using hk
 clear hk;go_enter func267,ntmps267
 go_wp2_with fail
 go_ret;exact⟨rfl,rfl⟩
def KsAt(w:World)(b:Nat)(ks:List Int):Prop:=∀(j:Nat) (k:Int),ks[j]?=some k->w.cell? ⟨b,j,none⟩=some (.int .i64 k)
def idxK(ks:List Int)(x:Int)(j:Nat):Int:=match ks with
 | []=>-1
 | k::t=>if x==k then j else idxK t x (j+1)
theorem idxK_drop{ks:List Int}{x k:Int}{j:Nat}(h:ks[j]?=some k):idxK (ks.drop j) x j=if x==k then(j:Int) else idxK (ks.drop (j+1)) x (j+1):=by
 obtain⟨hj,he⟩:=List.getElem?_eq_some_iff.1 h;rw[List.drop_eq_getElem_cons hj,he];rfl
theorem idxK_ge(ks:List Int)(x:Int):∀j:Nat,decide (0<=idxK ks x j)=ks.contains x:=by
 induction ks with
 | nil=>intro j;rfl
 | cons k t ih=>
  intro j;rw[show idxK (k::t) x j=if x==k then(j:Int) else idxK t x (j+1) from rfl,List.contains_cons]
  by_cases h:(x==k)=true
  ·rw[if_pos h,h,Bool.true_or];exact decide_eq_true (by omega)
  ·rw[if_neg h,Bool.eq_false_iff.2 h,Bool.false_or];exact ih _
theorem jv8(b cap:Nat)(ks:List Int)(x:Int)(w:World)(hl:ks.length<=8)(hk:KsAt w b ks):
  Calls prog 196 #[.slice (some ⟨b,0,none⟩) ks.length cap,.int .i64 x] w λe w'=>e=.returned (.int .i64 (idxK ks x 0))/\w'=w:=by
 obtain⟨R,hR⟩:∃r,idxK ks x 0=r:=⟨_,rfl⟩;rw[hR];have HR:=j3 hR;clear hR;go_enter func196,ntmps196
 go_wp2_with fail
 go_loop [5,8] (λ_ i=>∃j:Nat,j<=ks.length/\i=.int .i64 j/\Hid (R=idxK (ks.drop j) x j)) (λ_ i=>ks.length - (intOf i).toNat)
 case atStart=>exact⟨0,Nat.zero_le _,rfl,j3 (by rw[List.drop_zero,q9 HR])⟩
 case round=>
  obtain⟨j,hj,rfl,hh⟩:=hrel
  by_cases A1:j<ks.length
  ·obtain⟨k,hp⟩:∃k,ks[j]?=some k:=⟨_,List.getElem?_eq_getElem A1⟩
   have hc:=hk j k hp;have hd:=idxK_drop (x:=x) hp
   cases hx:(x==k) with
   | true=>
    rw[hx,if_pos rfl]at hd;have HT:Hid (R=j):=j3 (by rw[q9 hh,hd]);clear hh hd hp
    go_wp2_with fail
    go_ret;exact⟨qg3 (by rw[q9 HT]),rfl⟩
   | false=>
    rw[hx,if_neg (by simp)]at hd;have HT:Hid (R=idxK (ks.drop (j+1)) x (j+1)):=j3 (by rw[q9 hh,hd]);clear hh hd hp
    go_wp2_with fail
    go_round
    case rel=>exact⟨j+1,by omega,by go_num,HT⟩
    case measure=>simp[intOf];omega
  ·have HT:Hid (R=-1):=j3 (by rw[q9 hh,List.drop_of_length_le (by omega)];rfl)
   clear hh
   go_wp2_with fail
   go_ret;exact⟨qg3 (by rw[q9 HT]),rfl⟩
theorem vu4(b cap:Nat)(ks:List Int)(x:Int)(w:World)(hl:ks.length<=8)(hk:KsAt w b ks):
  Calls prog 145 #[.slice (some ⟨b,0,none⟩) ks.length cap,.int .i64 x] w λe w'=>e=.returned (.bool (ks.contains x))/\w'=w:=by
 have HC:=j3 (idxK_ge ks x 0);go_enter func145,ntmps145
 go_wp2_with(go_at_call 196;refine(jv8 _ _ _ _ _ hl hk).mono ?_;rintro e w'⟨rfl,rfl⟩;generalize idxK ks x 0=r at HC)
 all_goals(go_ret;exact⟨qn4 (by rw[←q9 HC]),rfl⟩)
def ve4(k:Int):Int:=
 if k==5 then 6 else if k==6 then 7 else if k==16 then 8 else if k==17 then 9 else if k==18 then 10 else if k==19 then 11
 else if k==20 then 12 else if k==21 then 13 else if k==22 then 16 else if k==23 then 17 else if k==24 then 18 else 19
theorem vh1(k:Int)(w:World):
  Calls prog 197 #[.int .i64 k] w λe w'=>e=.returned (.int .i64 (ve4 k))/\w'=w:=by
 go_enter func197,ntmps197
 go_wp2_with fail
 all_goals(go_ret;refine⟨qg3 ?_,rfl⟩;go_light;simp only[ve4, *,if_true,Bool.false_eq_true,if_false])
structure Pay where
 op:Int
 place:Int
 num:Int
 str:List UInt8
 esc:List UInt8
 texts:List (List UInt8)
inductive Ast where
 | leaf (p:Pay)
 | un (p:Pay) (x:Ast)
 | bin (p:Pay) (x y:Ast)
 | tri (p:Pay) (x y z:Ast)
def TextsAt(lo:Nat)(w:World)(v:Value)(ts:List (List UInt8)):Prop:=
 (ts=[]/\v=.slice none 0 0)\/∃g cap,v=.slice (some ⟨g,0,none⟩) ts.length cap/\lo<g/\g<w.heap.size/\∀(j:Nat) (t:List UInt8),ts[j]?=some t->w.cell? ⟨g,j,none⟩=some (.string (BS t))
structure NodeAt(lo:Nat)(w:World)(b:Nat)(p:Pay)(sides:Value):Prop where
 above:lo<b
 within:b<w.heap.size
 c0:w.cell? ⟨b,0,none⟩=some (.int .i64 p.op)
 c1:w.cell? ⟨b,1,none⟩=some (.int .i64 p.place)
 c2:w.cell? ⟨b,2,none⟩=some sides
 c3:w.cell? ⟨b,3,none⟩=some (.int .i64 p.num)
 c4:w.cell? ⟨b,4,none⟩=some (.string (BS p.str))
 c5:w.cell? ⟨b,5,none⟩=some (.string (BS p.esc))
 c6:∃tv,w.cell? ⟨b,6,none⟩=some tv/\TextsAt lo w tv p.texts
def IsNode(lo:Nat)(w:World):Value->Ast->Prop
 | v,.leaf p=>∃b,v=.pointer (some ⟨b,0,none⟩)/\NodeAt lo w b p (.slice none 0 0)
 | v,.un p x=>∃b g v1,v=.pointer (some ⟨b,0,none⟩)/\NodeAt lo w b p (.slice (some ⟨g,0,none⟩) 1 1)/\lo<g/\g<w.heap.size/\w.cell? ⟨g,0,none⟩=some v1/\IsNode lo w v1 x
 | v,.bin p x y=>∃b g v1 v2,v=.pointer (some ⟨b,0,none⟩)/\NodeAt lo w b p (.slice (some ⟨g,0,none⟩) 2 2)/\lo<g/\g<w.heap.size/\w.cell? ⟨g,0,none⟩=some v1/\w.cell? ⟨g,1,none⟩=some v2/\IsNode lo w v1 x/\IsNode lo w v2 y
 | v,.tri p x y z=>∃b g v1 v2 v3,v=.pointer (some ⟨b,0,none⟩)/\NodeAt lo w b p (.slice (some ⟨g,0,none⟩) 3 3)/\lo<g/\g<w.heap.size/\w.cell? ⟨g,0,none⟩=some v1/\w.cell? ⟨g,1,none⟩=some v2/\w.cell? ⟨g,2,none⟩=some v3/\IsNode lo w v1 x/\IsNode lo w v2 y/\IsNode lo w v3 z
theorem TextsAt.kept{lo:Nat}{w w':World}(hk:Kept lo w w'){v:Value}{ts:List (List UInt8)}(h:TextsAt lo w v ts):TextsAt lo w' v ts:=by
 rcases h with h|⟨g,cap,hv,hg,O4,hc⟩
 ·exact .inl h
 ·exact .inr ⟨g,cap,hv,hg,Nat.lt_of_lt_of_le O4 hk.size,λj t ht=>((qe1 hk).1 g j O4 (by omega)).trans (hc j t ht)⟩
theorem NodeAt.kept{lo:Nat}{w w':World}(hk:Kept lo w w'){b:Nat}{p:Pay}{sides:Value}(h:NodeAt lo w b p sides):NodeAt lo w' b p sides:=by
 obtain⟨h1,h2,c0,c1,c2,c3,c4,c5,tv,c6,ht⟩:=h;have hc:=λj=>(qe1 hk).1 b j h2 (by omega)
 exact⟨h1,Nat.lt_of_lt_of_le h2 hk.size,(hc 0).trans c0,(hc 1).trans c1,(hc 2).trans c2,(hc 3).trans c3,(hc 4).trans c4,(hc 5).trans c5,tv,(hc 6).trans c6,ht.kept hk⟩
theorem IsNode.kept{lo:Nat}{w w':World}(hk:Kept lo w w'):∀{t:Ast} {v:Value},IsNode lo w v t->IsNode lo w' v t:=by
 have hc:=λg j (h1:lo<g) (h2:g<w.heap.size)=>(qe1 hk).1 g j h2 (by omega)
 intro t
 induction t with
 | leaf p=>rintro v⟨b,rfl,h⟩;exact⟨b,rfl,h.kept hk⟩
 | un p x ih=>
  rintro v⟨b,g,v1,rfl,h,h1,h2,e1,n1⟩;exact⟨b,g,v1,rfl,h.kept hk,h1,Nat.lt_of_lt_of_le h2 hk.size,(hc g 0 h1 h2).trans e1,ih n1⟩
 | bin p x y ihx ihy=>
  rintro v⟨b,g,v1,v2,rfl,h,h1,h2,e1,e2,n1,n2⟩;exact⟨b,g,v1,v2,rfl,h.kept hk,h1,Nat.lt_of_lt_of_le h2 hk.size,(hc g 0 h1 h2).trans e1,(hc g 1 h1 h2).trans e2,ihx n1,ihy n2⟩
 | tri p x y z ihx ihy ihz=>
  rintro v⟨b,g,v1,v2,v3,rfl,h,h1,h2,e1,e2,e3,n1,n2,n3⟩;exact⟨b,g,v1,v2,v3,rfl,h.kept hk,h1,Nat.lt_of_lt_of_le h2 hk.size,(hc g 0 h1 h2).trans e1,(hc g 1 h1 h2).trans e2,(hc g 2 h1 h2).trans e3,ihx n1,ihy n2,ihz n3⟩
inductive Res where
 | ok (t:Ast) (st:St)
 | err (en pl:Int)
structure Fine(s:ByteArray)(st:St):Prop where
 place:st.place<=s.size
 after:st.after<=s.size
 long:st.tk.kind≠0->st.place<st.after
def Gives(rb:Nat)(s:ByteArray)(w:World)(op lo:Nat)(r:Res)(e:Ending)(w':World):Prop:=
 Kept rb w w'/\match r with
 | .ok t st=>∃v,e=.returned v/\IsNode rb w' v t/\RdAt w' rb s st/\Fine s st/\st.op=op/\lo<=st.place
 | .err en pl=>e=qd2 en pl
structure Ready(rb:Nat)(s:ByteArray)(w:World)(st:St):Prop where
 at':RdAt w rb s st
 lt:rb<w.heap.size
 err:ErrOk w
 glob:3<rb
 fine:Fine s st
 size:s.size<=140737488355328
def qm4(K:Nat)(rb:Nat)(s:ByteArray)(op:Nat)(f:St->Res):Prop:=
 ∀(w:World) (st:St),Ready rb s w st->st.op=op->Calls prog K #[.pointer (some ⟨rb,0,none⟩)] w (Gives rb s w op st.place (f st))
theorem Ready.kept{rb:Nat}{s:ByteArray}{w w':World}{st st':St}(h:Ready rb s w st)(hk:Kept rb w w')(hr:RdAt w' rb s st')(ha:Fine s st'):Ready rb s w' st':=
 ⟨hr,Nat.lt_of_lt_of_le h.lt hk.size,h.err.kept hk h.glob,h.glob,ha,h.size⟩
theorem jp3{p:UInt8->Bool}{c:UInt8}{t:List UInt8}(h:p c=true):0<qa3 p (c::t):=by simp[qa3,h]
theorem ve9(l:List UInt8)(h:0<l.length):0<qq4 l:=by
 cases l with
 | nil=>simp at h
 | cons c t=>
  simp only[qq4]
  split
  ·rename_i hb;simp[qa8,hb]
  ·split
   ·rename_i hd;exact jp3 hd
   ·split
    ·unfold qq7;split
     ·omega
     ·exact h
    ·unfold qr3;split
     ·omega
     ·omega
     ·split<;>omega
theorem qa7(s:ByteArray)(st:St)(h:st.after<=s.size):Fine s (j4 s st):=by
 have h1:=jd1 s.data.toList st.after (by rw[qa5];exact h);have h2:=vn0 s.data.toList st.after;rw[qa5]at h1 h2;refine⟨h1,h2,λhk=>?_⟩;show qc2 s.data.toList st.after<qd5 s.data.toList st.after;unfold qd5
 by_cases hl:qc2 s.data.toList st.after<s.data.toList.length
 ·rw[if_pos hl]
  have:=ve9 (s.data.toList.drop (qc2 s.data.toList st.after)) (by rw[List.length_drop];omega);omega
 ·exfalso;apply hk
  show(qc0 s.data.toList st.after).kind=0;unfold qc0;rw[if_neg hl];rfl
theorem qk6(s:ByteArray)(st:St):st.after<=(j4 s st).place:=by
 show st.after<=qc2 s.data.toList st.after;unfold qc2;omega
def ja4(st:St)(l r:Ast):Ast:=.bin ⟨ve4 st.tk.kind,st.place,0,[],[],[]⟩ l r
def qf1(s:ByteArray)(f:St->Res)(st:St)(l:Ast):Res:=match f (j4 s st) with
 | .ok r st'=>.ok (ja4 st l r) st'
 | .err en pl=>.err en pl
theorem qk3{s:ByteArray}{f:St->Res}{st:St}{l r:Ast}{st':St}(h:f (j4 s st)=.ok r st'):qf1 s f st l=.ok (ja4 st l r) st':=by unfold qf1;rw[h]
theorem qi7{s:ByteArray}{f:St->Res}{st:St}{l:Ast}{en pl:Int}(h:f (j4 s st)=.err en pl):qf1 s f st l=.err en pl:=by unfold qf1;rw[h]
theorem gone{Q:Prop}{w:World}(h:Q)(_:wpAny prog .any #[] (λ_ _ _=>True) 0 #[] ⟨#[],[]⟩ w):Q:=h
theorem stepSt_op(s:ByteArray)(st:St):(j4 s st).op=st.op:=rfl
theorem Ready.stepped{rb:Nat}{s:ByteArray}{w w1:World}{st:St}(h:Ready rb s w st)(hk:Kept rb w w1)(hr:RdAt w1 rb s (j4 s st)):Ready rb s w1.drew (j4 s st):=
 h.kept hk.drew (hr.below ((Below.refl w1.heap.size w1).drew) (Nat.lt_of_lt_of_le h.lt hk.size)) (qa7 s st h.fine.after)
theorem IsNode.ptr{rb:Nat}{w:World}{v:Value}{t:Ast}(h:IsNode rb w v t):∃b,v=.pointer (some ⟨b,0,none⟩):=by
 cases t with
 | leaf p=>obtain⟨b,hv,_⟩:=h;exact⟨b,hv⟩
 | un p x=>obtain⟨b,g,v1,hv,_⟩:=h;exact⟨b,hv⟩
 | bin p x y=>obtain⟨b,g,v1,v2,hv,_⟩:=h;exact⟨b,hv⟩
 | tri p x y z=>obtain⟨b,g,v1,v2,v3,hv,_⟩:=h;exact⟨b,hv⟩
theorem IsNode.two{rb:Nat}{w:World}{l r:Ast}{lv rv:Value}(hl:IsNode rb w lv l)(hr:IsNode rb w rv r)(A1:rb<w.heap.size)(op place:Int):
  IsNode rb ((w.alloc (.cells #[lv,rv] 67)).alloc (.cells #[.int .i64 op,.int .i64 place,.slice (some ⟨w.heap.size,0,none⟩) 2 2,.int .i64 0,.string ⟨#[]⟩,.string ⟨#[]⟩,.slice none 0 0] 102))
   (.pointer (some ⟨w.heap.size+1,0,none⟩)) (.bin ⟨op,place,0,[],[],[]⟩ l r):=by
 have hk:Kept rb w ((w.alloc (.cells #[lv,rv] 67)).alloc (.cells #[.int .i64 op,.int .i64 place,.slice (some ⟨w.heap.size,0,none⟩) 2 2,.int .i64 0,.string ⟨#[]⟩,.string ⟨#[]⟩,.slice none 0 0] 102)):=((Kept.refl rb w).alloc _).alloc _;refine⟨w.heap.size+1,w.heap.size,lv,rv,rfl,⟨by omega,by simp,by simp,by simp,by simp,by simp,by simp[BS],by simp[BS],.slice none 0 0,by simp,.inl ⟨rfl,rfl⟩⟩,A1,by simp;omega, ?_, ?_,hl.kept hk,hr.kept hk⟩
 ·rw[World.cell?_alloc_past _ _ _ (by simp),World.cell?_alloc_at _ _ _ _ rfl];rfl
 ·rw[World.cell?_alloc_past _ _ _ (by simp),World.cell?_alloc_at _ _ _ _ rfl];rfl
theorem vs1{K:Nat}(hK:K=102\/K=147\/K=266\/K=301\/K=241)(rb:Nat)(s:ByteArray)(op:Nat)(f:St->Res)(hf:qm4 K rb s op f)(st:St)(l:Ast)(lv:Value)(w:World)(h:Ready rb s w st)(H6:st.op=op)(hl:IsNode rb w lv l):
  Calls prog 146 #[.pointer (some ⟨rb,0,none⟩),lv,.func (.func K) #[.pointer (some ⟨rb,0,none⟩)] #[]] w (Gives rb s w op st.after (qf1 s f st l)):=by
 have hr:=h.at';have A1:=h.lt;have H:=j3 h;obtain⟨c0,c1,c2,c3,c4,c5,c6,fz⟩:=hr;have HF:=j3 hf;obtain⟨lb,rfl⟩:=hl.ptr;have HL:=j3 hl;have n0:¬w.heap.size=rb:=by omega
 clear hf h hl;rcases hK with rfl|rfl|rfl|rfl|rfl
 all_goals
  cases A8:f (j4 s st) with
  | ok r st'=>
   rw[qk3 A8];have D4:=j3 A8;clear A8;go_enter func146,ntmps146
   go_wp2_with(go_at_call 54;refine(qm3 rb s st _ (q9 H).size (q9 H).fine.after ((q9 H).at'.allocd _ A1) (by simp;omega) ((q9 H).err.alloc _)).mono ?_;rintro e w1⟨rfl,A4,A0⟩;have A4:=j3 A4;have C8:w.heap.size<w1.heap.size:=(by have:=A0.size;simp at this;omega);have p0:w1.cell? ⟨w.heap.size,0,none⟩=some (.int .i64 st.tk.kind):=((qe1 A0).1 _ 0 (by simp) n0).trans (by simp);have p1:w1.cell? ⟨w.heap.size,1,none⟩=some (.int .i64 st.place):=((qe1 A0).1 _ 1 (by simp) n0).trans (by simp);have F3:=j3 (((Kept.refl rb w).alloc _).trans A0);clear A0)
   go_region_held3 (λw'=>w'.cell? ⟨w.heap.size,0,none⟩=some (.int .i64 st.tk.kind)/\w'.cell? ⟨w.heap.size,1,none⟩=some (.int .i64 st.place)) (go_keep) (first|(go_at_call 197;refine(vh1 _ _).mono ?_;rintro e w'⟨rfl,rfl⟩)|((first|go_at_call 102|go_at_call 147|go_at_call 266|go_at_call 301|go_at_call 241);refine(q9 HF _ (j4 s st) ((q9 H).stepped (q9 F3) (q9 A4)) H6).mono ?_;rintro e w2⟨A3,h2⟩;rw[q9 D4]at h2;obtain⟨v2,rfl,G8,A5,kM,I2,S8⟩:=h2;obtain⟨vb,rfl⟩:=G8.ptr;have QW:w2.cell? ⟨w.heap.size,0,none⟩=some (.int .i64 st.tk.kind):=((qe1 A3).1 _ 0 C8 n0).trans p0;have QV:w2.cell? ⟨w.heap.size,1,none⟩=some (.int .i64 st.place):=((qe1 A3).1 _ 1 C8 n0).trans p1;have F8:w.heap.size<w2.heap.size:=Nat.lt_of_lt_of_le C8 A3.size;have A3:=j3 A3;have G8:=j3 G8;have A5:=j3 A5))
   all_goals(go_wp2_with fail)
   all_goals go_ret
   refine⟨?_,_,rfl, ?_, ?_,kM,I2,Nat.le_trans (qk6 s st) S8⟩
   ·exact((((q9 F3).trans ((Kept.refl rb w1).drew.trans (q9 A3))).alloc _).alloc _)
   ·have:=IsNode.two (op:=ve4 st.tk.kind) (place:=st.place) ((q9 HL).kept ((q9 F3).trans ((Kept.refl rb w1).drew.trans (q9 A3)))) (q9 G8) (by omega)
    exact this
   ·exact(((q9 A5).allocd _ (by omega)).allocd _ (by simp;omega))
  | err en pl=>
   rw[qi7 A8];have D4:=j3 A8;clear A8;go_enter func146,ntmps146
   go_wp2_with(go_at_call 54;refine(qm3 rb s st _ (q9 H).size (q9 H).fine.after ((q9 H).at'.allocd _ A1) (by simp;omega) ((q9 H).err.alloc _)).mono ?_;rintro e w1⟨rfl,A4,A0⟩;have A4:=j3 A4;have C8:w.heap.size<w1.heap.size:=(by have:=A0.size;simp at this;omega);have p0:w1.cell? ⟨w.heap.size,0,none⟩=some (.int .i64 st.tk.kind):=((qe1 A0).1 _ 0 (by simp) n0).trans (by simp);have p1:w1.cell? ⟨w.heap.size,1,none⟩=some (.int .i64 st.place):=((qe1 A0).1 _ 1 (by simp) n0).trans (by simp);have F3:=j3 (((Kept.refl rb w).alloc _).trans A0);clear A0)
   go_region_with(first|(go_at_call 197;refine(vh1 _ _).mono ?_;rintro e w'⟨rfl,rfl⟩)|((first|go_at_call 102|go_at_call 147|go_at_call 266|go_at_call 301|go_at_call 241);refine(q9 HF _ (j4 s st) ((q9 H).stepped (q9 F3) (q9 A4)) H6).mono ?_;rintro e w2⟨A3,h2⟩;rw[q9 D4]at h2;subst h2;refine gone (w:=w2) ⟨rfl,(q9 F3).trans ((Kept.refl rb w1).drew.trans A3),rfl⟩ ?_))
   all_goals trivial
end Go.Proofs.YtfkcaldjphakpaaGreatDoor
