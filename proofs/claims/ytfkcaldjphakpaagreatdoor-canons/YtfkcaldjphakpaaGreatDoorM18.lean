/- The document's answer: a reader with an error stays as it is. The document's answer: a node more, of no, one or two operands. -/
import Derived.Test.YtfkcaldjphakpaaGreatDoorM17
set_option maxHeartbeats 1000000
namespace Go.Proofs.YtfkcaldjphakpaaGreatDoor
open Go.RowKit
section
theorem RE.cells {w:World} {rb:Nat} {s:ByteArray} {en pl:Int} {op m:Nat} (h:RE w rb s en pl op m):∃a,w.cell? ⟨rb,2,none⟩=some (.int .i64 1)∧w.cell? ⟨rb,3,none⟩=some (.int .i64 a)∧w.cell? ⟨rb,4,none⟩=some (.int .i64 0)∧w.cell? ⟨rb,5,none⟩=some (.string ⟨#[]⟩)∧w.cell? ⟨rb,6,none⟩=some (.int .i64 0):=by obtain ⟨nv,a,ns,h,_⟩:=h;exact ⟨a,h.c2,h.c3,h.c4,h.c5,h.c6⟩
theorem vh4 (rb:Nat) (s:ByteArray):qn9 351 rb s:=by
 intro w en pl op m h
 obtain ⟨a,c2,c3,c4,c5,c6⟩:=h.cells
 obtain ⟨c8,hen⟩:=h.c8
 have hlt:=h.lt
 have n0:¬w.heap.size=rb:=by omega
 have n1:¬rb=w.heap.size:=by omega
 have H:=j4 h
 clear h
 go_enter Tryz.func351,Tryz.ntmps351
 go_wp2_with fail
 go_ret
 have hb:∀o,Below w.heap.size w (w.alloc o):=fun o=>(Below.refl _ _).alloc (Nat.le_refl _) o
 exact ⟨0,rfl,TKept.of_below (hb _) hlt,(q9 H).below (hb _)⟩
theorem vu0 (rb:Nat) (s:ByteArray) (hC:qn9 351 rb s):qn9 342 rb s:=by
 intro w en pl op m h
 have HC:=j4 (hC w en pl op m h)
 clear h hC
 go_enter Tryz.func342,Tryz.ntmps342
 go_wp2_with (go_at_call 351;refine (q9 HC).mono ?_;rintro e w1 ⟨i,rfl,hk1,hr1⟩;obtain ⟨c8,hen⟩:=hr1.c8;have HK1:=j4 hk1;have HR1:=j4 hr1;clear hk1 hr1)
 go_loopw [3] (fun v wr=>v=.int .i64 (i:Int)∧wr=w1) (fun _ _=>0)
 case atStart=>exact ⟨rfl,rfl⟩
 case round=>
  obtain ⟨rfl,rfl⟩:=hrel
  go_wp2_with fail
  go_ret
  exact ⟨i,rfl,q9 HK1,q9 HR1⟩
theorem sum_errs (rb:Nat) (s:ByteArray) (hC:qn9 342 rb s):qn9 320 rb s:=by
 intro w en pl op m h
 have HC:=j4 (hC w en pl op m h)
 clear h hC
 go_enter Tryz.func320,Tryz.ntmps320
 go_wp2_with (go_at_call 342;refine (q9 HC).mono ?_;rintro e w1 ⟨i,rfl,hk1,hr1⟩;obtain ⟨c8,hen⟩:=hr1.c8;have HK1:=j4 hk1;have HR1:=j4 hr1;clear hk1 hr1)
 go_loopw [3] (fun v wr=>v=.int .i64 (i:Int)∧wr=w1) (fun _ _=>0)
 case atStart=>exact ⟨rfl,rfl⟩
 case round=>
  obtain ⟨rfl,rfl⟩:=hrel
  go_wp2_with fail
  go_ret
  exact ⟨i,rfl,q9 HK1,q9 HR1⟩
theorem both_errs (rb:Nat) (s:ByteArray) (hC:qn9 259 rb s):qn9 214 rb s:=by
 intro w en pl op m h
 have HC:=j4 (hC w en pl op m h)
 clear h hC
 go_enter Tryz.func214,Tryz.ntmps214
 go_wp2_with (go_at_call 259;refine (q9 HC).mono ?_;rintro e w1 ⟨i,rfl,hk1,hr1⟩;obtain ⟨c8,hen⟩:=hr1.c8;have HK1:=j4 hk1;have HR1:=j4 hr1;clear hk1 hr1)
 go_loopw [3] (fun v wr=>v=.int .i64 (i:Int)∧wr=w1) (fun _ _=>0)
 case atStart=>exact ⟨rfl,rfl⟩
 case round=>
  obtain ⟨rfl,rfl⟩:=hrel
  go_wp2_with fail
  go_ret
  exact ⟨i,rfl,q9 HK1,q9 HR1⟩
theorem vz0 (rb:Nat) (s:ByteArray) (hC:qn9 214 rb s):qn9 173 rb s:=by
 intro w en pl op m h
 have HC:=j4 (hC w en pl op m h)
 clear h hC
 go_enter Tryz.func173,Tryz.ntmps173
 go_wp2_with (go_at_call 214;refine (q9 HC).mono ?_;rintro e w1 ⟨i,rfl,hk1,hr1⟩;obtain ⟨c8,hen⟩:=hr1.c8;have HK1:=j4 hk1;have HR1:=j4 hr1;clear hk1 hr1)
 go_loopw [3] (fun v wr=>v=.int .i64 (i:Int)∧wr=w1) (fun _ _=>0)
 case atStart=>exact ⟨rfl,rfl⟩
 case round=>
  obtain ⟨rfl,rfl⟩:=hrel
  go_wp2_with fail
  go_ret
  exact ⟨i,rfl,q9 HK1,q9 HR1⟩
theorem test_errs (rb:Nat) (s:ByteArray) (hC:qn9 320 rb s):qn9 294 rb s:=by
 intro w en pl op m h
 obtain ⟨a,c2,c3,c4,c5,c6⟩:=h.cells
 have HC:=j4 (hC w en pl op m h)
 clear h hC
 go_enter Tryz.func294,Tryz.ntmps294
 go_wp2_with (go_at_call 320;refine (q9 HC).mono ?_;rintro e w1 ⟨i,rfl,hk1,hr1⟩;obtain ⟨c8,hen⟩:=hr1.c8;have HK1:=j4 hk1;have HR1:=j4 hr1;clear hk1 hr1)
 go_ret
 exact ⟨i,rfl,q9 HK1,q9 HR1⟩
theorem vy9 (rb:Nat) (s:ByteArray) (hC:qn9 294 rb s):qn9 259 rb s:=by
 intro w en pl op m h
 have HI:=j4 (ris_re h (kind:=6) (X:=⟨#[78,79,84]⟩) (by decide))
 have HC:=j4 (hC w en pl op m h)
 clear h hC
 go_enter Tryz.func259,Tryz.ntmps259
 go_wp2_with (first|(go_at_call 215;refine (q9 HI).mono ?_;rintro e w1 ⟨rfl,rfl⟩)|(go_at_call 294;refine (q9 HC).mono ?_;rintro e w1 ⟨i,rfl,hk1,hr1⟩;have HK1:=j4 hk1;have HR1:=j4 hr1;clear hk1 hr1))
 go_ret
 exact ⟨i,rfl,q9 HK1,q9 HR1⟩
end
section
section
variable {w:World} {rb:Nat} {s:ByteArray} {ns:List RN} {j:Nat} {st:St} {en pl:Int} {op m:Nat}
theorem RowOf.no (w:World) (rb:Nat) (ty:TypeId):RowOf w rb ty (.slice none 0 0) []:=.inl ⟨rfl,rfl⟩
theorem RowOf.made {w:World} {rb:Nat} (hlt:rb<w.heap.size) (hf:∀o,¬qy2 (w.alloc o) rb w.heap.size) (ty:TypeId) (c:Array Value) (n:Nat) (hn:n=c.size):RowOf (w.alloc (.cells c ty)) rb ty (.slice (some ⟨w.heap.size,0,none⟩) n n) c.toList:=by
 subst hn
 exact .inr ⟨w.heap.size,c.size,c,(0,0),rfl,hlt,heap_alloc_new w _,hf _,fun j u h=>by simpa using h⟩
theorem qf6 {w w':World} {rb:Nat} (hlt:rb<w.heap.size) {o:Obj} (h:TKept rb (w.alloc o) w'):TKept rb w w':=(TKept.of_below ((Below.refl w.heap.size w).alloc (Nat.le_refl _) o) hlt).trans h
theorem RT.alloc (h:RT w rb s ns j st) (o:Obj):RT (w.alloc o) rb s ns j st:=h.below ((Below.refl _ _).alloc (Nat.le_refl _) o)
theorem RE.alloc (h:RE w rb s en pl op m) (o:Obj):RE (w.alloc o) rb s en pl op m:=h.below ((Below.refl _ _).alloc (Nat.le_refl _) o)
theorem qu8 (h:RT w rb s ns (j+1) st) (hs:s.size≤200) (p:Pay) {N S:ByteArray} (hN:BS (qb9 p.op)=N) (hS:BS p.str=S) (he:p.esc=[]) (ht:p.texts=[]) :
  Calls Tryz.prog 216 #[.pointer (some ⟨rb,0,none⟩),.agg #[.string N,.int .i64 p.place,.slice none 0 0,.string S,.string ⟨#[]⟩,.slice none 0 0,.int .i64 p.num,.bool false,.int .i64 0]] w
   fun e w'=>e=.returned (.int .i64 ns.length)∧TKept rb w w'∧RT w' rb s (ns++[qj5 p [] false]) j st:=by
 have:=vp1 h hs (qj5 p [] false) (iv:=.slice none 0 0) (lv:=.slice none 0 0) (RowOf.no _ _ _) (by show RowOf _ _ _ _ (qa0 p.texts);rw [ht];exact RowOf.no _ _ _)
 unfold rnV at this
 have e1:(qj5 p [] false).op=qb9 p.op:=rfl
 have e2:(qj5 p [] false).str=p.str:=rfl
 have e3:(qj5 p [] false).esc=p.esc:=rfl
 rw [e1,e2,e3,hN,hS,he] at this
 exact this
theorem jb2 (h:RT w rb s ns (j+1) st) (hs:s.size≤200) (p:Pay) (i:Nat) {N:ByteArray} (hN:BS (qb9 p.op)=N) (hS:p.str=[]) (he:p.esc=[]) (ht:p.texts=[]) {g:Nat} (hg:g=w.heap.size) :
  Calls Tryz.prog 216 #[.pointer (some ⟨rb,0,none⟩),.agg #[.string N,.int .i64 p.place,.slice (some ⟨g,0,none⟩) 1 1,.string ⟨#[]⟩,.string ⟨#[]⟩,.slice none 0 0,.int .i64 p.num,.bool false,.int .i64 0]] (w.alloc (.cells #[.int .i64 i] 3))
   fun e w'=>e=.returned (.int .i64 ns.length)∧TKept rb w w'∧RT w' rb s (ns++[qj5 p [i] false]) j st:=by
 subst hg
 have:=vp1 (h.alloc (.cells #[.int .i64 i] 3)) hs (qj5 p [i] false) (iv:=.slice (some ⟨w.heap.size,0,none⟩) 1 1) (lv:=.slice none 0 0) (RowOf.made h.lt h.fresh _ _ 1 rfl) (by show RowOf _ _ _ _ (qa0 p.texts);rw [ht];exact RowOf.no _ _ _)
 unfold rnV at this
 have e1:(qj5 p [i] false).op=qb9 p.op:=rfl
 have e2:(qj5 p [i] false).str=p.str:=rfl
 have e3:(qj5 p [i] false).esc=p.esc:=rfl
 rw [e1,e2,e3,hN,hS,he] at this
 refine this.mono ?_
 rintro e w' ⟨rfl,hk,hr⟩
 exact ⟨rfl,qf6 h.lt hk,hr⟩
theorem qs6 (h:RT w rb s ns (j+1) st) (hs:s.size≤200) (p:Pay) (i k:Nat) {N:ByteArray} (hN:BS (qb9 p.op)=N) (hS:p.str=[]) (he:p.esc=[]) (ht:p.texts=[]) {g:Nat} (hg:g=w.heap.size) :
  Calls Tryz.prog 216 #[.pointer (some ⟨rb,0,none⟩),.agg #[.string N,.int .i64 p.place,.slice (some ⟨g,0,none⟩) 2 2,.string ⟨#[]⟩,.string ⟨#[]⟩,.slice none 0 0,.int .i64 p.num,.bool false,.int .i64 0]] (w.alloc (.cells #[.int .i64 i,.int .i64 k] 3))
   fun e w'=>e=.returned (.int .i64 ns.length)∧TKept rb w w'∧RT w' rb s (ns++[qj5 p [i,k] false]) j st:=by
 subst hg
 have:=vp1 (h.alloc (.cells #[.int .i64 i,.int .i64 k] 3)) hs (qj5 p [i,k] false) (iv:=.slice (some ⟨w.heap.size,0,none⟩) 2 2) (lv:=.slice none 0 0) (RowOf.made h.lt h.fresh _ _ 2 rfl) (by show RowOf _ _ _ _ (qa0 p.texts);rw [ht];exact RowOf.no _ _ _)
 unfold rnV at this
 have e1:(qj5 p [i,k] false).op=qb9 p.op:=rfl
 have e2:(qj5 p [i,k] false).str=p.str:=rfl
 have e3:(qj5 p [i,k] false).esc=p.esc:=rfl
 rw [e1,e2,e3,hN,hS,he] at this
 refine this.mono ?_
 rintro e w' ⟨rfl,hk,hr⟩
 exact ⟨rfl,qf6 h.lt hk,hr⟩
theorem qr9 (h:RE w rb s en pl op m) (hm:m≤1000) (N:List UInt8) (a:Int) (i:Nat) {NB:ByteArray} (hN:BS N=NB) {g:Nat} (hg:g=w.heap.size) :
  Calls Tryz.prog 216 #[.pointer (some ⟨rb,0,none⟩),.agg #[.string NB,.int .i64 a,.slice (some ⟨g,0,none⟩) 1 1,.string ⟨#[]⟩,.string ⟨#[]⟩,.slice none 0 0,.int .i64 0,.bool false,.int .i64 0]] (w.alloc (.cells #[.int .i64 i] 3))
   fun e w'=>∃i:Nat,e=.returned (.int .i64 i)∧TKept rb w w'∧RE w' rb s en pl op (m+1):=by
 subst hg
 subst hN
 refine (vp0 (h.alloc (.cells #[.int .i64 i] 3)) hm ⟨N,a,[i],[],[],[],0,false,0⟩ (iv:=.slice (some ⟨w.heap.size,0,none⟩) 1 1) (lv:=.slice none 0 0) (RowOf.made h.lt h.fresh _ _ 1 rfl) (RowOf.no _ _ _)).mono ?_
 rintro e w' ⟨k,rfl,hk,hr⟩
 exact ⟨k,rfl,qf6 h.lt hk,hr⟩
theorem qq5 (h:RE w rb s en pl op m) (hm:m≤1000) (N:List UInt8) (a:Int) (i k:Nat) {NB:ByteArray} (hN:BS N=NB) {g:Nat} (hg:g=w.heap.size) :
  Calls Tryz.prog 216 #[.pointer (some ⟨rb,0,none⟩),.agg #[.string NB,.int .i64 a,.slice (some ⟨g,0,none⟩) 2 2,.string ⟨#[]⟩,.string ⟨#[]⟩,.slice none 0 0,.int .i64 0,.bool false,.int .i64 0]] (w.alloc (.cells #[.int .i64 i,.int .i64 k] 3))
   fun e w'=>∃i:Nat,e=.returned (.int .i64 i)∧TKept rb w w'∧RE w' rb s en pl op (m+1):=by
 subst hg
 subst hN
 refine (vp0 (h.alloc (.cells #[.int .i64 i,.int .i64 k] 3)) hm ⟨N,a,[i,k],[],[],[],0,false,0⟩ (iv:=.slice (some ⟨w.heap.size,0,none⟩) 2 2) (lv:=.slice none 0 0) (RowOf.made h.lt h.fresh _ _ 2 rfl) (RowOf.no _ _ _)).mono ?_
 rintro e w' ⟨k,rfl,hk,hr⟩
 exact ⟨k,rfl,qf6 h.lt hk,hr⟩
theorem TKept.mine {w w':World} {rb L:Nat} (h:TKept rb w w') (hL:L<w.heap.size) (ho:¬qy2 w rb L):(∀i,w'.cell? ⟨L,i,none⟩=w.cell? ⟨L,i,none⟩)∧(∀i,w'.frozen? ⟨L,i,none⟩=w.frozen? ⟨L,i,none⟩)∧w'.heap[L]?=w.heap[L]?∧¬qy2 w' rb L∧L<w'.heap.size:=
 ⟨fun i=>World.cell?_of_block (w:=w) (w':=w') (a:=⟨L,i,none⟩) (h.block L hL ho),fun i=>World.frozen?_of_block (w:=w) (w':=w') (a:=⟨L,i,none⟩) (h.block L hL ho),h.block L hL ho,fun h2=>ho (h.own L hL h2),Nat.lt_of_lt_of_le hL h.size⟩
end
theorem opName_of {k:Int} (h:k=5∨k=6∨(16≤k∧k≤25)):qb9 (qw9 k)=kwT k:=by
 have:k=5∨k=6∨k=16∨k=17∨k=18∨k=19∨k=20∨k=21∨k=22∨k=23∨k=24∨k=25:=by omega
 rcases this with rfl|rfl|rfl|rfl|rfl|rfl|rfl|rfl|rfl|rfl|rfl|rfl<;>decide
theorem vw2 {st:St} (h:5≤st.tk.kind):tkS st=kwT st.tk.kind:=by unfold tkS rS;rw [if_neg (by omega),if_neg (by omega)]
end
end Go.Proofs.YtfkcaldjphakpaaGreatDoor
