/- The document's answer: what every node of a term is like. The document's answer: the values of a term's nodes in their order are its values. The document's answer: Read. -/
import Derived.Test.YtfkcaldjphakpaaGreatDoorM28
import Derived.Test.YtfkcaldjphakpaaGreatDoorM09
import Derived.Deep.DeepCutAuto
set_option maxHeartbeats 8000000
set_option maxRecDepth 100000
namespace Go.Proofs.YtfkcaldjphakpaaGreatDoor
open Go.RowKit
section
theorem vf8 {l:List RN} {n m:RN} {i:Nat} (h:(l++[n])[i]?=some m):(i<l.length∧l[i]?=some m)∨(i=l.length∧n=m):=by
 by_cases hi:i<l.length
 ·rw [List.getElem?_append_left hi] at h;exact .inl ⟨hi,h⟩
 ·right
  have hlt:=(List.getElem?_eq_some_iff.1 h).1
  simp at hlt
  obtain rfl:i=l.length:=by omega
  exact ⟨rfl,by simpa using h⟩
theorem vg6 {l k:List RN} {m:RN} {i:Nat} (h:(l++k)[i]?=some m):(i<l.length∧l[i]?=some m)∨(l.length≤i∧k[i - l.length]?=some m):=by
 by_cases hi:i<l.length
 ·rw [List.getElem?_append_left hi] at h;exact .inl ⟨hi,h⟩
 ·rw [List.getElem?_append_right (by omega)] at h;exact .inr ⟨by omega,h⟩
theorem va9 {i:Nat} {p:Pay} {ins:List Nat} {neg:Bool} (h0:0≤p.op) (h23:p.op≤23) (hi:∀k∈ins,k<i) (h2:p.op=8∨p.op=9→∃a b,ins=[a,b]) (hl:ins.length≤3):∃o,NF i (qj5 p ins neg) o:=⟨p.op,h0,h23,rfl,hi,h2,hl⟩
theorem ja6:∀{t:Ast} {off:Nat} {l:List RN},Flat t off l→ShA t→∀i n,l[i]?=some n→∃o,NF (off+i) n o:=by
 intro t off l h
 induction h with
 | leaf p off=>
  intro hs i n hi
  rcases i with _|i
  ·obtain rfl:qj5 p [] false=n:=by simpa using hi
   exact va9 hs.1 (by have:=hs.2;omega) (by simp) (by have:=hs.2;omega) (by simp)
  ·simp at hi
 | @un p x off l hx ih=>
  intro hs i n hi
  have hp:=hx.pos
  have ho:=hs.1
  rcases vf8 hi with ⟨h1,h2⟩|⟨rfl,rfl⟩
  ·exact ih hs.2.2.2 i n h2
  ·exact va9 (by omega) (by omega) (by simp;omega) (by omega) (by simp)
 | @bin p x y off l k hx hy ihx ihy=>
  intro hs i n hi
  have hp:=hx.pos
  have hq:=hy.pos
  have ho:=hs.1
  rcases vf8 hi with ⟨h1,h2⟩|⟨rfl,rfl⟩
  ·rcases vg6 h2 with ⟨h3,h4⟩|⟨h3,h4⟩
   ·exact ihx hs.2.1 i n h4
   ·have:=ihy hs.2.2 (i - l.length) n h4
    rwa [show off+l.length+(i - l.length)=off+i by omega] at this
  ·exact va9 (by omega) (by omega) (by simp;omega) (fun _=>⟨_,_,rfl⟩) (by simp)
 | @tri p x y z off l k r hx hy hz ihx ihy ihz=>
  intro hs i n hi
  have hp:=hx.pos
  have hq:=hy.pos
  have hr:=hz.pos
  have ho:=hs.1
  rcases vf8 hi with ⟨h1,h2⟩|⟨rfl,rfl⟩
  ·rcases vg6 h2 with ⟨h3,h4⟩|⟨h3,h4⟩
   ·rcases vg6 h4 with ⟨h5,h6⟩|⟨h5,h6⟩
    ·exact ihx hs.2.1 i n h6
    ·have:=ihy hs.2.2.1 (i - l.length) n h6
     rwa [show off+l.length+(i - l.length)=off+i by omega] at this
   ·have:=ihz hs.2.2.2 (i - (l++k).length) n h4
    simp only [List.length_append] at h3
    rwa [show off+l.length+k.length+(i - (l++k).length)=off+i by simp;omega] at this
  ·exact va9 (by omega) (by omega) (by simp;omega) (by omega) (by simp)
 | @neg1 pl q x off l hq hx ih=>
  intro hs i n hi
  have hp:=hx.pos
  obtain ⟨_,_,_,hs⟩:=hs
  rcases vf8 hi with ⟨h1,h2⟩|⟨rfl,rfl⟩
  ·exact ih hs.2.2.2 i n h2
  ·exact va9 (by omega) (by omega) (by simp;omega) (by omega) (by simp)
 | @neg3 pl q x y z off l k r hq hx hy hz ihx ihy ihz=>
  intro hs i n hi
  have hp:=hx.pos
  have hq':=hy.pos
  have hr:=hz.pos
  obtain ⟨_,_,_,hs⟩:=hs
  rcases vf8 hi with ⟨h1,h2⟩|⟨rfl,rfl⟩
  ·rcases vg6 h2 with ⟨h3,h4⟩|⟨h3,h4⟩
   ·rcases vg6 h4 with ⟨h5,h6⟩|⟨h5,h6⟩
    ·exact ihx hs.2.1 i n h6
    ·have:=ihy hs.2.2.1 (i - l.length) n h6
     rwa [show off+l.length+(i - l.length)=off+i by omega] at this
   ·have:=ihz hs.2.2.2 (i - (l++k).length) n h4
    simp only [List.length_append] at h3
    rwa [show off+l.length+k.length+(i - (l++k).length)=off+i by simp;omega] at this
  ·exact va9 (by omega) (by omega) (by simp;omega) (by omega) (by simp)
theorem vv8 {s:ByteArray} {t:Ast} {st:St} (h:(lvl s 12).E (j3 s st0)=.ok t st):ShA t:=by
 obtain ⟨L,hL⟩:=vm7 _ s.data.toList (Nat.le_refl _)
 have hst:Str s (j3 s st0) L:=vh9 hL st0 (Nat.zero_le _) (List.drop_zero)
 have hfi:=qa7 s st0 (Nat.zero_le _)
 have hsim:=(jc8 s 12).E (j3 s st0) ⟨L,0⟩ hfi hst rfl
 rcases hsim.cases with ⟨t1,st1,ts,e1,e2,_⟩|⟨en,pl,e1,e2⟩
 ·rw [e1] at h
  injection h with h _
  subst h
  exact jf3 t1 ((nd_lvl 12).E _ _ _ e2).1
 ·rw [e1] at h;cases h
theorem cls_end {t:Ast} {ns:List RN} (h:Flat t 0 ns) (hs:ShA t):vi8 (qr7 [] ns) (ns.length - 1)=match chkR (qa4 t) with
  | none=>(0,0)
  | some q=>(4,q):=by
 have hc:=cls_flat h hs [] rfl
 cases hcl:qa4 t with
 | err q=>
  rw [hcl] at hc
  have hc:qr7 [] ns=.inl q:=hc
  rw [hc];rfl
 | ok c=>
  rw [hcl] at hc
  obtain ⟨ds,h1,h2,h3⟩:=hc
  rw [h1,List.nil_append]
  show (if ds.getD (ns.length - 1) 0≠0∧ds.getD (ns.length - 1) 0≠1 then ((4:Int),(0:Int)) else (0,0))=_
  rw [h3]
  rcases c4 (qx1 t c hcl) with rfl|rfl|rfl|rfl<;>rfl
theorem RT.clw {w:World} {rb:Nat} {s:ByteArray} {ns:List RN} {j:Nat} {st:St} (h:RT w rb s ns j st) (hne:0<ns.length):∃g LN cap,ClW w rb g LN cap ns [] w:=by
 obtain ⟨nv,hT,hN,_⟩:=h
 obtain ⟨g,cap,rfl,_⟩:=hN.opAt (i:=0) (n:=ns[0]) (List.getElem?_eq_getElem hne)
 exact ⟨g,ns.length,cap,hT.c0,by rw [vx1];exact hN,TKept.refl rb w,hT.lt⟩
theorem RE.c9 {w:World} {rb:Nat} {s:ByteArray} {en pl:Int} {op m:Nat} (h:RE w rb s en pl op m):w.cell? ⟨rb,9,none⟩=some (.int .i64 pl):=by obtain ⟨nv,a,ns,h,_⟩:=h;exact h.c9
end
section
def jj0 (n:RN):Pay:=⟨ja7 n.op,n.at',n.num,n.str,n.esc,n.texts⟩
theorem vn8 {p:Pay} {ins:List Nat} {neg:Bool} (h0:0≤p.op) (h23:p.op≤23):jj0 (qj5 p ins neg)=p:=by
 show (⟨ja7 (qb9 p.op),p.place,p.num,p.str,p.esc,p.texts⟩:Pay)=p
 rw [qy9 h0 h23]
section
variable {ps:List Pr} {vs:List V} {off:Nat} {p:Pay} {neg:Bool}
end
end
section
def qp0 (w:World) (r:RRes) (e:Ending) (w':World):Prop:=Below w.heap.size w w'∧match r with
 | .ok t=>e=.returned (.tuple #[.pointer (some ⟨w.heap.size,0,none⟩),.int .i64 0,.int .i64 0])∧w.heap.size<w'.heap.size∧∃ns cs g LN cap,Flat t 0 ns∧ShA t∧ns.length≤200∧w'.cell? ⟨w.heap.size,0,none⟩=some (.slice (some ⟨g,0,none⟩) LN cap)∧NodesAt w' w.heap.size (.slice (some ⟨g,0,none⟩) LN cap) (qq8 ns cs)
 | .err en pl=>e=.returned (.tuple #[.pointer none,.int .i64 en,.int .i64 pl])
theorem qq0 (w:World) (s:ByteArray):TrC (w.alloc (.cells #[.slice none 0 0,.string s,.int .i64 0,.int .i64 0,.int .i64 0,.string ⟨#[]⟩,.int .i64 0,.int .i64 0,.int .i64 0,.int .i64 0] 237)) w.heap.size (.slice none 0 0) s 0 0 (0:Nat) ⟨#[]⟩ 0 0 0 0:=by
 refine ⟨by simp, ?_, ?_, ?_, ?_, ?_, ?_, ?_, ?_, ?_, ?_,fun j=>?_⟩
 all_goals simp
theorem qs1 {w w':World} {s:ByteArray} (h:TKept w.heap.size (w.alloc (.cells #[.slice none 0 0,.string s,.int .i64 0,.int .i64 0,.int .i64 0,.string ⟨#[]⟩,.int .i64 0,.int .i64 0,.int .i64 0,.int .i64 0] 237)) w'):Below w.heap.size w w':=by
 have hb:Below w.heap.size w (w.alloc (.cells #[.slice none 0 0,.string s,.int .i64 0,.int .i64 0,.int .i64 0,.string ⟨#[]⟩,.int .i64 0,.int .i64 0,.int .i64 0,.int .i64 0] 237)):=(Below.refl _ _).alloc (Nat.le_refl _) _
 refine ⟨h.os.trans hb.os,h.tape.trans hb.tape,h.output.trans hb.output,Nat.le_trans hb.size h.size,fun k hk=>(h.block k (by simp;omega) ?_).trans (hb.block k hk)⟩
 rintro (e|⟨nv,e1,e2⟩)
 ·omega
 ·rw [(qq0 w s).c0] at e1
  injection e1 with e1
  subst e1
  cases e2
theorem jk4 (s:ByteArray) (h:¬s.size≤200) (hs:s.size≤140737488355328) (w:World) :
  Calls Tryz.prog 123 #[.string s] w (qp0 w (.err 1 0)):=by
 have h1:(200:Int)<(s.size:Int):=by omega
 go_enter Tryz.func123,Tryz.ntmps123
 go_wp2_with fail
 exact bodyPost_ret (by simp [results,Tryz.results123,go_sem]) rfl ⟨Below.refl _ _,rfl⟩
theorem rread_err (s:ByteArray) (hs:s.size≤200) (w:World) {en pl:Int} (he:(lvl s 12).E (j3 s st0)=.err en pl) :
  Calls Tryz.prog 123 #[.string s] w (qp0 w (.err en pl)):=by
 have ST:=j4 (qr0 (qq0 w s) hs (Nat.zero_le _) (qr4 s st0))
 have hsz:¬(200:Int)<(s.size:Int):=by omega
 have HE:=j4 he
 clear he
 go_enter Tryz.func123,Tryz.ntmps123
 go_upto_region 6 with (first|(go_at_call 172;refine (q9 ST).mono ?_;rintro e w1 ⟨rfl,ht1,hk1⟩;have hK1:=TKept.of_kept hk1 (ht1.c0.trans (qq0 w s).c0.symm);have HK1:=j4 hK1;have HR1:Hid (RT w1 w.heap.size s [] 0 (j3 s st0)):=j4 ⟨_,ht1,NodesAt.nil _ _,qa7 s st0 (Nat.zero_le _),Nat.zero_le _⟩;clear ht1 hk1 hK1)|(go_at_call 173;refine ((je5 w.heap.size s hs 12 0 rfl).E w1 (j3 s st0) [] 0 (q9 HR1) rfl).mono ?_;rintro e w2 ⟨hk2,h2⟩;rw [q9 HE] at h2;obtain ⟨i,rfl,hr2⟩:=h2;have HX:=j4 hr2;have HK2:=j4 hk2;have hl2:=hr2.lt;clear hk2 hr2))
 rcases q9 HX with hr2|⟨rfl,hr2⟩
 ·obtain ⟨c8,hen⟩:=hr2.c8
  have c9:=hr2.c9
  clear hr2 HX
  go_wp2_with fail
  go_quiet (fail)
  go_wp2_with fail
  exact bodyPost_ret (by simp [results,Tryz.results123,go_sem]) rfl ⟨Go.below_drewN (qs1 ((q9 HK1).trans (q9 HK2))) _,rfl⟩
 ·obtain ⟨ns,nv,st,hT,hN,hkd,rfl,hm,hlo,hps⟩:=hr2
  have c8:=hT.c8
  have c3:=hT.c3
  have c2:=hT.c2
  rw [show rK st.tk.kind=6 by rcases hkd with e|e<;>rw [e]<;>rfl] at c2
  have FL:Hid (Calls Tryz.prog 174 #[.pointer (some ⟨w.heap.size,0,none⟩),.int .i64 2,.int .i64 st.place] w2 fun e w'=>e=.returned (.tuple #[])∧TrC w' w.heap.size nv s 1 st.place 0 ⟨#[]⟩ 0 (0:Nat) 2 st.place∧Kept w.heap.size w2 w'):=j4 (qs9 hT 2 st.place)
  have C0:=j4 hT.c0
  clear hT hN HX
  go_wp2_with (go_at_call 174;refine (q9 FL).mono ?_;rintro e w3 ⟨rfl,ht3,hk3⟩;have e8:=ht3.c8;have e9:=ht3.c9;have hl3:=ht3.lt;have HK3:=j4 (TKept.of_kept hk3 (ht3.c0.trans (q9 C0).symm));clear ht3 hk3)
  go_quiet (fail)
  go_wp2_with fail
  exact bodyPost_ret (by simp [results,Tryz.results123,go_sem]) rfl ⟨Go.below_drewN (qs1 (((q9 HK1).trans (q9 HK2)).trans (q9 HK3))) _,rfl⟩
theorem jk5 (s:ByteArray) (hs:s.size≤200) (w:World) {t:Ast} {st:St} (he:(lvl s 12).E (j3 s st0)=.ok t st) (hk:¬st.tk.kind=0) :
  Calls Tryz.prog 123 #[.string s] w (qp0 w (.err 2 st.place)):=by
 have ST:=j4 (qr0 (qq0 w s) hs (Nat.zero_le _) (qr4 s st0))
 have hsz:¬(200:Int)<(s.size:Int):=by omega
 have HE:=j4 he
 clear he
 have hk0:¬rK st.tk.kind=0:=by unfold rK;split<;>(try split)<;>omega
 go_enter Tryz.func123,Tryz.ntmps123
 go_wp2_with (first|(go_at_call 172;refine (q9 ST).mono ?_;rintro e w1 ⟨rfl,ht1,hk1⟩;have hK1:=TKept.of_kept hk1 (ht1.c0.trans (qq0 w s).c0.symm);have HK1:=j4 hK1;have HR1:Hid (RT w1 w.heap.size s [] 0 (j3 s st0)):=j4 ⟨_,ht1,NodesAt.nil _ _,qa7 s st0 (Nat.zero_le _),Nat.zero_le _⟩;clear ht1 hk1 hK1)|(go_at_call 173;refine ((je5 w.heap.size s hs 12 0 rfl).E w1 (j3 s st0) [] 0 (q9 HR1) rfl).mono ?_;rintro e w2 ⟨hk2,h2⟩;rw [q9 HE] at h2;obtain ⟨new,rfl,hr2,ho2,hp2,hfl⟩:=h2;have FL:=j4 (qp9 hr2 hs 2 st.place (by decide));have c8:=hr2.c8;obtain ⟨c2,c3,_⟩:=hr2.ct;have hl2:=hr2.lt;have HK2:=j4 hk2;clear hk2 hr2 hfl)|(go_at_call 174;refine (q9 FL).mono ?_;rintro e w3 ⟨rfl,hk3,hr3⟩;obtain ⟨c8,hen⟩:=hr3.c8;have c9:=hr3.c9;have hl3:=hr3.lt;have HK3:=j4 hk3;clear hk3 hr3))
 go_quiet (fail)
 go_wp2_with fail
 exact bodyPost_ret (by simp [results,Tryz.results123,go_sem]) rfl ⟨Go.below_drewN (qs1 (((q9 HK1).trans (q9 HK2)).trans (q9 HK3))) _,rfl⟩
theorem rread_cls (s:ByteArray) (hs:s.size≤200) (w:World) {t:Ast} {st:St} (he:(lvl s 12).E (j3 s st0)=.ok t st) (hk:st.tk.kind=0) {q:Int} (hc:chkR (qa4 t)=some q) :
  Calls Tryz.prog 123 #[.string s] w (qp0 w (.err 4 q)):=by
 have ST:=j4 (qr0 (qq0 w s) hs (Nat.zero_le _) (qr4 s st0))
 have hsz:¬(200:Int)<(s.size:Int):=by omega
 have HE:=j4 he
 have HSH:=j4 (vv8 he)
 have HCK:=j4 hc
 have HK0:Hid (rK st.tk.kind=0):=j4 (by rw [hk];rfl)
 clear he hc hk
 go_enter Tryz.func123,Tryz.ntmps123
 go_wp2_with (first|(go_at_call 172;refine (q9 ST).mono ?_;rintro e w1 ⟨rfl,ht1,hk1⟩;have hK1:=TKept.of_kept hk1 (ht1.c0.trans (qq0 w s).c0.symm);have HK1:=j4 hK1;have HR1:Hid (RT w1 w.heap.size s [] 0 (j3 s st0)):=j4 ⟨_,ht1,NodesAt.nil _ _,qa7 s st0 (Nat.zero_le _),Nat.zero_le _⟩;clear ht1 hk1 hK1)|(go_at_call 173;refine ((je5 w.heap.size s hs 12 0 rfl).E w1 (j3 s st0) [] 0 (q9 HR1) rfl).mono ?_;rintro e w2 ⟨hk2,h2⟩;rw [q9 HE] at h2;obtain ⟨new,he,hr2,ho2,hp2,hfl⟩:=h2;rw [List.nil_append] at hr2;have hnp:=hfl.pos;have hfew:=hr2.few;have hfpl:=hr2.fine.place;obtain ⟨g,LN,cap,hcw2⟩:=hr2.clw hnp;have CL:=j4 (vc3 hcw2 hnp (by omega) (fun i n hn=>by have:=ja6 hfl (q9 HSH) i n hn;rwa [List.length_nil,Nat.zero_add] at this));rw [cls_end (by have:=hfl;rwa [List.length_nil] at this) (q9 HSH),q9 HCK] at CL;obtain ⟨tp,htp⟩:∃x:Nat,new.length - 1=x:=⟨_,rfl⟩;rw [List.length_nil,Nat.zero_add,htp] at he;rw [htp] at CL;subst he;have c8:=hr2.c8;obtain ⟨c2,_⟩:=hr2.ct;rw [q9 HK0] at c2;have hl2:=hr2.lt;have HK2:=j4 hk2;have HFL:=j4 hfl;clear hk2 hr2 hfl hcw2 htp)|(go_at_call 175;refine (q9 CL).mono ?_;rintro e w3 ⟨rfl,hk3,hcw⟩;have HK3:=j4 hk3;have HCW:=j4 hcw;clear hk3 hcw))
 exact bodyPost_ret (by simp [results,Tryz.results123,go_sem]) rfl ⟨qs1 (((q9 HK1).trans (q9 HK2)).trans (q9 HK3)),rfl⟩
theorem rread_ok (s:ByteArray) (hs:s.size≤200) (w:World) {t:Ast} {st:St} (he:(lvl s 12).E (j3 s st0)=.ok t st) (hk:st.tk.kind=0) (hc:chkR (qa4 t)=none) :
  Calls Tryz.prog 123 #[.string s] w (qp0 w (.ok t)):=by
 have ST:=j4 (qr0 (qq0 w s) hs (Nat.zero_le _) (qr4 s st0))
 have hsz:¬(200:Int)<(s.size:Int):=by omega
 have HE:=j4 he
 have HSH:=j4 (vv8 he)
 have HCK:=j4 hc
 have HK0:Hid (rK st.tk.kind=0):=j4 (by rw [hk];rfl)
 clear he hc hk
 go_enter Tryz.func123,Tryz.ntmps123
 go_wp2_with (first|(go_at_call 172;refine (q9 ST).mono ?_;rintro e w1 ⟨rfl,ht1,hk1⟩;have hK1:=TKept.of_kept hk1 (ht1.c0.trans (qq0 w s).c0.symm);have HK1:=j4 hK1;have HR1:Hid (RT w1 w.heap.size s [] 0 (j3 s st0)):=j4 ⟨_,ht1,NodesAt.nil _ _,qa7 s st0 (Nat.zero_le _),Nat.zero_le _⟩;clear ht1 hk1 hK1)|(go_at_call 173;refine ((je5 w.heap.size s hs 12 0 rfl).E w1 (j3 s st0) [] 0 (q9 HR1) rfl).mono ?_;rintro e w2 ⟨hk2,h2⟩;rw [q9 HE] at h2;obtain ⟨new,he,hr2,ho2,hp2,hfl⟩:=h2;rw [List.nil_append] at hr2;have hnp:=hfl.pos;have hfew:=hr2.few;have hfpl:=hr2.fine.place;obtain ⟨g,LN,cap,hcw2⟩:=hr2.clw hnp;have CL:=j4 (vc3 hcw2 hnp (by omega) (fun i n hn=>by have:=ja6 hfl (q9 HSH) i n hn;rwa [List.length_nil,Nat.zero_add] at this));rw [cls_end (by have:=hfl;rwa [List.length_nil] at this) (q9 HSH),q9 HCK] at CL;obtain ⟨tp,htp⟩:∃x:Nat,new.length - 1=x:=⟨_,rfl⟩;rw [List.length_nil,Nat.zero_add,htp] at he;rw [htp] at CL;subst he;have c8:=hr2.c8;obtain ⟨c2,_⟩:=hr2.ct;rw [q9 HK0] at c2;have hl2:=hr2.lt;have HK2:=j4 hk2;have HFL:=j4 hfl;clear hk2 hr2 hfl hcw2 htp)|(go_at_call 175;refine (q9 CL).mono ?_;rintro e w3 ⟨rfl,hk3,hcw⟩;have HK3:=j4 hk3;have HCW:=j4 hcw;clear hk3 hcw))
 refine bodyPost_ret (by simp [results,Tryz.results123,go_sem]) rfl ⟨qs1 (((q9 HK1).trans (q9 HK2)).trans (q9 HK3)),rfl,by have:=(q9 HK3).size;omega, ?_⟩
 obtain ⟨g',LN',cap',cs',hcw⟩:=q9 HCW
 exact ⟨new,cs',g',LN',cap',by have:=q9 HFL;rwa [List.length_nil] at this,q9 HSH,by omega,hcw.c0,hcw.nodes⟩
theorem rread_any (s:ByteArray) (hs:s.size≤140737488355328) (w:World):Calls Tryz.prog 123 #[.string s] w (qp0 w (qn2 s)):=by
 unfold qn2
 by_cases h:s.size≤200
 ·rw [if_pos h]
  cases he:(lvl s 12).E (j3 s st0) with
  | err en pl=>exact rread_err s h w he
  | ok t st=>
   show Calls _ _ _ _ (qp0 w (vx2 t st))
   unfold vx2
   by_cases hk:st.tk.kind=0
   ·rw [if_pos hk]
    cases hc:chkR (qa4 t) with
    | none=>exact rread_ok s h w he hk hc
    | some q=>exact rread_cls s h w he hk hc
   ·rw [if_neg hk];exact jk5 s h w he hk
 ·rw [if_neg h];exact jk4 s h hs w
end
end Go.Proofs.YtfkcaldjphakpaaGreatDoor
