/- The document's answer. -/
import Derived.Test.YtfkcaldjphakpaaGreatDoorM23
set_option maxHeartbeats 8000000
set_option maxRecDepth 100000
namespace Go.Proofs.YtfkcaldjphakpaaGreatDoor
open Go.RowKit Go.Proofs.Tryz
section
theorem vm5{l:List RN}{n m:RN}{i:Nat}(h:(l++[n])[i]?=some m):(i<l.length/\l[i]?=some m)\/(i=l.length/\n=m):=by
 by_cases hi:i<l.length
 ·rw[List.getElem?_append_left hi]at h;exact .inl ⟨hi,h⟩
 ·right
  have A1:=(List.getElem?_eq_some_iff.1 h).1;simp at A1;obtain rfl:i=l.length:=by omega
  exact⟨rfl,by simpa using h⟩
theorem vn5{l k:List RN}{m:RN}{i:Nat}(h:(l++k)[i]?=some m):(i<l.length/\l[i]?=some m)\/(l.length<=i/\k[i - l.length]?=some m):=by
 by_cases hi:i<l.length
 ·rw[List.getElem?_append_left hi]at h;exact .inl ⟨hi,h⟩
 ·rw[List.getElem?_append_right (by omega)]at h;exact .inr ⟨by omega,h⟩
theorem vf0{i:Nat}{p:Pay}{ins:List Nat}{neg:Bool}(h0:0<=p.op)(L9:p.op<=23)(hi:∀k∈ins,k<i)(h2:p.op=8\/p.op=9->∃a b,ins=[a,b])(hl:ins.length<=3):∃o,NF i (qi5 p ins neg) o:=⟨p.op,h0,L9,rfl,hi,h2,hl⟩
theorem jn0:∀{t:Ast} {off:Nat} {l:List RN},Flat t off l->ShA t->∀i n,l[i]?=some n->∃o,NF (off+i) n o:=by
 intro t off l h
 induction h with
 | leaf p off=>
  intro hs i n hi;rcases i with _|i
  ·obtain rfl:qi5 p [] false=n:=by simpa using hi
   exact vf0 hs.1 (by have:=hs.2;omega) (by simp) (by have:=hs.2;omega) (by simp)
  ·simp at hi
 | @un p x off l hx ih=>
  intro hs i n hi;have hp:=hx.pos;have ho:=hs.1;rcases vm5 hi with⟨h1,h2⟩|⟨rfl,rfl⟩
  ·exact ih hs.2.2.2 i n h2
  ·exact vf0 (by omega) (by omega) (by simp;omega) (by omega) (by simp)
 | @bin p x y off l k hx hy ihx ihy=>
  intro hs i n hi;have hp:=hx.pos;have hq:=hy.pos;have ho:=hs.1;rcases vm5 hi with⟨h1,h2⟩|⟨rfl,rfl⟩
  ·rcases vn5 h2 with⟨h3,h4⟩|⟨h3,h4⟩
   ·exact ihx hs.2.1 i n h4
   ·have:=ihy hs.2.2 (i - l.length) n h4
    rwa [show off+l.length+(i - l.length)=off+i by omega]at this
  ·exact vf0 (by omega) (by omega) (by simp;omega) (λ_=>⟨_,_,rfl⟩) (by simp)
 | @tri p x y z off l k r hx hy hz ihx ihy ihz=>
  intro hs i n hi;have hp:=hx.pos;have hq:=hy.pos;have hr:=hz.pos;have ho:=hs.1;rcases vm5 hi with⟨h1,h2⟩|⟨rfl,rfl⟩
  ·rcases vn5 h2 with⟨h3,h4⟩|⟨h3,h4⟩
   ·rcases vn5 h4 with⟨h5,h6⟩|⟨h5,h6⟩
    ·exact ihx hs.2.1 i n h6
    ·have:=ihy hs.2.2.1 (i - l.length) n h6
     rwa [show off+l.length+(i - l.length)=off+i by omega]at this
   ·have:=ihz hs.2.2.2 (i - (l++k).length) n h4
    simp only[List.length_append]at h3;rwa [show off+l.length+k.length+(i - (l++k).length)=off+i by simp;omega]at this
  ·exact vf0 (by omega) (by omega) (by simp;omega) (by omega) (by simp)
 | @neg1 pl q x off l hq hx ih=>
  intro hs i n hi;have hp:=hx.pos;obtain⟨_,_,_,hs⟩:=hs;rcases vm5 hi with⟨h1,h2⟩|⟨rfl,rfl⟩
  ·exact ih hs.2.2.2 i n h2
  ·exact vf0 (by omega) (by omega) (by simp;omega) (by omega) (by simp)
 | @neg3 pl q x y z off l k r hq hx hy hz ihx ihy ihz=>
  intro hs i n hi;have hp:=hx.pos;have vI:=hy.pos;have hr:=hz.pos;obtain⟨_,_,_,hs⟩:=hs;rcases vm5 hi with⟨h1,h2⟩|⟨rfl,rfl⟩
  ·rcases vn5 h2 with⟨h3,h4⟩|⟨h3,h4⟩
   ·rcases vn5 h4 with⟨h5,h6⟩|⟨h5,h6⟩
    ·exact ihx hs.2.1 i n h6
    ·have:=ihy hs.2.2.1 (i - l.length) n h6
     rwa [show off+l.length+(i - l.length)=off+i by omega]at this
   ·have:=ihz hs.2.2.2 (i - (l++k).length) n h4
    simp only[List.length_append]at h3;rwa [show off+l.length+k.length+(i - (l++k).length)=off+i by simp;omega]at this
  ·exact vf0 (by omega) (by omega) (by simp;omega) (by omega) (by simp)
theorem jf3{s:ByteArray}{t:Ast}{st:St}(h:(lvl s 12).E (j4 s st0)=.ok t st):ShA t:=by
 obtain⟨L,hL⟩:=vv5 _ s.data.toList (Nat.le_refl _);have N0:Str s (j4 s st0) L:=vp9 hL st0 (Nat.zero_le _) (List.drop_zero);have J7:=qa7 s st0 (Nat.zero_le _);have gE:=(jp8 s 12).E (j4 s st0) ⟨L,0⟩ J7 N0 rfl;rcases gE.cases with⟨t1,A6,ts,e1,e2,_⟩|⟨en,pl,e1,e2⟩
 ·rw[e1]at h
  injection h with h _;subst h;exact js7 t1 ((nd_lvl 12).E _ _ _ e2).1
 ·rw[e1]at h;cases h
theorem cls_end{t:Ast}{ns:List RN}(h:Flat t 0 ns)(hs:ShA t):vr4 (qs4 [] ns) (ns.length - 1)=match zb3 (qb3 t) with
  | none=>(0,0)
  | some q=>(4,q):=by
 have hc:=cls_flat h hs [] rfl
 cases R7:qb3 t with
 | err q=>
  rw[R7]at hc;have hc:qs4 [] ns=.inl q:=hc;rw[hc];rfl
 | ok c=>
  rw[R7]at hc;obtain⟨ds,h1,h2,h3⟩:=hc;rw[h1,List.nil_append];show(if ds.getD (ns.length - 1) 0≠0/\ds.getD (ns.length - 1) 0≠1 then((4:Int),(0:Int)) else(0,0))=_;rw[h3];rcases c4 (qz8 t c R7) with rfl|rfl|rfl|rfl<;>rfl
theorem RT.clw{w:World}{rb:Nat}{s:ByteArray}{ns:List RN}{j:Nat}{st:St}(h:RT w rb s ns j st)(C1:0<ns.length):∃g LN cap,ClW w rb g LN cap ns [] w:=by
 obtain⟨nv,hT,hN,_⟩:=h;obtain⟨g,cap,rfl,_⟩:=hN.opAt (i:=0) (n:=ns[0]) (List.getElem?_eq_getElem C1);exact⟨g,ns.length,cap,hT.c0,by rw[jh2];exact hN,TKept.refl rb w,hT.lt⟩
theorem RE.c9{w:World}{rb:Nat}{s:ByteArray}{en pl:Int}{op m:Nat}(h:RE w rb s en pl op m):w.cell? ⟨rb,9,none⟩=some (.int .i64 pl):=by obtain⟨nv,a,ns,h,_⟩:=h;exact h.c9
end
section
def jx1(n:RN):Pay:=⟨jn1 n.op,n.at',n.num,n.str,n.esc,n.texts⟩
theorem vw7{p:Pay}{ins:List Nat}{neg:Bool}(h0:0<=p.op)(L9:p.op<=23):jx1 (qi5 p ins neg)=p:=by
 show(⟨jn1 (qb7 p.op),p.place,p.num,p.str,p.esc,p.texts⟩:Pay)=p;rw[vc3 h0 L9]
section
variable {ps:List Pr} {vs:List V} {off:Nat} {p:Pay} {neg:Bool}
end
end
section
def qn7(w:World)(r:RRes)(e:Ending)(w':World):Prop:=Below w.heap.size w w'/\match r with
 | .ok t=>e=.returned (.tuple #[.pointer (some ⟨w.heap.size,0,none⟩),.int .i64 0,.int .i64 0])/\w.heap.size<w'.heap.size/\∃ns cs g LN cap,Flat t 0 ns/\ShA t/\ns.length<=200/\w'.cell? ⟨w.heap.size,0,none⟩=some (.slice (some ⟨g,0,none⟩) LN cap)/\NodesAt w' w.heap.size (.slice (some ⟨g,0,none⟩) LN cap) (qr4 ns cs)
 | .err en pl=>e=.returned (.tuple #[.pointer none,.int .i64 en,.int .i64 pl])
theorem qq0(w:World)(s:ByteArray):TrC (w.alloc (.cells #[.slice none 0 0,.string s,.int .i64 0,.int .i64 0,.int .i64 0,.string ⟨#[]⟩,.int .i64 0,.int .i64 0,.int .i64 0,.int .i64 0] 237)) w.heap.size (.slice none 0 0) s 0 0 (0:Nat) ⟨#[]⟩ 0 0 0 0:=by
 refine⟨by simp, ?_, ?_, ?_, ?_, ?_, ?_, ?_, ?_, ?_, ?_,λj=>?_⟩
 all_goals simp
theorem qt2{w w':World}{s:ByteArray}(h:TKept w.heap.size (w.alloc (.cells #[.slice none 0 0,.string s,.int .i64 0,.int .i64 0,.int .i64 0,.string ⟨#[]⟩,.int .i64 0,.int .i64 0,.int .i64 0,.int .i64 0] 237)) w'):Below w.heap.size w w':=by
 have hb:Below w.heap.size w (w.alloc (.cells #[.slice none 0 0,.string s,.int .i64 0,.int .i64 0,.int .i64 0,.string ⟨#[]⟩,.int .i64 0,.int .i64 0,.int .i64 0,.int .i64 0] 237)):=(Below.refl _ _).alloc (Nat.le_refl _) _;refine⟨h.os.trans hb.os,h.tape.trans hb.tape,h.output.trans hb.output,Nat.le_trans hb.size h.size,λk hk=>(h.block k (by simp;omega) ?_).trans (hb.block k hk)⟩;rintro (e|⟨nv,e1,e2⟩)
 ·omega
 ·rw[(qq0 w s).c0]at e1
  injection e1 with e1;subst e1;cases e2
theorem jy3(s:ByteArray)(h:¬s.size<=200)(hs:s.size<=140737488355328)(w:World):
  Calls prog 123 #[.string s] w (qn7 w (.err 1 0)):=by
 have h1:(200:Int)<(s.size:Int):=by omega
 go_enter func123,ntmps123
 go_wp2_with fail
 exact bodyPost_ret (by simp[results,results123,go_sem]) rfl ⟨Below.refl _ _,rfl⟩
theorem rread_err(s:ByteArray)(hs:s.size<=200)(w:World){en pl:Int}(he:(lvl s 12).E (j4 s st0)=.err en pl):
  Calls prog 123 #[.string s] w (qn7 w (.err en pl)):=by
 have ST:=j3 (qr6 (qq0 w s) hs (Nat.zero_le _) (qs0 s st0));have cI:¬(200:Int)<(s.size:Int):=by omega
 have HE:=j3 he;clear he;go_enter func123,ntmps123
 go_upto_region 6 with(first|(go_at_call 172;refine(q9 ST).mono ?_;rintro e w1⟨rfl,T7,A0⟩;have F3:=TKept.of_kept A0 (T7.c0.trans (qq0 w s).c0.symm);have D8:=j3 F3;have D5:Hid (RT w1 w.heap.size s [] 0 (j4 s st0)):=j3 ⟨_,T7,NodesAt.nil _ _,qa7 s st0 (Nat.zero_le _),Nat.zero_le _⟩;clear T7 A0 F3)|(go_at_call 173;refine((jr7 w.heap.size s hs 12 0 rfl).E w1 (j4 s st0) [] 0 (q9 D5) rfl).mono ?_;rintro e w2⟨A3,h2⟩;rw[q9 HE]at h2;obtain⟨i,rfl,A5⟩:=h2;have HX:=j3 A5;have E9:=j3 A3;have lW:=A5.lt;clear A3 A5))
 rcases q9 HX with A5|⟨rfl,A5⟩
 ·obtain⟨c8,dJ⟩:=A5.c8
  have c9:=A5.c9;clear A5 HX
  go_wp2_with fail
  go_quiet (fail)
  go_wp2_with fail
  exact bodyPost_ret (by simp[results,results123,go_sem]) rfl ⟨Go.below_drewN (qt2 ((q9 D8).trans (q9 E9))) _,rfl⟩
 ·obtain⟨ns,nv,st,hT,hN,MH,rfl,hm,eH,rI⟩:=A5
  have c8:=hT.c8;have c3:=hT.c3;have c2:=hT.c2;rw[show rK st.tk.kind=6 by rcases MH with e|e<;>rw[e]<;>rfl]at c2;have FL:Hid (Calls prog 174 #[.pointer (some ⟨w.heap.size,0,none⟩),.int .i64 2,.int .i64 st.place] w2 λe w'=>e=.returned (.tuple #[])/\TrC w' w.heap.size nv s 1 st.place 0 ⟨#[]⟩ 0 (0:Nat) 2 st.place/\Kept w.heap.size w2 w'):=j3 (qu5 hT 2 st.place);have C0:=j3 hT.c0;clear hT hN HX
  go_wp2_with(go_at_call 174;refine(q9 FL).mono ?_;rintro e w3⟨rfl,jR,A9⟩;have e8:=jR.c8;have e9:=jR.c9;have FC:=jR.lt;have F5:=j3 (TKept.of_kept A9 (jR.c0.trans (q9 C0).symm));clear jR A9)
  go_quiet (fail)
  go_wp2_with fail
  exact bodyPost_ret (by simp[results,results123,go_sem]) rfl ⟨Go.below_drewN (qt2 (((q9 D8).trans (q9 E9)).trans (q9 F5))) _,rfl⟩
theorem jy4(s:ByteArray)(hs:s.size<=200)(w:World){t:Ast}{st:St}(he:(lvl s 12).E (j4 s st0)=.ok t st)(hk:¬st.tk.kind=0):
  Calls prog 123 #[.string s] w (qn7 w (.err 2 st.place)):=by
 have ST:=j3 (qr6 (qq0 w s) hs (Nat.zero_le _) (qs0 s st0));have cI:¬(200:Int)<(s.size:Int):=by omega
 have HE:=j3 he;clear he;have R0:¬rK st.tk.kind=0:=by unfold rK;split<;>(try split)<;>omega
 go_enter func123,ntmps123
 go_wp2_with(first|(go_at_call 172;refine(q9 ST).mono ?_;rintro e w1⟨rfl,T7,A0⟩;have F3:=TKept.of_kept A0 (T7.c0.trans (qq0 w s).c0.symm);have D8:=j3 F3;have D5:Hid (RT w1 w.heap.size s [] 0 (j4 s st0)):=j3 ⟨_,T7,NodesAt.nil _ _,qa7 s st0 (Nat.zero_le _),Nat.zero_le _⟩;clear T7 A0 F3)|(go_at_call 173;refine((jr7 w.heap.size s hs 12 0 rfl).E w1 (j4 s st0) [] 0 (q9 D5) rfl).mono ?_;rintro e w2⟨A3,h2⟩;rw[q9 HE]at h2;obtain⟨new,rfl,A5,I2,S8,F6⟩:=h2;have FL:=j3 (qy6 A5 hs 2 st.place (by decide));have c8:=A5.c8;obtain⟨c2,c3,_⟩:=A5.ct;have lW:=A5.lt;have E9:=j3 A3;clear A3 A5 F6)|(go_at_call 174;refine(q9 FL).mono ?_;rintro e w3⟨rfl,A9,B8⟩;obtain⟨c8,dJ⟩:=B8.c8;have c9:=B8.c9;have FC:=B8.lt;have F5:=j3 A9;clear A9 B8))
 go_quiet (fail)
 go_wp2_with fail
 exact bodyPost_ret (by simp[results,results123,go_sem]) rfl ⟨Go.below_drewN (qt2 (((q9 D8).trans (q9 E9)).trans (q9 F5))) _,rfl⟩
theorem rread_cls(s:ByteArray)(hs:s.size<=200)(w:World){t:Ast}{st:St}(he:(lvl s 12).E (j4 s st0)=.ok t st)(hk:st.tk.kind=0){q:Int}(hc:zb3 (qb3 t)=some q):
  Calls prog 123 #[.string s] w (qn7 w (.err 4 q)):=by
 have ST:=j3 (qr6 (qq0 w s) hs (Nat.zero_le _) (qs0 s st0));have cI:¬(200:Int)<(s.size:Int):=by omega
 have HE:=j3 he;have qG:=j3 (jf3 he);have CN:=j3 hc;have Z8:Hid (rK st.tk.kind=0):=j3 (by rw[hk];rfl);clear he hc hk;go_enter func123,ntmps123
 go_wp2_with(first|(go_at_call 172;refine(q9 ST).mono ?_;rintro e w1⟨rfl,T7,A0⟩;have F3:=TKept.of_kept A0 (T7.c0.trans (qq0 w s).c0.symm);have D8:=j3 F3;have D5:Hid (RT w1 w.heap.size s [] 0 (j4 s st0)):=j3 ⟨_,T7,NodesAt.nil _ _,qa7 s st0 (Nat.zero_le _),Nat.zero_le _⟩;clear T7 A0 F3)|(go_at_call 173;refine((jr7 w.heap.size s hs 12 0 rfl).E w1 (j4 s st0) [] 0 (q9 D5) rfl).mono ?_;rintro e w2⟨A3,h2⟩;rw[q9 HE]at h2;obtain⟨new,he,A5,I2,S8,F6⟩:=h2;rw[List.nil_append]at A5;have rP:=F6.pos;have I9:=A5.few;have yT:=A5.fine.place;obtain⟨g,LN,cap,gV⟩:=A5.clw rP;have CL:=j3 (vh0 gV rP (by omega) (λi n hn=>by have:=jn0 F6 (q9 qG) i n hn;rwa [List.length_nil,Nat.zero_add]at this));rw[cls_end (by have:=F6;rwa [List.length_nil]at this) (q9 qG),q9 CN]at CL;obtain⟨tp,iX⟩:∃x:Nat,new.length - 1=x:=⟨_,rfl⟩;rw[List.length_nil,Nat.zero_add,iX]at he;rw[iX]at CL;subst he;have c8:=A5.c8;obtain⟨c2,_⟩:=A5.ct;rw[q9 Z8]at c2;have lW:=A5.lt;have E9:=j3 A3;have K0:=j3 F6;clear A3 A5 F6 gV iX)|(go_at_call 175;refine(q9 CL).mono ?_;rintro e w3⟨rfl,A9,U6⟩;have F5:=j3 A9;have pF:=j3 U6;clear A9 U6))
 exact bodyPost_ret (by simp[results,results123,go_sem]) rfl ⟨qt2 (((q9 D8).trans (q9 E9)).trans (q9 F5)),rfl⟩
theorem rread_ok(s:ByteArray)(hs:s.size<=200)(w:World){t:Ast}{st:St}(he:(lvl s 12).E (j4 s st0)=.ok t st)(hk:st.tk.kind=0)(hc:zb3 (qb3 t)=none):
  Calls prog 123 #[.string s] w (qn7 w (.ok t)):=by
 have ST:=j3 (qr6 (qq0 w s) hs (Nat.zero_le _) (qs0 s st0));have cI:¬(200:Int)<(s.size:Int):=by omega
 have HE:=j3 he;have qG:=j3 (jf3 he);have CN:=j3 hc;have Z8:Hid (rK st.tk.kind=0):=j3 (by rw[hk];rfl);clear he hc hk;go_enter func123,ntmps123
 go_wp2_with(first|(go_at_call 172;refine(q9 ST).mono ?_;rintro e w1⟨rfl,T7,A0⟩;have F3:=TKept.of_kept A0 (T7.c0.trans (qq0 w s).c0.symm);have D8:=j3 F3;have D5:Hid (RT w1 w.heap.size s [] 0 (j4 s st0)):=j3 ⟨_,T7,NodesAt.nil _ _,qa7 s st0 (Nat.zero_le _),Nat.zero_le _⟩;clear T7 A0 F3)|(go_at_call 173;refine((jr7 w.heap.size s hs 12 0 rfl).E w1 (j4 s st0) [] 0 (q9 D5) rfl).mono ?_;rintro e w2⟨A3,h2⟩;rw[q9 HE]at h2;obtain⟨new,he,A5,I2,S8,F6⟩:=h2;rw[List.nil_append]at A5;have rP:=F6.pos;have I9:=A5.few;have yT:=A5.fine.place;obtain⟨g,LN,cap,gV⟩:=A5.clw rP;have CL:=j3 (vh0 gV rP (by omega) (λi n hn=>by have:=jn0 F6 (q9 qG) i n hn;rwa [List.length_nil,Nat.zero_add]at this));rw[cls_end (by have:=F6;rwa [List.length_nil]at this) (q9 qG),q9 CN]at CL;obtain⟨tp,iX⟩:∃x:Nat,new.length - 1=x:=⟨_,rfl⟩;rw[List.length_nil,Nat.zero_add,iX]at he;rw[iX]at CL;subst he;have c8:=A5.c8;obtain⟨c2,_⟩:=A5.ct;rw[q9 Z8]at c2;have lW:=A5.lt;have E9:=j3 A3;have K0:=j3 F6;clear A3 A5 F6 gV iX)|(go_at_call 175;refine(q9 CL).mono ?_;rintro e w3⟨rfl,A9,U6⟩;have F5:=j3 A9;have pF:=j3 U6;clear A9 U6))
 refine bodyPost_ret (by simp[results,results123,go_sem]) rfl ⟨qt2 (((q9 D8).trans (q9 E9)).trans (q9 F5)),rfl,by have:=(q9 F5).size;omega, ?_⟩;obtain⟨g',LN',cap',cs',U6⟩:=q9 pF;exact⟨new,cs',g',LN',cap',by have:=q9 K0;rwa [List.length_nil]at this,q9 qG,by omega,U6.c0,U6.nodes⟩
theorem jf1(s:ByteArray)(hs:s.size<=140737488355328)(w:World):Calls prog 123 #[.string s] w (qn7 w (qg4 s)):=by
 unfold qg4
 by_cases h:s.size<=200
 ·rw[if_pos h]
  cases he:(lvl s 12).E (j4 s st0) with
  | err en pl=>exact rread_err s h w he
  | ok t st=>
   show Calls _ _ _ _ (qn7 w (jh3 t st));unfold jh3
   by_cases hk:st.tk.kind=0
   ·rw[if_pos hk]
    cases hc:zb3 (qb3 t) with
    | none=>exact rread_ok s h w he hk hc
    | some q=>exact rread_cls s h w he hk hc
   ·rw[if_neg hk];exact jy4 s h w he hk
 ·rw[if_neg h];exact jy3 s h hs w
end
end Go.Proofs.YtfkcaldjphakpaaGreatDoor
