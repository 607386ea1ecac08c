/- The document's answer -/
import Derived.Test.YtfkcaldjphakpaaGreatDoorM15
import Derived.Test.YtfkcaldjphakpaaGreatDoorM30
import Derived.Test.YtfkcaldjphakpaaGreatDoorM17
set_option maxHeartbeats 16000000
set_option maxRecDepth 100000
namespace Go.Proofs.YtfkcaldjphakpaaGreatDoor
open Go.RowKit Go.Proofs.Tryz
variable{a:Addr}{t:Ast}{neg:Bool}{c x:Co}{o:Int}{ts:List mv}{cs:List Int}{l:List Nat}{ps:List Pr}{ns:List RN}{vs:List V}{xs:List Value}{b base cap k m n pb rb:Nat}{N:Nat->Prop}{p:Pay}{st:St}{y:V}{av ev:Value}{U W w w' wr:World}
section
def zM(w:World)(r:RRes)(e:Ending)(w':World):Prop:=Below w.heap.size w w'/\match r with
 | .ok t=>e=.returned (.tuple #[.pointer (some ⟨w.heap.size,0,none⟩),.int .i64 0,.int .i64 0])/\w.heap.size<w'.heap.size/\∃ns cs g LN cap,Flat t 0 ns/\ShA t/\ns.length<=200/\w'.cell? ⟨w.heap.size,0,none⟩=some (.slice (some ⟨g,0,none⟩) LN cap)/\NodesAt w' w.heap.size (.slice (some ⟨g,0,none⟩) LN cap) (ze ns cs)
 | .err en pl=>e=.returned (.tuple #[.pointer none,.int .i64 en,.int .i64 pl])
theorem xy(w:World)(s:mu):TrC (w.alloc (.cells #[.slice none 0 0,.string s,.int .i64 0,.int .i64 0,.int .i64 0,.string ⟨#[]⟩,.int .i64 0,.int .i64 0,.int .i64 0,.int .i64 0] 237)) w.heap.size (.slice none 0 0) s 0 0 (0:Nat) ⟨#[]⟩ 0 0 0 0:=by
 refine⟨mx, ?_, ?_, ?_, ?_, ?_, ?_, ?_, ?_, ?_, ?_,λj=>?_⟩
 all_goals simp
theorem yy{s:mu}(h:TKept w.heap.size (w.alloc (.cells #[.slice none 0 0,.string s,.int .i64 0,.int .i64 0,.int .i64 0,.string ⟨#[]⟩,.int .i64 0,.int .i64 0,.int .i64 0,.int .i64 0] 237)) w'):Xb w w':=by
 have f:Xb w (w.alloc (.cells #[.slice none 0 0,.string s,.int .i64 0,.int .i64 0,.int .i64 0,.string ⟨#[]⟩,.int .i64 0,.int .i64 0,.int .i64 0,.int .i64 0] 237)):=nw.alloc nt _;refine⟨h.os.trans f.os,h.tape.trans f.tape,h.output.trans f.output,bs f.size h.size,λk i=>(h.block k my ?_).trans (f.block k i)⟩;rintro (e|⟨nv,g,j⟩)
 ·omega
 ·rw[(xy w s).c0]at g
  injection g with g;subst g;cases j
theorem qr7(s:mu)(h:¬s.size<=200)(e:s.size<=140737488355328)(w:World):
  nz 123 #[.string s] w (zM w (.err 1 0)):=by
 have f:(200:Int)<(s.size:Int):=mw;go_enter func123,ntmps123
 go_wp2_with fail
 exact ak (by simp[go_sem]) rfl ⟨nw,rfl⟩
theorem qwp(s:mu)(B:s.size<=200)(w:World){F A:Int}(C:(lvl s 12).E (qg s st0)=.err F A):
  nz 123 #[.string s] w (zM w (.err F A)):=by
 have P:=qd (xR (xy w s) B (bj _) (yg s st0));have eK:¬(200:Int)<(s.size:Int):=mw;have R:=qd C;clear C;go_enter func123,ntmps123
 go_upto_region 6 with(first|(go_at_call 172;refine P.mono ?_;rintro e z⟨rfl,q,L⟩;have G:=TKept.of_kept L (q.c0.trans (xy w s).c0.symm);have I:=qd G;have T:Hid (RT z w.heap.size s [] 0 (qg s st0)):=qd ⟨_,q,NodesAt.nil _ _,qC s st0 (bj _),bj _⟩;clear q L G)|(go_at_call 173;refine((qnb w.heap.size s B 12 0 rfl).E z (qg s st0) [] 0 T rfl).mono ?_;rintro e u⟨K,D⟩;rw[q9 R]at D;obtain⟨i,rfl,f⟩:=D;have r:=qd f;have H:=qd K;have sF:=f.lt;clear K f))
 rcases q9 r with f|⟨rfl,f⟩
 ·obtain⟨c8,mE⟩:=f.c8
  have c9:=f.c9;clear f r
  go_wp2_with fail
  go_quiet (fail)
  go_wp2_with fail
  exact ak (by simp[go_sem]) rfl ⟨dr (yy (I.trans H)) _,rfl⟩
 ·obtain⟨ns,nv,st,g,M,O,rfl,hm,cI,fF⟩:=f
  have c8:=g.c8;have c3:=g.c3;have c2:=g.c2;rw[show rK st.tk.kind=6 by rcases O with e|e<;>rw[e]<;>rfl]at c2;have X:Hid (nz 174 #[.pointer (some ⟨w.heap.size,0,none⟩),.int .i64 2,.int .i64 st.place] u λe w'=>e=.returned (.tuple #[])/\TrC w' w.heap.size nv s 1 st.place 0 ⟨#[]⟩ 0 (0:Nat) 2 st.place/\Kept w.heap.size u w'):=qd (yP g 2 st.place);have Y:=qd g.c0;clear g M r
  go_wp2_with(go_at_call 174;refine X.mono ?_;rintro e Z⟨rfl,j,J⟩;have e8:=j.c8;have e9:=j.c9;have OW:=j.lt;have Q:=qd (TKept.of_kept J (j.c0.trans Y.symm));clear j J)
  go_quiet (fail)
  go_wp2_with fail
  exact ak (by simp[go_sem]) rfl ⟨dr (yy ((I.trans H).trans Q)) _,rfl⟩
theorem qr8(s:mu)(i:s.size<=200)(w:World)(r:(lvl s 12).E (qg s st0)=.ok t st)(R:¬st.tk.kind=0):
  nz 123 #[.string s] w (zM w (.err 2 st.place)):=by
 have D:=qd (xR (xy w s) i (bj _) (yg s st0));have T:¬(200:Int)<(s.size:Int):=mw;have I:=qd r;clear r;have N5:¬rK st.tk.kind=0:=by unfold rK;split<;>(try split)<;>omega
 go_enter func123,ntmps123
 go_wp2_with(first|(go_at_call 172;refine D.mono ?_;rintro e q⟨rfl,j,C⟩;have z:=TKept.of_kept C (j.c0.trans (xy w s).c0.symm);have H:=qd z;have J:Hid (RT q w.heap.size s [] 0 (qg s st0)):=qd ⟨_,j,NodesAt.nil _ _,qC s st0 (bj _),bj _⟩;clear j C z)|(go_at_call 173;refine((qnb w.heap.size s i 12 0 rfl).E q (qg s st0) [] 0 J rfl).mono ?_;rintro e O⟨B,u⟩;rw[q9 I]at u;obtain⟨new,rfl,f,M6,N0,L⟩:=u;have K:=qd (kQ f i 2 st.place nh);have c8:=f.c8;obtain⟨Y,X,_⟩:=f.ct;have P:=f.lt;have G:=qd B;clear B f L)|(go_at_call 174;refine K.mono ?_;rintro e M⟨rfl,A,g⟩;obtain⟨c8,Q⟩:=g.c8;have c9:=g.c9;have Z:=g.lt;have F:=qd A;clear A g))
 go_quiet (fail)
 go_wp2_with fail
 exact ak (by simp[go_sem]) rfl ⟨dr (yy ((H.trans G).trans F)) _,rfl⟩
theorem qwo(s:mu)(D:s.size<=200)(w:World)(j:(lvl s 12).E (qg s st0)=.ok t st)(F:st.tk.kind=0){q:Int}(G:qs9 (qv t)=some q):
  nz 123 #[.string s] w (zM w (.err 4 q)):=by
 have Y:=qd (xR (xy w s) D (bj _) (yg s st0));have eK:¬(200:Int)<(s.size:Int):=mw;have HE:=qd j;have I:=qd (qi7 j);have X:=qd G;have Q:Hid (rK st.tk.kind=0):=qd (by rw[F];rfl);clear j G F;go_enter func123,ntmps123
 go_wp2_with(first|(go_at_call 172;refine Y.mono ?_;rintro e B⟨rfl,z,P⟩;have K:=TKept.of_kept P (z.c0.trans (xy w s).c0.symm);have I2:=qd K;have G3:Hid (RT B w.heap.size s [] 0 (qg s st0)):=qd ⟨_,z,NodesAt.nil _ _,qC s st0 (bj _),bj _⟩;clear z P K)|(go_at_call 173;refine((qnb w.heap.size s D 12 0 rfl).E B (qg s st0) [] 0 G3 rfl).mono ?_;rintro e w2⟨O,H⟩;rw[q9 HE]at H;obtain⟨new,j,f,M6,N0,r⟩:=H;rw[ej]at f;have L:=r.pos;have G9:=f.few;have PF:=f.fine.place;obtain⟨g,LN,cap,C⟩:=f.clw L;have A:=qd (qad C L mw (λi n R=>by have:=qeu r I i n R;rwa [eo,ee]at this));rw[qtb (by have:=r;rwa [eo]at this) I,q9 X]at A;obtain⟨tp,u⟩:∃x:Nat,new.length - 1=x:=⟨_,rfl⟩;rw[eo,ee,u]at j;rw[u]at A;subst j;have c8:=f.c8;obtain⟨T,_⟩:=f.ct;rw[q9 Q]at T;have sF:=f.lt;have J9:=qd O;have O4:=qd r;clear O f r C u)|(go_at_call 175;refine A.mono ?_;rintro e w3⟨rfl,M,J⟩;have Z:=qd M;have CA:=qd J;clear M J))
 exact ak (by simp[go_sem]) rfl ⟨yy ((I2.trans J9).trans Z),rfl⟩
theorem vcg(s:mu)(H:s.size<=200)(w:World)(j:(lvl s 12).E (qg s st0)=.ok t st)(I:st.tk.kind=0)(J:qs9 (qv t)=none):
  nz 123 #[.string s] w (zM w (.ok t)):=by
 have ST:=qd (xR (xy w s) H (bj _) (yg s st0));have eK:¬(200:Int)<(s.size:Int):=mw;have HE:=qd j;have z:=qd (qi7 j);have UA:=qd J;have T:Hid (rK st.tk.kind=0):=qd (by rw[I];rfl);clear j J I;go_enter func123,ntmps123
 go_wp2_with(first|(go_at_call 172;refine ST.mono ?_;rintro e F⟨rfl,B,R⟩;have L:=TKept.of_kept R (B.c0.trans (xy w s).c0.symm);have I2:=qd L;have G3:Hid (RT F w.heap.size s [] 0 (qg s st0)):=qd ⟨_,B,NodesAt.nil _ _,qC s st0 (bj _),bj _⟩;clear B R L)|(go_at_call 173;refine((qnb w.heap.size s H 12 0 rfl).E F (qg s st0) [] 0 G3 rfl).mono ?_;rintro e w2⟨Q,K⟩;rw[q9 HE]at K;obtain⟨new,j,f,M6,N0,r⟩:=K;rw[ej]at f;have O:=r.pos;have G9:=f.few;have PF:=f.fine.place;obtain⟨g,LN,cap,G⟩:=f.clw O;have D:=qd (qad G O mw (λi n X=>by have:=qeu r z i n X;rwa [eo,ee]at this));rw[qtb (by have:=r;rwa [eo]at this) z,q9 UA]at D;obtain⟨tp,u⟩:∃x:Nat,new.length - 1=x:=⟨_,rfl⟩;rw[eo,ee,u]at j;rw[u]at D;subst j;have c8:=f.c8;obtain⟨Z,_⟩:=f.ct;rw[q9 T]at Z;have sF:=f.lt;have J9:=qd Q;have O4:=qd r;clear Q f r G u)|(go_at_call 175;refine D.mono ?_;rintro e w3⟨rfl,P,q⟩;have M:=qd P;have CA:=qd q;clear P q))
 refine ak (by simp[go_sem]) rfl ⟨yy ((I2.trans J9).trans M),rfl,by have:=(q9 M).size;omega, ?_⟩;obtain⟨Y,C,cap',A,q⟩:=q9 CA;exact⟨new,A,Y,C,cap',by have:=q9 O4;rwa [eo]at this,q9 z,mw,q.c0,q.nodes⟩
theorem kA(s:mu)(e:s.size<=140737488355328)(w:World):nz 123 #[.string s] w (zM w (vj s)):=by
 unfold vj
 by_cases h:s.size<=200
 ·rw[bh h]
  cases he:(lvl s 12).E (qg s st0) with
  | err en pl=>exact qwp s h w he
  | ok t st=>
   show Calls _ _ _ _ (zM w (qju t st));unfold qju
   by_cases hk:st.tk.kind=0
   ·rw[bh hk]
    cases hc:qs9 (qv t) with
    | none=>exact vcg s h w he hk hc
    | some q=>exact qwo s h w he hk hc
   ·rw[aj hk];exact qr8 s h w he hk
 ·rw[aj h];exact qr7 s h e w
end
section
section
variable {w:World} {a N c:Int} {iv lv ev:Value} {S E:mu} {neg:Bool}
theorem vcw{x:V}(Q:1<n)(X:b<w.heap.size)(O:Xc w b 0 (.int .i64 x.kind))(M:Xc w b 1 (.int .i64 x.num))(L:Xc w b 2 (.string (BS x.str)))(K:Xc w b 3 (.int .i64 y.kind))(J:Xc w b 4 (.int .i64 y.num))(I:Xc w b 5 (.string (BS y.str))):
  nz 176 #[.agg #[.string ⟨#[60,62]⟩,.int .i64 a,iv,.string S,.string E,lv,.int .i64 N,.bool neg,.int .i64 c],.slice (some ⟨b,0,none⟩) n cap,ev] w λe w'=>e=.returned (vV (xP (eqV x y)))/\Xb w w':=by
 have R:(0:Int)<(n:Int):=mw;have T:(1:Int)<(n:Int):=mw;have RE:=qd (λw=>qa1 x y w);have RN:=qd (λw=>qfn (eqV x y) w);simp only[vV]at RE RN;go_enter func176,ntmps176
 go_wp2_with fail
 go_region_with(first|(go_at_call 222;refine(RE _).mono ?_;rintro e f⟨rfl,q⟩;have H:=qf (qI w _ _).drew q;obtain⟨j,B⟩:=qj q;have Y:w.heap.size+2<=f.heap.size:=(by have:=q.size;change ((w.alloc _).alloc _).heap.size<=_ at this;simp at this;omega);have z:Xc f (w.heap.size+1) 0 (.int .i64 0):=(j _ 0 (by show _<((w.alloc _).alloc _).heap.size;simp)).trans (by show((w.alloc _).alloc _).cell? _=_;simp);have u:Xc f (w.heap.size+1) 1 (.int .i64 0):=(j _ 1 (by show _<((w.alloc _).alloc _).heap.size;simp)).trans (by show((w.alloc _).alloc _).cell? _=_;simp);have s:Xc f (w.heap.size+1) 2 (.string ⟨#[]⟩):=(j _ 2 (by show _<((w.alloc _).alloc _).heap.size;simp)).trans (by show((w.alloc _).alloc _).cell? _=_;simp);have sz:Xf f (w.heap.size+1):=(λi=>(B _ i (by show _<((w.alloc _).alloc _).heap.size;simp)).trans (by show((w.alloc _).alloc _).frozen? _=_;simp));clear q j B)|(go_at_call 177;refine(RN _).mono ?_;rintro e w'⟨rfl,r⟩;obtain⟨g,A⟩:=qj r;have G:=qf H r;have F:=(g _ 0 mw).trans z;have D:=(g _ 1 mw).trans u;have C:=(g _ 2 mw).trans s;have P:=(λi=>(A _ i mw).trans (sz i));clear r g A z u s sz))
 all_goals go_wp2_with fail
 all_goals refine ak (by simp[go_sem,F,D,C]<;>rfl) rfl ⟨rfl, ?_⟩
 all_goals exact(((G.setCell mx _).setCell mx _).setCell mx _)
end
end
section
section
variable {w:World} {a N c:Int} {iv lv ev:Value} {S E:mu} {neg:Bool}
theorem xU(O:mu)(j:([[110,97,109,101],[110,117,109,98,101,114],[116,101,120,116],[84,82,85,69],[70,65,76,83,69],[112],[110],[78,79,84],[65,78,68],[79,82],[61],[60,62],[66,69,84,87,69,69,78],[76,73,75,69],[78,85,76,76],[73,78]].any (O.toList==·))=false){x r:V}(hn:1<n)(g:b<w.heap.size)(C:Xc w b 0 (.int .i64 x.kind))(B:Xc w b 1 (.int .i64 x.num))(A:Xc w b 2 (.string (BS x.str)))(z:Xc w b 3 (.int .i64 y.kind))(u:Xc w b 4 (.int .i64 y.num))(s:Xc w b 5 (.string (BS y.str)))
  (q:∀w,nz 219 #[.string O,vV x,vV y] w λe w'=>e=.returned (vV r)/\Xb w w') :
  nz 176 #[.agg #[.string O,.int .i64 a,iv,.string S,.string E,lv,.int .i64 N,.bool neg,.int .i64 c],.slice (some ⟨b,0,none⟩) n cap,ev] w λe w'=>e=.returned (vV r)/\Xb w w':=by
 simp only[List.any_cons,List.any_nil,fa,gs]at j;obtain⟨Z,k1,Y,X,T,R,Q,P,M,L,I,H,G,F,D,CH⟩:=j;have aW:(0:Int)<(n:Int):=mw;have U4:(1:Int)<(n:Int):=mw;have J:¬b=w.heap.size:=mw;have fB:¬b=w.heap.size+1:=mw;have KH:¬w.heap.size+1=b:=mw;have K:0<n:=mw;have RN:=qd q;clear q;simp only[vV]at RN;go_enter func176,ntmps176
 go_wp2_with fail
 go_region_held3 (λW=>Xc W w.heap.size 0 (.string O)/\Xc W b 0 (.int .i64 x.kind)/\Xc W b 1 (.int .i64 x.num)/\Xc W b 2 (.string (BS x.str))/\Xc W b 3 (.int .i64 y.kind)/\Xc W b 4 (.int .i64 y.num)/\Xc W b 5 (.string (BS y.str))) (first|with_reducible assumption|go_keep) ((go_at_call 219;refine(RN _).mono ?_;rintro e w'⟨rfl,i⟩;obtain⟨f,hf⟩:=qj i;have hS:(Xc w' w.heap.size 0 (.string O)/\Xc w' b 0 (.int .i64 x.kind)/\Xc w' b 1 (.int .i64 x.num)/\Xc w' b 2 (.string (BS x.str))/\Xc w' b 3 (.int .i64 y.kind)/\Xc w' b 4 (.int .i64 y.num)/\Xc w' b 5 (.string (BS y.str))):=⟨(f _ 0 (by show _<((w.alloc _).alloc _).heap.size;simp;try omega)).trans (by show((w.alloc _).alloc _).cell? _=_;simp),(f _ 0 (by show _<((w.alloc _).alloc _).heap.size;simp;omega)).trans ((qj (qI w _ _)).1 b 0 g |>.trans C),(f _ 1 (by show _<((w.alloc _).alloc _).heap.size;simp;omega)).trans ((qj (qI w _ _)).1 b 1 g |>.trans B),(f _ 2 (by show _<((w.alloc _).alloc _).heap.size;simp;omega)).trans ((qj (qI w _ _)).1 b 2 g |>.trans A),(f _ 3 (by show _<((w.alloc _).alloc _).heap.size;simp;omega)).trans ((qj (qI w _ _)).1 b 3 g |>.trans z),(f _ 4 (by show _<((w.alloc _).alloc _).heap.size;simp;omega)).trans ((qj (qI w _ _)).1 b 4 g |>.trans u),(f _ 5 (by show _<((w.alloc _).alloc _).heap.size;simp;omega)).trans ((qj (qI w _ _)).1 b 5 g |>.trans s)⟩))
 all_goals go_wp2_with fail
 all_goals refine ak (by simp[go_sem,f]<;>rfl) rfl ⟨rfl, ?_⟩
 all_goals exact((((qf (qI _ _ _).drew i).setCell mx _).setCell mx _).setCell mx _)
end
end
section
def gk(o:Int):Nat:=if o<=4 then 0 else if o=5\/o=14\/o=15\/o=21\/o=22\/o=23 then 1 else if o=20 then 3 else 2
structure NG(n:RN)(p:Pay):Prop where
 is:∃ins neg c,n={ js p ins neg with cls:=c }/\gk p.op<=ins.length
 o0:0<=p.op
 o23:p.op<=23
 num:Rng p.num
 bp:Bp p
 bz:Bz p
theorem pW{ins:List Nat}(h:gk p.op<=ins.length)(i:0<=p.op)(j:p.op<=23)(f:Rng p.num)(g:Bp p)(e:Bz p):∃q,NG (js p ins neg) q:=⟨p,⟨ins,neg,0,rfl,h⟩,i,j,f,g,e⟩
theorem qdz(h:o=5\/o=14\/o=15\/o=21\/o=22\/o=23):gk o=1:=by unfold gk;rw[aj mw,bh h]
theorem qiz(h:6<=o/\o<=13\/16<=o/\o<=19):gk o=2:=by unfold gk;rw[aj mw,aj mw,aj mw]
theorem qe0(h:o=20):gk o=3:=by unfold gk;rw[aj mw,aj mw,bh h]
theorem qso(h:o<=4):gk o=0:=by unfold gk;rw[bh h]
theorem qv4:∀{t:Ast} {off:Nat} {l:List RN},Flat t off l->ShA t->qg9 t->qg6 t->BzA t->∀n∈l,∃p,NG n p:=by
 intro t off l h
 induction h with
 | leaf p off=>
  intro e g i f n j;obtain rfl:=cp.1 j;have u:=e.1;have s:=e.2;exact pW (by rw[qso s];exact bj _) u mw g i f
 | un p hx ih=>
  intro e g i f n j;rcases cr.1 j with h|h
  ·exact ih e.2.2.2 g.2 i.2 f.2 n h
  ·obtain rfl:=cp.1 h
   have r:=e.1;exact pW (by rw[qdz r];exact nt) mw mw g.1 i.1 f.1
 | bin p hx hy ihx ihy=>
  intro e g i f n j;rcases cr.1 j with h|h
  ·rcases cr.1 h with h|h
   ·exact ihx e.2.1 g.2.1 i.2.1 f.2.1 n h
   ·exact ihy e.2.2 g.2.2 i.2.2 f.2.2 n h
  ·obtain rfl:=cp.1 h
   have r:=e.1;exact pW (by rw[qiz r];exact nt) mw mw g.1 i.1 f.1
 | tri p hx hy cB ihx ihy ihz=>
  intro e g i f n j;rcases cr.1 j with h|h
  ·rcases cr.1 h with h|h
   ·rcases cr.1 h with h|h
    ·exact ihx e.2.1 g.2.1 i.2.1 f.2.1 n h
    ·exact ihy e.2.2.1 g.2.2.1 i.2.2.1 f.2.2.1 n h
   ·exact ihz e.2.2.2 g.2.2.2 i.2.2.2 f.2.2.2 n h
  ·obtain rfl:=cp.1 h
   have r:=e.1;exact pW (by rw[qe0 r];exact nt) mw mw g.1 i.1 f.1
 | neg1 pl q hq hx ih=>
  intro e g i f n j;obtain⟨_,_,_,e⟩:=e;obtain⟨_,g⟩:=g;obtain⟨_,i⟩:=i;obtain⟨_,f⟩:=f;rcases cr.1 j with h|h
  ·exact ih e.2.2.2 g.2 i.2 f.2 n h
  ·obtain rfl:=cp.1 h
   have r:=e.1;exact pW (by rw[qdz r];exact nt) mw mw g.1 i.1 f.1
 | neg3 pl q hq hx hy cB ihx ihy ihz=>
  intro e g i f n j;obtain⟨_,_,_,e⟩:=e;obtain⟨_,g⟩:=g;obtain⟨_,i⟩:=i;obtain⟨_,f⟩:=f;rcases cr.1 j with h|h
  ·rcases cr.1 h with h|h
   ·rcases cr.1 h with h|h
    ·exact ihx e.2.1 g.2.1 i.2.1 f.2.1 n h
    ·exact ihy e.2.2.1 g.2.2.1 i.2.2.1 f.2.2.1 n h
   ·exact ihz e.2.2.2 g.2.2.2 i.2.2.2 f.2.2.2 n h
  ·obtain rfl:=cp.1 h
   have r:=e.1;exact pW (by rw[qe0 r];exact nt) mw mw g.1 i.1 f.1
theorem qyh{n:RN}(h:n∈ze ns cs):∃m∈ns,∃c,n={ m with cls:=c }:=by
 obtain⟨i,e⟩:=dy h;rw[xX]at e
 cases hm:ns[i]? with
 | none=>rw[hm]at e;cases e
 | some m=>
  rw[hm]at e;simp only[it]at e;injection e with e;exact⟨m,ch hm,_,e.symm⟩
theorem qnf(h:∀n∈ns,∃p,NG n p):∀n∈ze ns cs,∃p,NG n p:=by
 intro n e;obtain⟨m,f,c,rfl⟩:=qyh e;obtain⟨p,⟨ins,neg,u,rfl,g⟩,r,s,q,j,i⟩:=h m f;exact⟨p,⟨ins,neg,c,rfl,g⟩,r,s,q,j,i⟩
theorem qzp(h:Bz p)(f:p.op=22):(zi p.esc p.str).isSome=true:=by
 rcases(h.like f).2 with e|⟨_,e⟩
 ·rw[e]
  have:∀l:mv,(zi [] l).isSome=true:=by
   intro l
   induction l with
   | nil=>rfl
   | cons c t ih=>
    cases t with
    | nil=>rfl
    | cons d r=>rw[zi,aj mx];rw[Option.isSome_map];exact ih
  exact this _
 ·exact e
theorem qr4(x:V)(C:Sh x)(P E:mv)(G:P.length<=1000)(F:(zi E P).isSome=true)(w:World):
  Calls prog 223 #[vV x,.string (BS P),.string (BS E)] w λe w'=>e=.returned (vV (qai x P E))/\Xb w w':=by
 obtain⟨ps,s⟩:=Option.isSome_iff_exists.1 F;have I:=qd (λw=>qwa (BS x.str) (BS P) (BS E) C G s w);have D:qgx P E x.str=yF ps (BS x.str).data.toList (λj=>j==0):=by unfold qgx;rw[s];rfl
 rw[←D]at I;unfold qai;generalize qgx P E x.str=R at *;generalize BS P=pb at *;generalize BS E=eb at *;have RT:=qd (λw=>vM R w);clear C G F s D;cases hk:(x.kind==3)
 ·have Q:(x.kind != 3)=true:=by simp[bne,hk]
  simp only[cu,if_false]
  conv=>arg 3;simp only[vV]
  go_enter func223,ntmps223
  go_wp2_with fail
  exact nx ⟨rfl,qI _ _ _⟩
 ·have Q:(x.kind != 3)=false:=by simp[bne,hk]
  simp only[if_true]
  conv=>arg 3;simp only[vV]
  go_enter func223,ntmps223
  go_wp2_with(first|(go_at_call 261;refine(I _).mono ?_;rintro e f⟨rfl,r⟩;have T:=qf (qI w _ _) r;obtain⟨q,J⟩:=qj r;have Z:w.heap.size+2<=f.heap.size:=(by have:=r.size;simp at this;omega);have B:Xc f (w.heap.size+1) 0 (.int .i64 0):=(q _ 0 mx).trans mx;have A:Xc f (w.heap.size+1) 1 (.int .i64 0):=(q _ 1 mx).trans mx;have z:Xc f (w.heap.size+1) 2 (.string ⟨#[]⟩):=(q _ 2 mx).trans mx;have sz:Xf f (w.heap.size+1):=(λi=>(J _ i mx).trans mx);clear r q J)|(go_at_call 132;refine(RT _).mono ?_;rintro e X⟨rfl,u⟩;have O:=qf T u;obtain⟨g,H⟩:=qj u;have M:=(g _ 0 mw).trans B;have L:=(g _ 1 mw).trans A;have K:=(g _ 2 mw).trans z;have Y:=(λi=>(H (w.heap.size+1) i mw).trans (sz i));clear u g H B A z sz;simp only[vV]))
  refine ak (by simp[go_sem,M,L,K]<;>rfl) rfl ⟨rfl, ?_⟩;exact(((O.setCell mx _).setCell mx _).setCell mx _)
def vf5(w:World)(v:Value)(xs:List V):Prop:=
 (∃a cap,v=.slice a xs.length cap)/\(xs≠[]->∃b cap,v=.slice (some ⟨b,0,none⟩) xs.length cap/\b<w.heap.size /\
  ∀(k:Nat) (x:V),xs[k]?=some x->w.cell? ⟨b,k * 3,none⟩=some (.int .i64 x.kind)/\w.cell? ⟨b,k * 3+1,none⟩=some (.int .i64 x.num)/\w.cell? ⟨b,k * 3+2,none⟩=some (.string (BS x.str)))
def TxtAt(w:World)(v:Value)(ts:List (List UInt8)):Prop:=
 ∃la lc,v=.slice la ts.length lc/\∀k t,ts[k]?=some t->∃lb,la=some ⟨lb,0,none⟩/\lb<w.heap.size/\w.cell? ⟨lb,k,none⟩=some (.string (BS t))
theorem qrh{inv iv lv:Value}{c:Int}{xs:List V}(C7:EvArg w ev ps)(h0:0<=p.op)(J8:p.op<=23)(ha:gk p.op<=xs.length)(Q:∀x∈xs,Rng x.num/\Sh x)(Y:Bp p)(hz:Bz p)(R:vf5 w inv xs)(Z6:TxtAt w lv p.texts):
  nz 176 #[.agg #[.string (BS (qD p.op)),.int .i64 p.place,iv,.string (BS p.str),.string (BS p.esc),lv,.int .i64 p.num,.bool neg,.int .i64 c],inv,ev] w λe w'=>e=.returned (vV (ofN ps p xs))/\Xb w w':=by
 have O:1<=xs.length->∃x b cap,xs[0]?=some x/\0<xs.length/\inv=.slice (some ⟨b,0,none⟩) xs.length cap/\b<w.heap.size/\Rng x.num/\Sh x/\Xc w b 0 (.int .i64 x.kind)/\Xc w b 1 (.int .i64 x.num)/\Xc w b 2 (.string (BS x.str)):=by
  intro h;obtain⟨b,cap,e,f,I⟩:=R.2 (λe=>by rw[e]at h;simp at h);have J:xs[0]?=some xs[0]:=ag mw;have:=I 0 _ J;exact⟨xs[0],b,cap,J,mw,e,f,(Q _ (eu _)).1,(Q _ (eu _)).2,by simpa using this.1,by simpa using this.2.1,by simpa using this.2.2⟩
 have H:2<=xs.length->∃x y b cap,xs[0]?=some x/\xs[1]?=some y/\1<xs.length/\inv=.slice (some ⟨b,0,none⟩) xs.length cap/\b<w.heap.size/\Rng x.num/\Rng y.num/\Xc w b 0 (.int .i64 x.kind)/\Xc w b 1 (.int .i64 x.num)/\Xc w b 2 (.string (BS x.str))/\Xc w b 3 (.int .i64 y.kind)/\Xc w b 4 (.int .i64 y.num)/\Xc w b 5 (.string (BS y.str)):=by
  intro h;obtain⟨b,cap,e,f,I⟩:=R.2 (λe=>by rw[e]at h;simp at h);have J:xs[0]?=some xs[0]:=ag mw;have P:xs[1]?=some xs[1]:=ag mw;have L:=I 0 _ J;have K:=I 1 _ P;exact⟨xs[0],xs[1],b,cap,J,P,mw,e,f,(Q _ (eu _)).1,(Q _ (eu _)).1,by simpa using L.1,by simpa using L.2.1,by simpa using L.2.2,by simpa using K.1,by simpa using K.2.1,by simpa using K.2.2⟩
 have D:∀x,xs[0]?=some x->xs.getD 0 nV=x:=λx h=>by rw[aq,h];rfl
 have G:∀x,xs[1]?=some x->xs.getD 1 nV=x:=λx h=>by rw[aq,h];rfl
 have D2:∀x,xs[2]?=some x->xs.getD 2 nV=x:=λx h=>by rw[aq,h];rfl
 have s:∀r:V,ofN ps p xs=r->(nz 176 #[.agg #[.string (BS (qD p.op)),.int .i64 p.place,iv,.string (BS p.str),.string (BS p.esc),lv,.int .i64 p.num,.bool neg,.int .i64 c],inv,ev] w λe w'=>e=.returned (vV r)/\Xb w w')->(nz 176 #[.agg #[.string (BS (qD p.op)),.int .i64 p.place,iv,.string (BS p.str),.string (BS p.esc),lv,.int .i64 p.num,.bool neg,.int .i64 c],inv,ev] w λe w'=>e=.returned (vV (ofN ps p xs))/\Xb w w'):=λr e h=>by rw[e];exact h
 have one:gk p.op=1->1<=xs.length:=λe=>mw
 have two:gk p.op=2->2<=xs.length:=λe=>mw
 have hcut:=qzp hz;obtain⟨op,place,num,str,esc,texts⟩:=p
 have I:op=0\/op=1\/op=2\/op=3\/op=4\/op=5\/op=6\/op=7\/op=8\/op=9\/op=10\/op=11\/op=12\/op=13\/op=14\/op=15\/op=16\/op=17\/op=18\/op=19\/op=20\/op=21\/op=22\/op=23:=by
  simp only at h0 J8;omega
 rcases I with rfl|rfl|rfl|rfl|rfl|rfl|rfl|rfl|rfl|rfl|rfl|rfl|rfl|rfl|rfl|rfl|rfl|rfl|rfl|rfl|rfl|rfl|rfl|rfl
 ·refine s (xL ps str) rfl (vcn λX f=>?_)
  have nO:=C7.below f;obtain⟨h8,M3⟩:=nO;rcases M3 with⟨rfl,a,cap,rfl⟩|⟨b,off,cap,rfl,he,A0⟩
  ·exact qi3 a cap [] (BS str) X mx (λk p h=>by simp at h)
  ·exact qi3 _ cap ps (BS str) X mw (λk p h=>⟨b,off,rfl,A0,he⟩)
 ·exact s (iV num) rfl vco
 ·exact s (tV str) rfl vcp
 ·exact s (bV true) rfl vcq
 ·exact s (bV false) rfl vcr
 ·obtain⟨x,b,cap,e,i,rfl,f,B,M,g,q,j⟩:=O (one rfl)
  exact s (xP x) (by rw[←D x e];rfl) (vcs i f g q j)
 ·obtain⟨x,y,b,cap,e,C,i,rfl,f,B,F,g,q,j,A,z,u⟩:=H (two rfl)
  exact s (qg3 x y) (by rw[←D x e,←G y C];rfl) (vct i f g q j A z u)
 ·obtain⟨x,y,b,cap,e,C,i,rfl,f,B,F,g,q,j,A,z,u⟩:=H (two rfl)
  exact s (orV x y) (by rw[←D x e,←G y C];rfl) (vcu i f g q j A z u)
 ·obtain⟨x,y,b,cap,e,C,i,rfl,f,B,F,g,q,j,A,z,u⟩:=H (two rfl)
  exact s (eqV x y) (by rw[←D x e,←G y C];rfl) (vcv i f g q j A z u)
 ·obtain⟨x,y,b,cap,e,C,i,rfl,f,B,F,g,q,j,A,z,u⟩:=H (two rfl)
  exact s (xP (eqV x y)) (by rw[←D x e,←G y C];rfl) (vcw i f g q j A z u)
 ·obtain⟨x,y,b,cap,e,C,i,rfl,f,B,F,g,q,j,A,z,u⟩:=H (two rfl)
  exact s (yo x y) (by rw[←D x e,←G y C];rfl) (xU ⟨#[60]⟩ nl i f g q j A z u λw=>kP w (.inl ⟨rfl,rfl⟩))
 ·obtain⟨x,y,b,cap,e,C,i,rfl,f,B,F,g,q,j,A,z,u⟩:=H (two rfl)
  exact s (leV x y) (by rw[←D x e,←G y C];rfl) (xU ⟨#[60,61]⟩ nl i f g q j A z u λw=>kP w (.inr (.inl ⟨rfl,rfl⟩)))
 ·obtain⟨x,y,b,cap,e,C,i,rfl,f,B,F,g,q,j,A,z,u⟩:=H (two rfl)
  exact s (yo y x) (by rw[←D x e,←G y C];rfl) (xU ⟨#[62]⟩ nl i f g q j A z u λw=>kP w (.inr (.inr (.inl ⟨rfl,rfl⟩))))
 ·obtain⟨x,y,b,cap,e,C,i,rfl,f,B,F,g,q,j,A,z,u⟩:=H (two rfl)
  exact s (leV y x) (by rw[←D x e,←G y C];rfl) (xU ⟨#[62,61]⟩ nl i f g q j A z u λw=>kP w (.inr (.inr (.inr ⟨rfl,rfl⟩))))
 ·obtain⟨x,b,cap,e,i,rfl,f,B,M,g,q,j⟩:=O (one rfl)
  exact s (qiq (iV 0) x) (by rw[←D x e];rfl) (qx0 i f g q j B)
 ·obtain⟨x,b,cap,e,i,rfl,f,B,M,g,q,j⟩:=O (one rfl)
  exact s (qrs (iV 0) x) (by rw[←D x e];rfl) (qx1 i f g q j B)
 ·obtain⟨x,y,b,cap,e,C,i,rfl,f,B,F,g,q,j,A,z,u⟩:=H (two rfl)
  exact s (qiq x y) (by rw[←D x e,←G y C];rfl) (xU ⟨#[43]⟩ nl i f g q j A z u λw=>qno x y B F w)
 ·obtain⟨x,y,b,cap,e,C,i,rfl,f,B,F,g,q,j,A,z,u⟩:=H (two rfl)
  exact s (qrs x y) (by rw[←D x e,←G y C];rfl) (xU ⟨#[45]⟩ nl i f g q j A z u λw=>qnp x y B F w)
 ·obtain⟨x,y,b,cap,e,C,i,rfl,f,B,F,g,q,j,A,z,u⟩:=H (two rfl)
  exact s (qir x y) (by rw[←D x e,←G y C];rfl) (xU ⟨#[42]⟩ nl i f g q j A z u λw=>vc7 x y B F w)
 ·obtain⟨x,y,b,cap,e,C,i,rfl,f,B,F,g,q,j,A,z,u⟩:=H (two rfl)
  exact s (qq0 x y) (by rw[←D x e,←G y C];rfl) (xU ⟨#[47]⟩ nl i f g q j A z u λw=>vc6 x y B w)
 ·have Z:3<=xs.length:=ha
  obtain⟨b,cap,rfl,f,I⟩:=R.2 (λe=>by rw[e]at Z;simp at Z);have J:xs[0]?=some xs[0]:=ag mw;have P:xs[1]?=some xs[1]:=ag mw;have D8:xs[2]?=some xs[2]:=ag mw;have L:=I 0 _ J;have K:=I 1 _ P;have T:=I 2 _ D8;exact s (qg3 (leV xs[1] xs[0]) (leV xs[0] xs[2])) (by rw[←D _ J,←G _ P,←D2 _ D8];rfl) (qx2 mw f (by simpa using L.1) (by simpa using L.2.1) (by simpa using L.2.2) (by simpa using K.1) (by simpa using K.2.1) (by simpa using K.2.2) (by simpa using T.1) (by simpa using T.2.1) (by simpa using T.2.2) (λw=>kP w (.inr (.inr (.inr ⟨rfl,rfl⟩)))) (λw=>kP w (.inr (.inl ⟨rfl,rfl⟩))) (λw=>qnn _ _ w))
 ·obtain⟨x,b,cap,e,i,rfl,f,B,M,g,q,j⟩:=O (one rfl)
  obtain⟨la,lc,rfl,hl⟩:=Z6;exact s (gP x texts) (by rw[←D x e];rfl) (qx3 i f g q j Y.2 hl)
 ·obtain⟨x,b,cap,e,i,rfl,f,B,M,g,q,j⟩:=O (one rfl)
  exact s (qai x str esc) (by rw[←D x e];rfl) (qx4 i f g q j (λw=>qr4 x M str esc (bs Y.1 nh) (hcut rfl) w))
 ·obtain⟨x,b,cap,e,i,rfl,f,B,M,g,q,j⟩:=O (one rfl)
  exact s (bV (x.kind==0)) (by rw[←D x e];rfl) (qx5 i f g)
end
section
attribute [local go_sem ↓] vk
def qil(x:V):List Value:=[.int .i64 x.kind,.int .i64 x.num,.string (BS x.str)]
def VsAt(w:World)(base:Nat)(v:Value)(vs:List V):Prop:=w.ownsRow base 26 3 v vs.length (vs.flatMap qil)
theorem qu7:(prog.info? 26).map (λi=>(i.zero,i.size,i.bytes))=some (some (.agg #[.int .i64 0,.int .i64 0,.string ⟨#[]⟩]),3,32):=nl
theorem vj4{α:Type}(f:α->List Value)(m:Nat)(e:∀a,(f a).length=m):∀(l:List α) (i:Nat) (a:α),l[i]?=some a->∀k,k<m->(l.flatMap f)[i * m+k]?=(f a)[k]?:=by
 intro l
 induction l with
 | nil=>intro i a h;simp at h
 | cons c t ih=>
  intro i a h k g
  cases i with
  | zero=>
   simp at h;subst h;rw[dw,Nat.zero_mul,ee,bw (by rw[e];exact g)]
  | succ i=>
   rw[dw,cj (by rw[e,Nat.succ_mul];omega),e,show(i+1) * m+k - m=i * m+k by rw[Nat.succ_mul];omega];exact ih i a (by simpa using h) k g
theorem VsAt.nil(w:World)(base:Nat):VsAt w base (.slice none 0 0) []:=ed _ _ _ _
theorem VsAt.below{v:Value}(h:VsAt w base v vs)(e:Xb w w'):VsAt w' base v vs:=qq h e nt
theorem VsAt.ins{v:Value}(h:VsAt w base v vs):vf5 w v vs:=by
 have r:=h;rcases h.2 with⟨rfl,f⟩|⟨g,cap,cur,rfl,z,s,_⟩
 ·exact⟨⟨none,0,by rw[f]⟩,λi=>absurd (cq f) i⟩
 ·refine⟨⟨_,_,rfl⟩,λ_=>⟨g,cap,rfl,(cg.1 s).1,λk x e=>?_⟩⟩
  have u:=(au.1 e).1
  have key:∀j,j<3->w.cell? ⟨g,k * 3+j,none⟩=(qil x)[j]?:=λj q=>by
   rw[World.ownsRow.cellAt r (k * 3+j) mw];exact vj4 qil 3 (λ_=>rfl) vs k x e j q
  exact⟨key 0 mw,key 1 mw,key 2 mw⟩
theorem VsAt.app{v:Value}(h:VsAt W base v vs)(s:base<=W.heap.size)(x:V)(F:vs.length<=1000)(H:Nat)(u:W.heap.size=H):
  ∃g cap e,(appR #[127,127] 127 #[v,.slice (some ⟨H,0,none⟩) 1 1]).run prog (W.alloc (.cells #[.int .i64 x.kind,.int .i64 x.num,.string (BS x.str)] 26))=.ok (.slice (some ⟨g,0,none⟩) (vs.length+1) cap) e /\
   Hid (VsAt e base (.slice (some ⟨g,0,none⟩) (vs.length+1) cap) (vs++[x]))/\Hid (Below base W e):=by
 subst u;obtain⟨i,r,z,B,A⟩:=info_parts qu7;have f:=World.ownsRow.alloc h (.cells #[.int .i64 x.kind,.int .i64 x.num,.string (BS x.str)] 26);obtain⟨g,cap,e,j,C,D,G,_⟩:=run_append_lies (P:=prog) (W.alloc (.cells #[.int .i64 x.kind,.int .i64 x.num,.string (BS x.str)] 26)) 127 127 base 26 i _ 3 32 underlying127 r z B A rfl mw v vs.length _ f
  ⟨W.heap.size,0,none⟩ 1 1 (qil x) rfl (World.news_of_block (cs:=#[.int .i64 x.kind,.int .i64 x.num,.string (BS x.str)]) (t:=26) (fr:=(0,0)) (heap_alloc_new W _)) (by simp[qil,Value.oneCell']) mw (by unfold maxLen;omega) mw my _ rfl
 refine⟨g,cap,e,j,qd ?_,qd ?_⟩
 ·show World.ownsRow _ _ _ _ _ _ _
  rw[bu,da,ij];simpa using C
 ·exact Go.RowKit.Below.grown (((Below.refl base W).alloc s _)) D my (λk q=>(f.lt k q).1)
structure VlAt(w wr:World)(av:Value)(vs:List V):Prop where
 row:VsAt wr (w.heap.size+1) av vs
 bel:Below (w.heap.size+1) (w.alloc (.cells #[.int .i64 0,.int .i64 0,.string ⟨#[]⟩] 26)) wr
 good:∀x∈vs,Rng x.num/\Sh x
theorem VlAt.bel0(h:VlAt w wr av vs):Xb w wr:=(nw.alloc nt _).trans (h.bel.mono (Nat.le_succ _))
theorem VlAt.size(h:VlAt w wr av vs):w.heap.size+1<=wr.heap.size:=by have:=h.bel.size;simpa using this
theorem vcd(h:qdw ps)(e:vdq ps)(f:Rng p.num)(g:Bp p)(xs:List V)(neg:Bool):Rng (if neg=true then xP (ofN ps p xs) else ofN ps p xs).num/\Sh (if neg=true then xP (ofN ps p xs) else ofN ps p xs):=by
 split
 ·exact⟨qkv _,by unfold xP;exact qT (qch _) qci⟩
 ·exact⟨vk7 h f xs,vmb e g.1 xs⟩
theorem RowOf.txt{v:Value}(h:RowOf w rb 9 v (qu ts)):TxtAt w v ts:=by
 obtain⟨a,c,e⟩:=h.form;refine⟨a,c,by rw[e];simp[qu],λk t r=>?_⟩;have j:(qu ts)[k]?=some (.string (BS t)):=by simp[qu,r]
 obtain⟨q,cap,i,u⟩:=h.get j;rw[e]at i;injection i with i;refine⟨q,i, ?_,u⟩;rcases h with⟨z,_⟩|⟨g,cap',A,fr,f,_,s,_⟩
 ·rw[z]at j;simp at j
 ·rw[e]at f
  injection f with f;rw[i]at f;injection f with f;injection f with f;subst f;exact(cg.1 s).1
theorem TxtAt.below{v:Value}(h:TxtAt w v ts)(f:Xb w w'):TxtAt w' v ts:=by
 obtain⟨j,i,e,r⟩:=h;refine⟨j,i,e,λk t q=>?_⟩;obtain⟨lb,u,g,s⟩:=r k t q;exact⟨lb,u,bg g f.size,((qj f).1 _ _ g).trans s⟩
def vir(w:World)(v:Value)(l:List Nat):Prop:=
 ∃la lc,v=.slice la l.length lc/\∀(k q:Nat),l[k]?=some q->∃lb,la=some ⟨lb,0,none⟩/\lb<w.heap.size/\w.cell? ⟨lb,k,none⟩=some (.int .i64 (q:Int))
theorem RowOf.nums{v:Value}(h:RowOf w rb 3 v (gK l)):vir w v l:=by
 obtain⟨a,c,e⟩:=h.form;refine⟨a,c,by rw[e];simp[gK],λk t r=>?_⟩;have j:(gK l)[k]?=some (.int .i64 (t:Int)):=by simp[gK,r]
 obtain⟨q,cap,i,u⟩:=h.get j;rw[e]at i;injection i with i;refine⟨q,i, ?_,u⟩;rcases h with⟨z,_⟩|⟨g,cap',A,fr,f,_,s,_⟩
 ·rw[z]at j;simp at j
 ·rw[e]at f
  injection f with f;rw[i]at f;injection f with f;injection f with f;subst f;exact(cg.1 s).1
theorem qwx{n:RN}(f:ns[k]?=some n)(e:gh ps [] (ns.take k)=vs):gh ps [] (ns.take (k+1))=vs++[qew ps vs n]:=by
 rw[dn,f,pp,e];rfl
theorem qm2{g u:Nat}(c0:w.cell? ⟨rb,0,none⟩=some (.slice (some ⟨g,0,none⟩) u cap))(hN:NodesAt w rb (.slice (some ⟨g,0,none⟩) u cap) ns)(V4:rb<w.heap.size)(hne:0<ns.length)(B8:ns.length<=1000)(C7:EvArg w ev ps)(O:qdw ps)(hs:vdq ps)
  (hf:∀i n,ns[i]?=some n->∃o,NF i n o) (hg:∀n∈ns,∃p,NG n p) :
  nz 124 #[.pointer (some ⟨rb,0,none⟩),ev] w λe w'=>e=.returned (vV ((gh ps [] ns).getD (ns.length - 1) nV))/\Xb w w':=by
 have dZ:u=ns.length:=by
  obtain⟨rs,_,ho,_⟩:=hN;obtain⟨_,H|⟨g',cap',cur,e,_⟩⟩:=ho
  ·cases H.1
  ·injection e with _ e2 _
 have wX:g<w.heap.size:=by
  obtain⟨rs,_,ho,_⟩:=hN;exact(ho.lt g rfl).2
 obtain⟨R,hR⟩:∃r,(gh ps [] ns).getD (ns.length - 1) nV=r:=⟨_,rfl⟩;rw[hR];have HR:Hid ((gh ps [] (ns.take u)).getD (u - 1) nV=R):=qd (by rw[dZ,fk];exact hR);obtain⟨ea,en,ec,rfl⟩:=C7.slice;have HN:=qd hN;have tD:=qd C7;have HF:=qd hf;have HG:=qd hg;have aQ:=qd dZ;have SF:=qd O;have fV:=qd hs;have V5:0<u:=mw;have IM:u<=1000:=mw;clear hN C7 hf hg dZ hR hne B8 O hs;go_enter func124,ntmps124
 go_wp2_with fail
 go_loopw [5,6] (λav i wr=>∃k:Nat,k<=u/\i=.int .i64 k/\Hid (VlAt w wr av (gh ps [] (ns.take k)))) (λ_ i _=>u - (intOf i).toNat)
 case atStart=>exact⟨0,bj _,rfl,qd ⟨VsAt.nil _ _,nw,λx H=>by simp[gh]at H⟩⟩
 case round=>
  obtain⟨k,hk,rfl,f⟩:=hrel;obtain⟨vs,EP⟩:∃vs,gh ps [] (ns.take k)=vs:=⟨_,rfl⟩;rw[EP]at f;have X:vs.length=k:=by rw[←EP,vcl];have:=q9 aQ;simp;omega
  have sW:=qd EP;have DX:=qd X;have P:=(q9 f).bel0;have t9:=(q9 f).size;have d0:wr.cell? ⟨rb,0,none⟩=some (.slice (some ⟨g,0,none⟩) u cap):=((qj P).1 _ 0 V4).trans c0;have V3:rb<wr.heap.size:=mw;have Z:=(q9 f).row.ins
  by_cases A0:k<u
  ·obtain⟨n,hn⟩:∃n,ns[k]?=some n:=⟨_,ag (by have:=q9 aQ;omega)⟩
   obtain⟨o,eV⟩:=q9 HF k n hn;have aF:=eV.ins;have G9:=eV.few;obtain⟨p,⟨ins,neg,c,rfl,LJ⟩,wM,eL,eM,dK,F8⟩:=q9 HG n (ch hn);have uF:=(q9 HN).below V4 P;obtain⟨nY,iv,lv,nI,mZ,C⟩:=uF.cells hn;have m7:RowOf wr rb 3 iv (gK ins):=nI;have Z6:RowOf wr rb 9 lv (qu p.texts):=mZ;have aF:∀q∈ins,q<k:=aF;clear nY nI mZ;have e0:wr.cell? ⟨g,k * 9,none⟩=some (.string (BS (qD p.op))):=by have:=C 0 mw;rw[Nat.add_zero]at this;exact this
   have e1:wr.cell? ⟨g,k * 9+1,none⟩=some (.int .i64 p.place):=C 1 mw;have e2:wr.cell? ⟨g,k * 9+2,none⟩=some iv:=C 2 mw;have e3:wr.cell? ⟨g,k * 9+3,none⟩=some (.string (BS p.str)):=C 3 mw;have e4:wr.cell? ⟨g,k * 9+4,none⟩=some (.string (BS p.esc)):=C 4 mw;have e5:wr.cell? ⟨g,k * 9+5,none⟩=some lv:=C 5 mw;have e6:wr.cell? ⟨g,k * 9+6,none⟩=some (.int .i64 p.num):=C 6 mw;have e7:wr.cell? ⟨g,k * 9+7,none⟩=some (.bool neg):=C 7 mw;have e8:wr.cell? ⟨g,k * 9+8,none⟩=some (.int .i64 c):=C 8 mw;have HNU:=qd m7.nums;have JB:=qd Z6.txt;obtain⟨ia,ic,rfl,FM⟩:=m7.nums;obtain⟨la,lc,rfl,_⟩:=Z6.txt;obtain⟨xs,lW⟩:∃xs,ins.map (λq=>vs.getD q nV)=xs:=⟨_,rfl⟩;have iI:xs.length=ins.length:=by rw[←lW,ep]
   have VX:∀x∈xs,Rng x.num/\Sh x:=by
    intro x H;rw[←lW]at H;obtain⟨q,Y,rfl⟩:=fw.1 H;have OK:=aF q Y;rw[aq,ag mw];exact f.good _ (eu _)
   obtain⟨r,O⟩:∃r,ofN ps p xs=r:=⟨_,rfl⟩;have RV:=qd (λ(w:World) (inv:Value) (h1:EvArg w (.slice ea en ec) ps) (h2:vf5 w inv xs) (h3:TxtAt w (.slice la p.texts.length lc) p.texts)=>qrh (iv:=.slice ia ins.length ic) (neg:=neg) (c:=c) h1 wM eL (by rw[iI];exact LJ) VX dK F8 h2 h3);rw[O]at RV;have RN:=qd (λw=>qfn r w);simp only[vV]at RV RN
   have oH:Hid (gh ps [] (ns.take (k+1))=vs++[if neg=true then xP r else r]):=qd (by
    rw[qwx hn (q9 sW)]
    congr 2
    show(if neg=true then xP (ofN ps (qcx (js p ins neg)) (ins.map λq=>vs.getD q nV)) else ofN ps (qcx (js p ins neg)) (ins.map λq=>vs.getD q nV))=_
    rw[xQ wM eL,lW,O])
   have TI:Hid (∀x∈vs++[if neg=true then xP r else r],Rng x.num/\Sh x):=qd (by
    intro x H;rcases cr.1 H with h|h
    ·exact f.good x h
    ·rw[cp.1 h,←O]
     exact vcd SF fV eM dK xs neg)
   have HXS:=qd lW;have DW:=qd iI;have BQ:Hid (∀q∈ins,q<k):=qd aF;have h3:ins.length<=3:=G9;obtain⟨B,nE⟩:∃x,ins.length=x:=⟨_,rfl⟩;have fZ:=qd nE;obtain⟨lT,mC⟩:∃x,p.texts.length=x:=⟨_,rfl⟩;rw[nE]at e2 RV h3;rw[mC]at e5 RV JB;have BK:=qd FM;have N5:(0:Int)<=(k:Int):=mw;have A5:(k:Int)<(u:Int):=mw;have ng:¬g=wr.heap.size:=by have:=P.size;omega
   have nr:¬rb=wr.heap.size:=mw;have V9:g<wr.heap.size:=by have:=P.size;omega
   obtain⟨W,hW⟩:∃W:World,W=wr.alloc (.cells #[.string (BS (qD p.op)),.int .i64 p.place,.slice ia B ic,.string (BS p.str),.string (BS p.esc),.slice la lT lc,.int .i64 p.num,.bool neg,.int .i64 c] 241):=⟨_,rfl⟩;have lH:Xb wr W:=hW ▸ nw.alloc nt _
   have cK:∀k,W.cell? ⟨wr.heap.size,k,none⟩=#[.string (BS (qD p.op)),.int .i64 p.place,.slice ia B ic,.string (BS p.str),.string (BS p.esc),.slice la lT lc,.int .i64 p.num,.bool neg,.int .i64 c][k]?:=λk=>by rw[hW,cd _ _ _ _ mx]
   have mF:W.heap.size=wr.heap.size+1:=by rw[hW];simp
   have HW:=qd hW;have IZ:=qd lH;have BE:=qd mF;have F:=qd cK;obtain⟨aa,ac,rfl⟩:=Z.1;rw[X]at Z ⊢;have HI:=qd Z;clear hn eV aF G9 LJ wM eL eM dK F8 uF m7 Z6 C FM lW iI VX O nE mC hW lH cK mF Z EP X P sW
   go_wp2_with fail
   rw[←q9 HW];clear e0 e1 e2 e3 e4 e5 e6 e7 e8;obtain⟨s,rfl⟩:∃s:World,s=wr:=⟨_,rfl⟩
   go_loopw [8,9] (λnv j wq=>∃m:Nat,m<=B/\j=.int .i64 m/\Hid (VsAt wq W.heap.size nv (xs.take m))/\Hid (Xb W wq)) (λ_ j _=>B - (intOf j).toNat)
   case atStart=>exact⟨0,bj _,rfl,qd (VsAt.nil _ _),qd nw⟩
   case round=>
    obtain⟨m,hm,rfl,K,BM⟩:=hrel;obtain⟨D,rB⟩:=qj BM;have NO:=(q9 BM).size;have mF:=q9 BE;have J:=qd (qf IZ BM);have f0:wr.cell? ⟨s.heap.size,0,none⟩=some (.string (BS (qD p.op))):=(D _ 0 mw).trans (F 0);have f1:wr.cell? ⟨s.heap.size,1,none⟩=some (.int .i64 p.place):=(D _ 1 mw).trans (F 1);have f2:wr.cell? ⟨s.heap.size,2,none⟩=some (.slice ia B ic):=(D _ 2 mw).trans (F 2);have f3:wr.cell? ⟨s.heap.size,3,none⟩=some (.string (BS p.str)):=(D _ 3 mw).trans (F 3);have f4:wr.cell? ⟨s.heap.size,4,none⟩=some (.string (BS p.esc)):=(D _ 4 mw).trans (F 4);have f5:wr.cell? ⟨s.heap.size,5,none⟩=some (.slice la lT lc):=(D _ 5 mw).trans (F 5);have f6:wr.cell? ⟨s.heap.size,6,none⟩=some (.int .i64 p.num):=(D _ 6 mw).trans (F 6);have f7:wr.cell? ⟨s.heap.size,7,none⟩=some (.bool neg):=(D _ 7 mw).trans (F 7);have f8:wr.cell? ⟨s.heap.size,8,none⟩=some (.int .i64 c):=(D _ 8 mw).trans (F 8);clear D rB
    by_cases hml:m<B
    ·obtain⟨q,Y⟩:∃q,ins[m]?=some q:=⟨_,ag (by have:=q9 fZ;omega)⟩
     have OK:q<k:=q9 BQ q (ch Y);obtain⟨lb,rfl,L9,nD⟩:=q9 BK m q Y;have hql:wr.cell? ⟨lb,m,none⟩=some (.int .i64 (q:Int)):=(J.cell (p:=⟨lb,m,none⟩) L9).trans nD;obtain⟨Q,LX,AL,S6,bB⟩:=(q9 HI).2 (λe=>by have:=q9 DX;rw[e]at this;simp at this;omega);injection AL with AL AK AJ;subst AL AJ;obtain⟨y,M⟩:∃y,vs[q]?=some y:=⟨_,ag (by have:=q9 DX;omega)⟩;obtain⟨y0,y1,y2⟩:=bB q y M;have a0:wr.cell? ⟨Q,q * 3,none⟩=some (.int .i64 y.kind):=(J.cell (p:=⟨Q,q * 3,none⟩) S6).trans y0;have a1:wr.cell? ⟨Q,q * 3+1,none⟩=some (.int .i64 y.num):=(J.cell (p:=⟨Q,q * 3+1,none⟩) S6).trans y1;have a2:wr.cell? ⟨Q,q * 3+2,none⟩=some (.string (BS y.str)):=(J.cell (p:=⟨Q,q * 3+2,none⟩) S6).trans y2;have tI:xs[m]?=some y:=by rw[←q9 HXS,dd,Y,it,aq,M];rfl
     have rV:(xs.take m).length=m:=by rw[dh,q9 DW];have:=q9 fZ;omega
     obtain⟨g5,M9,w5,R9,I,P6⟩:=(q9 K).app mw y mw wr.heap.size rfl;rw[show xs.take m++[y]=xs.take (m+1) by rw[dn,tI];rfl,rV]at I;rw[rV]at R9;obtain⟨na,nc,rfl⟩:=(q9 K).ins.1;rw[rV]at R9 ⊢;have sB:(0:Int)<=(m:Int):=mw;have mB:(m:Int)<(B:Int):=mw;have FF:(0:Int)<=(q:Int):=mw;have dS:(q:Int)<(k:Int):=mw;clear Y nD bB M y0 y1 y2 tI rV K f0 f1 f3 f4 f5 f6 f7 f8 AK
     go_wp2_with fail
     go_roundw
     case rel=>exact⟨m+1,mw,by go_num,I,qd (BM.trans P6)⟩
     case measure=>simp[intOf];omega
    ·have CW:m=B:=mw
     have oT:xs.take m=xs:=ez (by have:=q9 DW;have:=q9 fZ;omega);rw[oT]at K;have RW:=qd K.ins;have cZ:xs.length=B:=by have:=q9 DW;have:=q9 fZ;omega
     obtain⟨na,nc,rfl⟩:=(q9 K).ins.1;rw[cZ]at RW K ⊢;have YN:=qd (f.row.below J);have rN:=qd (f.bel.trans (J.mono t9));have NA:=qd (tD.below (qf f.bel0 J));have IU:=qd (JB.below J);have KV:¬(m:Int)<(B:Int):=mw;have EL:s.heap.size<wr.heap.size:=mw;have EQ:=q9 DX;have F2:w.heap.size+1<=wr.heap.size:=mw;clear oT CW cZ K BM IZ f
     cases neg with
     | false=>
      go_wp2_with(go_at_call 176;refine(RV _ _ NA RW IU).mono ?_;rintro e A⟨rfl,z⟩;have D8:=z.size;obtain⟨I1,K9⟩:=qj z;have k7:=(I1 _ 7 EL).trans f7;have wA:s.heap.size<A.heap.size:=mw;have fR:=qd (YN.below (z.alloc z.size (.cells #[.int .i64 r.kind,.int .i64 r.num,.string (BS r.str)] 26)));have E8:=qd (rN.trans ((z.alloc z.size (.cells #[.int .i64 r.kind,.int .i64 r.num,.string (BS r.str)] 26)).mono F2));obtain⟨g5,M9,w5,R9,I,P6⟩:=(q9 fR).app my r mw (A.heap.size+1) mx;rw[EQ]at R9 I;clear z I1 K9)
      go_roundw
      case rel=>exact⟨k+1,mw,by go_num,qd ⟨by rw[q9 oH];exact q9 I,E8.trans P6,by rw[q9 oH];exact q9 TI⟩⟩
      case measure=>simp[intOf];omega
     | true=>
      obtain⟨G,A9⟩:∃x,xP r=x:=⟨_,rfl⟩;rw[A9]at RN;have oG:Hid (gh ps [] (ns.take (k+1))=vs++[G]):=qd (by rw[q9 oH,bh rfl,A9]);have TH:Hid (∀x∈vs++[G],Rng x.num/\Sh x):=qd (by have:=q9 TI;rw[bh rfl,A9]at this;exact this);clear oH TI A9
      go_wp2_with(first|(go_at_call 176;refine(RV _ _ NA RW IU).mono ?_;rintro e A⟨rfl,z⟩;have D8:=z.size;obtain⟨I1,K9⟩:=qj z;have k7:=(I1 _ 7 EL).trans f7;have wA:s.heap.size<A.heap.size:=mw;have F9:=qd (z.alloc z.size (.cells #[.int .i64 r.kind,.int .i64 r.num,.string (BS r.str)] 26));clear z I1 K9)|(go_at_call 177;refine(RN _).mono ?_;rintro e L⟨rfl,D6⟩;obtain⟨S7,lA⟩:=qj D6;have S4:A.heap.size+1<=L.heap.size:=(by have:=D6.size;simp at this;omega);have v0:L.cell? ⟨A.heap.size,0,none⟩=some (.int .i64 r.kind):=(S7 _ 0 mx).trans mx;have v1:L.cell? ⟨A.heap.size,1,none⟩=some (.int .i64 r.num):=(S7 _ 1 mx).trans mx;have v2:L.cell? ⟨A.heap.size,2,none⟩=some (.string (BS r.str)):=(S7 _ 2 mx).trans mx;have vz:Xf L A.heap.size:=(λi=>(lA _ i mx).trans mx);have QU:Xb wr (((L.setCell ⟨A.heap.size,0,none⟩ (.int .i64 G.kind)).setCell ⟨A.heap.size,1,none⟩ (.int .i64 G.num)).setCell ⟨A.heap.size,2,none⟩ (.string (BS G.str))):=((((qf F9 D6).setCell D8 _).setCell D8 _).setCell D8 _);have fR:=qd (YN.below QU);have E8:=qd (rN.trans (QU.mono F2));obtain⟨g5,M9,w5,R9,I,P6⟩:=(q9 fR).app my G mw L.heap.size mx;rw[EQ]at R9 I;clear D6 S7 lA QU))
      go_roundw
      case rel=>exact⟨k+1,mw,by go_num,qd ⟨by rw[q9 oG];exact q9 I,E8.trans P6,by rw[q9 oG];exact q9 TH⟩⟩
      case measure=>simp[intOf];omega
  ·have U6:k=u:=mw
   subst U6;obtain⟨Q,LX,rfl,S6,bB⟩:=Z.2 (λe=>by rw[e]at X;simp at X;omega);obtain⟨y,M⟩:∃y,vs[k - 1]?=some y:=⟨_,ag mw⟩;obtain⟨y0,y1,y2⟩:=bB (k - 1) y M;have MG:Hid (R=y):=qd (by rw[←q9 HR,q9 sW,aq,M];rfl);obtain⟨T,rfl⟩:∃T,k=T+1:=⟨k - 1,mw⟩;rw[show T+1 - 1=T by omega]at y0 y1 y2;have r0:wr.cell? ⟨w.heap.size,0,none⟩=some (.int .i64 0):=(f.bel.cell (p:=⟨w.heap.size,0,none⟩) (dj _)).trans mx;have r1:wr.cell? ⟨w.heap.size,1,none⟩=some (.int .i64 0):=(f.bel.cell (p:=⟨w.heap.size,1,none⟩) (dj _)).trans mx;have G:wr.cell? ⟨w.heap.size,2,none⟩=some (.string ⟨#[]⟩):=(f.bel.cell (p:=⟨w.heap.size,2,none⟩) (dj _)).trans mx;have rz:Xf wr w.heap.size:=λi=>(f.bel.frozen (p:=⟨w.heap.size,i,none⟩) (dj _)).trans mx
   rw[X];have J0:=qd P;have A5:(T:Int)+1 - 1=(T:Int):=mw;clear M bB Z EP sW P f
   go_wp2_with fail
   refine ak (by simp[go_sem,r0,r1,G]<;>rfl) rfl ⟨?_, ?_⟩
   ·rw[q9 MG];rfl
   ·exact(((J0.setCell nt _).setCell nt _).setCell nt _)
end
section
abbrev zoC:Obj:=.cells #[.string ⟨#[]⟩,.string ⟨#[]⟩,.int .i64 0,.slice none 0 0,.slice none 0 0,.slice none 0 0] 184
attribute [local go_sem ↓] vk
def qja(o:Int):Int:=if o=0 then 0 else if o=1 then 2 else if o=2 then 3 else if 16<=o/\o<=19 then 2 else 1
def qa0(p:CP):Nat:=if p.op=0\/p.op=2\/p.op=22 then p.str.length else 0
def qB:Co->List (List UInt8)
 | .leaf p=>[qp (.leaf p)]
 | .un p x=>qB x++[qp (.un p x)]
 | .bin p x y=>qB x++qB y++[qp (.bin p x y)]
def jJ:Co->List Nat
 | .leaf p=>[qa0 p]
 | .un p x=>jJ x++[qa0 p]
 | .bin p x y=>jJ x++jJ y++[qa0 p]
theorem qxq(c:Co):qB c≠[]:=by cases c<;>simp[qB]
theorem zI:∀c:Co,(jJ c).length=(qB c).length
 | .leaf _=>rfl
 | .un _ x=>by simp[jJ,qB,zI x]
 | .bin _ x y=>by simp[jJ,qB,zI x,zI y]
def qfd(c:Co)(pv tv rv:Value):List Value:=[.string (BS (qD (opC c))),.string (BS (qp c)),.int .i64 (qja (opC c)),pv,tv,rv]
def SideAt(w:World)(b o:Nat)(c:Co)(p1 t1 r1:Value):Prop:=∀k,k<6->w.cell? ⟨b,o+k,none⟩=(qfd c p1 t1 r1)[k]?
def TxN(N:Nat->Prop)(w:World)(v:Value)(ts:List (List UInt8)):Prop:=∃lb c,v=.slice (some ⟨lb,0,none⟩) ts.length c/\N lb/\lb<w.heap.size/\∀(k:Nat) (t:List UInt8),ts[k]?=some t->w.cell? ⟨lb,k,none⟩=some (.string (BS t))
def NmN(N:Nat->Prop)(w:World)(v:Value)(l:List Nat):Prop:=∃lb c,v=.slice (some ⟨lb,0,none⟩) l.length c/\N lb/\lb<w.heap.size/\∀(k t:Nat),l[k]?=some t->w.cell? ⟨lb,k,none⟩=some (.int .i64 (t:Int))
def RcAt(N:Nat->Prop)(w:World):Co->Value->Value->Value->Prop
 | .leaf p,pv,tv,rv=>pv=.slice none 0 0/\TxN N w tv (qB (.leaf p))/\NmN N w rv (jJ (.leaf p))
 | .un p x,pv,tv,rv=>(∃b cap p1 t1 r1,pv=.slice (some ⟨b,0,none⟩) 1 cap/\N b/\b<w.heap.size/\SideAt w b 0 x p1 t1 r1/\RcAt N w x p1 t1 r1)/\TxN N w tv (qB (.un p x))/\NmN N w rv (jJ (.un p x))
 | .bin p x y,pv,tv,rv=>(∃b cap p1 t1 r1 p2 t2 r2,pv=.slice (some ⟨b,0,none⟩) 2 cap/\N b/\b<w.heap.size/\SideAt w b 0 x p1 t1 r1/\RcAt N w x p1 t1 r1/\SideAt w b 6 y p2 t2 r2/\RcAt N w y p2 t2 r2)/\TxN N w tv (qB (.bin p x y))/\NmN N w rv (jJ (.bin p x y))
section
variable {N N':Nat->Prop} {w w':World}
theorem TxN.keep{v:Value}(h:TxN N w v ts)(q:∀b,N b->b<w.heap.size->w'.heap[b]?=w.heap[b]?)(i:w.heap.size<=w'.heap.size)(s:∀b,N b->b<w.heap.size->N' b):TxN N' w' v ts:=by
 obtain⟨lb,c,e,g,f,r⟩:=h;exact⟨lb,c,e,s _ g f,bg f i,λk t j=>(aw (w:=w) (a:=⟨lb,k,none⟩) (q lb g f)).trans (r k t j)⟩
theorem NmN.keep{v:Value}{ts:List Nat}(h:NmN N w v ts)(q:∀b,N b->b<w.heap.size->w'.heap[b]?=w.heap[b]?)(i:w.heap.size<=w'.heap.size)(s:∀b,N b->b<w.heap.size->N' b):NmN N' w' v ts:=by
 obtain⟨lb,c,e,g,f,r⟩:=h;exact⟨lb,c,e,s _ g f,bg f i,λk t j=>(aw (w:=w) (a:=⟨lb,k,none⟩) (q lb g f)).trans (r k t j)⟩
theorem SideAt.keep{o:Nat}{g e f:Value}(h:SideAt w b o c g e f)(i:w'.heap[b]?=w.heap[b]?):SideAt w' b o c g e f:=λk j=>(aw (w:=w) (a:=⟨b,o+k,none⟩) i).trans (h k j)
theorem RcAt.keep(f:∀b,N b->b<w.heap.size->w'.heap[b]?=w.heap[b]?)(g:w.heap.size<=w'.heap.size)(h:∀b,N b->b<w.heap.size->N' b):∀{c:Co} {pv tv rv:Value},RcAt N w c pv tv rv->RcAt N' w' c pv tv rv:=by
 intro c
 induction c with
 | leaf p=>rintro pv tv rv⟨H,r,q⟩;exact⟨H,r.keep f g h,q.keep f g h⟩
 | un p x ih=>
  rintro pv tv rv⟨⟨b,cap,z,s,u,e,j,i,B,A⟩,r,q⟩;exact⟨⟨b,cap,z,s,u,e,h _ j i,bg i g,B.keep (f b j i),ih A⟩,r.keep f g h,q.keep f g h⟩
 | bin p x y ihx ihy=>
  rintro pv tv rv⟨⟨b,cap,z,s,u,F,C,D,e,j,i,B,A,I,G⟩,r,q⟩;exact⟨⟨b,cap,z,s,u,F,C,D,e,h _ j i,bg i g,B.keep (f b j i),ihx A,I.keep (f b j i),ihy G⟩,r.keep f g h,q.keep f g h⟩
theorem RcAt.below(e:Xb w w'){pv tv rv:Value}(h:RcAt N w c pv tv rv):RcAt N w' c pv tv rv:=h.keep (λb _ f=>e.block b f) e.size (λ_ h _=>h)
theorem RcAt.mono{pv tv rv:Value}(h:RcAt N w c pv tv rv)(e:∀b,N b->b<w.heap.size->N' b):RcAt N' w c pv tv rv:=h.keep (λ_ _ _=>rfl) nt e
theorem RcAt.terms{pv tv rv:Value}(h:RcAt N w c pv tv rv):TxN N w tv (qB c)/\NmN N w rv (jJ c):=by
 cases c with
 | leaf p=>exact⟨h.2.1,h.2.2⟩
 | un p x=>exact⟨h.2.1,h.2.2⟩
 | bin p x y=>exact⟨h.2.1,h.2.2⟩
theorem RcAt.slices{pv tv rv:Value}(h:RcAt N w c pv tv rv):(∃a n k,pv=.slice a n k)/\(∃a n k,tv=.slice a n k)/\∃a n k,rv=.slice a n k:=by
 obtain⟨⟨a,k,e,_⟩,⟨b,m,j,_⟩⟩:=h.terms;refine⟨?_,⟨_,_,_,e⟩,_,_,_,j⟩
 cases c with
 | leaf p=>exact⟨_,_,_,h.1⟩
 | un p x=>obtain⟨⟨b,cap,i,f,g,e,_⟩,_⟩:=h;exact⟨_,_,_,e⟩
 | bin p x y=>obtain⟨⟨b,cap,i,f,g,s,q,r,e,_⟩,_⟩:=h;exact⟨_,_,_,e⟩
end
def rcV(c:Co)(pv tv rv:Value):Value:=.agg #[.string (BS (qD (opC c))),.string (BS (qp c)),.int .i64 (qja (opC c)),pv,tv,rv]
def RcEnds(N:Nat->Prop)(w:World)(c:Co)(e:Ending)(w':World):Prop:=Below w.heap.size w w'/\∃pv tv rv,e=.returned (rcV c pv tv rv)/\RcAt (λb=>N b\/w.heap.size<=b) w' c pv tv rv
theorem qwb(op text:mu)(c r:Int)(w:World):nz 224 #[.string op,.string text,.int .i64 c,.int .i64 r] w λe w'=>Xb w w'/\∃b1 b2,e=.returned (.agg #[.string op,.string text,.int .i64 c,.slice none 0 0,.slice (some ⟨b1,0,none⟩) 1 1,.slice (some ⟨b2,0,none⟩) 1 1])/\w.heap.size<=b1/\w.heap.size<=b2/\b1<w'.heap.size/\b2<w'.heap.size/\Xc w' b1 0 (.string text)/\Xc w' b2 0 (.int .i64 r):=by
 go_enter func224,ntmps224
 go_wp2_with fail
 refine nx ⟨?_, ?_⟩
 ·repeat' (first|exact nw|refine Below.setCell ?_ mx _|refine Below.alloc ?_ nj _)
 ·refine⟨w.heap.size+1,w.heap.size+1+1,rfl,mw,mw,mx,mx, ?_, ?_⟩
  ·simp[go_sem]
  ·simp[go_sem]
theorem kv(N:Nat->Prop)(p:CP)(w:World):nz 224 #[.string (BS (qD p.op)),.string (BS (qp (.leaf p))),.int .i64 (qja p.op),.int .i64 (qa0 p:Nat)] w (RcEnds N w (.leaf p)):=by
 refine(qwb _ _ _ _ w).mono ?_;rintro e w'⟨g,b1,b2,rfl,s,r,q,j,i,h⟩;refine⟨g,_,_,_,rfl,rfl,⟨b1,1,rfl,.inr s,q,λk t f=>?_⟩,⟨b2,1,rfl,.inr r,j,λk t f=>?_⟩⟩
 ·cases k with
  | zero=>
   obtain rfl:qp (.leaf p)=t:=by simpa [qB]using f
   exact i
  | succ k=>simp[qB]at f
 ·cases k with
  | zero=>
   obtain rfl:qa0 p=t:=by simpa [jJ]using f
   exact h
  | succ k=>simp[jJ]at f
end
section
attribute [local go_sem ↓] vk
theorem qbi:(prog.info? 9).map (λi=>(i.zero,i.size,i.bytes))=some (some (.string ⟨#[]⟩),1,16):=nl
theorem qgz:(prog.info? 3).map (λi=>(i.zero,i.size,i.bytes))=some (some (.int .i64 0),1,8):=nl
def kO(l:List Nat):List Value:=l.map λn:Nat=>.int .i64 (n:Int)
def TwRow(w:World)(base:Nat)(v:Value)(ts:List (List UInt8)):Prop:=w.ownsRow base 9 1 v ts.length (qu ts)
def NmRow(w:World)(base:Nat)(v:Value)(l:List Nat):Prop:=w.ownsRow base 3 1 v l.length (kO l)
structure MdAt(w W:World)(op text:ByteArray)(cl:Int)(pv tv rv:Value)(ts:List (List UInt8))(rs:List Nat):Prop where
 c0:W.cell? ⟨w.heap.size+1,0,none⟩=some (.string op)
 c1:W.cell? ⟨w.heap.size+1,1,none⟩=some (.string text)
 c2:W.cell? ⟨w.heap.size+1,2,none⟩=some (.int .i64 cl)
 c3:W.cell? ⟨w.heap.size+1,3,none⟩=some pv
 c4:W.cell? ⟨w.heap.size+1,4,none⟩=some tv
 c5:W.cell? ⟨w.heap.size+1,5,none⟩=some rv
 fz:∀i,W.frozen? ⟨w.heap.size+1,i,none⟩=false
 lt:w.heap.size+1<W.heap.size
 bel:Below (w.heap.size+1) (w.alloc zoC) W
 tr:TwRow W (w.heap.size+2) tv ts
 rr:NmRow W (w.heap.size+2) rv rs
section
variable {w W:World} {op text:mu} {cl:Int} {pv tv rv:Value} {ts:List mv} {rs:List Nat}
theorem MdAt.bel0(h:MdAt w W op text cl pv tv rv ts rs):Xb w W:=(nw.alloc nt _).trans (h.bel.mono (Nat.le_succ _))
theorem MdAt.drew(h:MdAt w W op text cl pv tv rv ts rs):MdAt w W.drew op text cl pv tv rv ts rs:=⟨h.c0,h.c1,h.c2,h.c3,h.c4,h.c5,h.fz,h.lt,h.bel.drew,h.tr,h.rr⟩
theorem MdAt.alloc(h:MdAt w W op text cl pv tv rv ts rs)(o:Obj):MdAt w (W.alloc o) op text cl pv tv rv ts rs:=by
 have g:Xb W (W.alloc o):=nw.alloc nt o;obtain⟨f,j⟩:=qj g;have e:=h.lt;exact⟨(f _ _ e).trans h.c0,(f _ _ e).trans h.c1,(f _ _ e).trans h.c2,(f _ _ e).trans h.c3,(f _ _ e).trans h.c4,(f _ _ e).trans h.c5,λi=>(j _ i e).trans (h.fz i),bg e g.size,h.bel.trans (g.mono mw),qq h.tr g nt,qq h.rr g nt⟩
theorem qax{base e size n:Nat}{v:Value}(h:U.ownsRow base e size v n xs)(f:v.ownBlock=some k):∃c,U.heap[k]?=some (.cells c e (0,0)):=by
 rcases h.2 with⟨rfl,_⟩|⟨g,cap,cur,rfl,_,i,_⟩
 ·cases f
 ·obtain rfl:g=k:=by simpa [Value.ownBlock]using f
  exact⟨cur,i⟩
theorem MdAt.grown{f:World}{v v':Value}(h:MdAt w W op text cl pv tv rv ts rs)(g:W.grownBy f v.ownBlock)(r:∀k,v.ownBlock=some k->w.heap.size+2<=k)(j:Nat):
  (∀k,k<W.heap.size->k≠w.heap.size+1->v.ownBlock≠some k->(f.setCell ⟨w.heap.size+1,j,none⟩ v').heap[k]?=W.heap[k]?)/\f.heap[w.heap.size+1]?=W.heap[w.heap.size+1]?/\w.heap.size+1<f.heap.size/\Below (w.heap.size+1) (w.alloc zoC) (f.setCell ⟨w.heap.size+1,j,none⟩ v'):=by
 have s:=h.lt;have z:=g.size;refine⟨λk q i u=>(bo f ⟨w.heap.size+1,j,none⟩ v' k i).trans (g.block k q (λe=>u e.symm)),g.block _ s (λe=>by have:=r _ e.symm;omega),mw, ?_⟩;exact Below.setCell (Go.RowKit.Below.grown h.bel g mw (λk q=>by have:=r k q;omega)) nt _
theorem MdAt.appT(h:MdAt w W op text cl pv tv rv ts rs){c:Nat}{us:List mv}(K:us.length=m)(B:0<m)(A:∀k t,us[k]?=some t->W.cell? (a.add k)=some (.string (BS t)))(fA:ts.length+m<=1000000000)(ty:TypeId):
  ∃g cap f,(appR #[62,62] ty #[tv,.slice (some a) m c]).run prog W=.ok (.slice (some ⟨g,0,none⟩) (ts.length+m) cap) f /\
   f.cell? ⟨w.heap.size+1,4,none⟩=some tv/\(∀i,f.frozen? ⟨w.heap.size+1,i,none⟩=false)/\w.heap.size+1<f.heap.size /\
   Hid (MdAt w (f.setCell ⟨w.heap.size+1,4,none⟩ (.slice (some ⟨g,0,none⟩) (ts.length+m) cap)) op text cl pv (.slice (some ⟨g,0,none⟩) (ts.length+m) cap) rv (ts++us) rs):=by
 subst K;obtain⟨I,L,O,T,R⟩:=info_parts qbi;have A0:=h.lt;obtain⟨g,cap,f,J,X,Y,C8,Z⟩:=run_append_lies (P:=prog) W 62 ty (w.heap.size+2) 9 I _ 1 16 underlying62 L O T R rfl mw tv ts.length _ h.tr
  a us.length c (qu us) (by simp[qu]) (λj u q=>by
   rw[qu,dd]at q
   cases z:us[j]? with
   | none=>rw[z]at q;cases q
   | some t=>rw[z]at q;injection q with q;rw[←q];exact A j t z) (λu z=>by
   obtain⟨t,_,rfl⟩:=fw.1 z;rfl) B (by unfold maxLen;omega) mw mw W.heap.size rfl
 obtain⟨C,G,H,Q⟩:=h.grown Y (λk C=>(h.tr.lt k C).1) 4 (v':=.slice (some ⟨g,0,none⟩) (ts.length+us.length) cap);have r:∀j,f.cell? ⟨w.heap.size+1,j,none⟩=W.cell? ⟨w.heap.size+1,j,none⟩:=λj=>aw (w:=W) (a:=⟨w.heap.size+1,j,none⟩) G
 have F:∀j,f.frozen? ⟨w.heap.size+1,j,none⟩=false:=λj=>(cf (w:=W) (a:=⟨w.heap.size+1,j,none⟩) G).trans (h.fz j)
 refine⟨g,cap,f,J,(r 4).trans h.c4,F,H,qd ⟨?_, ?_, ?_, ?_, ?_, ?_,λi=>?_,by simpa using H,Q, ?_, ?_⟩⟩
 ·simp[go_sem,r,h.c0]
 ·simp[go_sem,r,h.c1]
 ·simp[go_sem,r,h.c2]
 ·simp[go_sem,r,h.c3]
 ·simp[go_sem,r,h.c4]
 ·simp[go_sem,r,h.c5]
 ·simp[go_sem,F i]
 ·show World.ownsRow _ _ _ _ _ _ _
  rw[bu,qu,dt];exact ownsRow_setCell_below X (by show w.heap.size+1<w.heap.size+2;omega) _
 ·refine vp h.rr λk D=>C k (h.rr.lt k D).2 (by have:=(h.rr.lt k D).1;omega) (λe=>?_)
  obtain⟨c1,M⟩:=qax h.rr D;obtain⟨c2,s⟩:=qax h.tr e;rw[M]at s;injection s with s;injection s with _ s _;exact absurd s nh
theorem MdAt.appR'(h:MdAt w W op text cl pv tv rv ts rs){c:Nat}{us:List Nat}(K:us.length=m)(B:0<m)(A:∀k (t:Nat),us[k]?=some t->W.cell? (a.add k)=some (.int .i64 (t:Int)))(fA:rs.length+m<=1000000000)(ty:TypeId):
  ∃g cap f,(appR #[52,52] ty #[rv,.slice (some a) m c]).run prog W=.ok (.slice (some ⟨g,0,none⟩) (rs.length+m) cap) f /\
   f.cell? ⟨w.heap.size+1,5,none⟩=some rv/\(∀i,f.frozen? ⟨w.heap.size+1,i,none⟩=false)/\w.heap.size+1<f.heap.size /\
   Hid (MdAt w (f.setCell ⟨w.heap.size+1,5,none⟩ (.slice (some ⟨g,0,none⟩) (rs.length+m) cap)) op text cl pv tv (.slice (some ⟨g,0,none⟩) (rs.length+m) cap) ts (rs++us)):=by
 subst K;obtain⟨I,L,O,T,R⟩:=info_parts qgz;have A0:=h.lt;obtain⟨g,cap,f,J,X,Y,C8,Z⟩:=run_append_lies (P:=prog) W 52 ty (w.heap.size+2) 3 I _ 1 8 underlying52 L O T R rfl mw rv rs.length _ h.rr
  a us.length c (kO us) (by simp[kO]) (λj u q=>by
   rw[kO,dd]at q
   cases z:us[j]? with
   | none=>rw[z]at q;cases q
   | some t=>rw[z]at q;injection q with q;rw[←q];exact A j t z) (λu z=>by
   obtain⟨t,_,rfl⟩:=fw.1 z;rfl) B (by unfold maxLen;omega) mw mw W.heap.size rfl
 obtain⟨C,G,H,Q⟩:=h.grown Y (λk C=>(h.rr.lt k C).1) 5 (v':=.slice (some ⟨g,0,none⟩) (rs.length+us.length) cap);have r:∀j,f.cell? ⟨w.heap.size+1,j,none⟩=W.cell? ⟨w.heap.size+1,j,none⟩:=λj=>aw (w:=W) (a:=⟨w.heap.size+1,j,none⟩) G
 have F:∀j,f.frozen? ⟨w.heap.size+1,j,none⟩=false:=λj=>(cf (w:=W) (a:=⟨w.heap.size+1,j,none⟩) G).trans (h.fz j)
 refine⟨g,cap,f,J,(r 5).trans h.c5,F,H,qd ⟨?_, ?_, ?_, ?_, ?_, ?_,λi=>?_,by simpa using H,Q, ?_, ?_⟩⟩
 ·simp[go_sem,r,h.c0]
 ·simp[go_sem,r,h.c1]
 ·simp[go_sem,r,h.c2]
 ·simp[go_sem,r,h.c3]
 ·simp[go_sem,r,h.c4]
 ·simp[go_sem,r,h.c5]
 ·simp[go_sem,F i]
 ·refine vp h.tr λk D=>C k (h.tr.lt k D).2 (by have:=(h.tr.lt k D).1;omega) (λe=>?_)
  obtain⟨c1,M⟩:=qax h.tr D;obtain⟨c2,s⟩:=qax h.rr e;rw[M]at s;injection s with s;injection s with _ s _;exact absurd s nh
 ·show World.ownsRow _ _ _ _ _ _ _
  rw[bu,kO,dt];exact ownsRow_setCell_below X (by show w.heap.size+1<w.heap.size+2;omega) _
end
end
section
attribute [local go_sem ↓] vk
def PartsAt(N:Nat->Prop)(w:World)(pv:Value)(cs:List Co):Prop:=
 ∃b cap,pv=.slice (some ⟨b,0,none⟩) cs.length cap/\b<w.heap.size/\∀(k:Nat) (c:Co),cs[k]?=some c->∃p1 t1 r1,SideAt w b (k * 6) c p1 t1 r1/\RcAt N w c p1 t1 r1
theorem PartsAt.below{pv:Value}{cs:List Co}(h:PartsAt N w pv cs)(f:Xb w w'):PartsAt N w' pv cs:=by
 obtain⟨b,cap,e,g,r⟩:=h;refine⟨b,cap,e,bg g f.size,λk c s=>?_⟩;obtain⟨q,i,j,z,u⟩:=r k c s;exact⟨q,i,j,z.keep (f.block b g),u.below f⟩
theorem TwRow.txt{v:Value}(h:TwRow w base v ts)(e:ts≠[]):TxN (λb=>base<=b) w v ts:=by
 have j:=h;rcases h.2 with⟨rfl,i⟩|⟨g,cap,cur,rfl,q,r,_⟩
 ·exact absurd (cq i) e
 ·refine⟨g,cap,rfl,q,(cg.1 r).1,λk t f=>?_⟩
  have s:=(au.1 f).1;rw[World.ownsRow.cellAt j k mw,qu,dd,f];rfl
theorem NmRow.nums{v:Value}(h:NmRow w base v l)(e:l≠[]):NmN (λb=>base<=b) w v l:=by
 have j:=h;rcases h.2 with⟨rfl,i⟩|⟨g,cap,cur,rfl,q,r,_⟩
 ·exact absurd (cq i) e
 ·refine⟨g,cap,rfl,q,(cg.1 r).1,λk t f=>?_⟩
  have s:=(au.1 f).1;rw[World.ownsRow.cellAt j k mw,kO,dd,f];rfl
theorem pj{base e size n:Nat}{v:Value}(h:U.ownsRow base e size v n xs):∃a c,v=.slice a n c:=by
 rcases h.2 with⟨rfl,f⟩|⟨g,cap,cur,rfl,_⟩
 ·exact⟨none,0,by rw[f]⟩
 ·exact⟨_,_,rfl⟩
theorem vkl(b k:Nat):(⟨b,0,none⟩:Addr).add k=⟨b,k,none⟩:=by
 cases k<;>simp[Addr.add]
theorem qdp{base e size n q:Nat}{v:Value}(h:W.ownsRow base e size v n xs)(i:q<base)(a b c d f g:Value):((((((W.setCell ⟨q,0,none⟩ a).setCell ⟨q,1,none⟩ b).setCell ⟨q,2,none⟩ c).setCell ⟨q,3,none⟩ d).setCell ⟨q,4,none⟩ f).setCell ⟨q,5,none⟩ g).ownsRow base e size v n xs:=
 ownsRow_setCell_below (ownsRow_setCell_below (ownsRow_setCell_below (ownsRow_setCell_below (ownsRow_setCell_below (ownsRow_setCell_below h i _) i _) i _) i _) i _) i _
def qyo(w:World)(op:ByteArray)(text:List UInt8)(cl:Int)(pv:Value)(ts:List (List UInt8))(rs:List Nat)(e:Ending)(w':World):Prop:=
 Below w.heap.size w w'/\∃tv rv,e=.returned (.agg #[.string op,.string (BS text),.int .i64 cl,pv,tv,rv])/\TxN (λb=>w.heap.size<=b) w' tv ts/\NmN (λb=>w.heap.size<=b) w' rv rs
theorem qhy(op:mu)(text:mv)(cl:Int)(raw:Nat){pv:Value}{cs:List Co}(R:PartsAt N w pv cs)(J7:cs.length<=2)(fA:(cs.flatMap qB).length<=900000000):
  nz 229 #[.string op,.string (BS text),.int .i64 cl,pv,.int .i64 (raw:Int)] w (qyo w op text cl pv (cs.flatMap qB++[text]) (cs.flatMap jJ++[raw])):=by
 have V3:(cs.flatMap jJ).length=(cs.flatMap qB).length:=by
  clear R J7 fA
  induction cs with
  | nil=>rfl
  | cons c t ih=>rw[dw,dw,bu,bu,ih,zI]
 have HP:=qd R;obtain⟨pb,pcap,rfl,V7,lZ⟩:=R;have HPK:=qd lZ;obtain⟨n,T⟩:∃n,cs.length=n:=⟨_,rfl⟩;have HN:=qd T;rw[T]at J7 HP ⊢;have M0:Hid (MdAt w ((w.alloc zoC).alloc (.cells #[.string op,.string (BS text),.int .i64 cl,.slice (some ⟨pb,0,none⟩) n pcap,.slice none 0 0,.slice none 0 0] 184)) op (BS text) cl (.slice (some ⟨pb,0,none⟩) n pcap) (.slice none 0 0) (.slice none 0 0) [] []):=qd ⟨mx,mx,mx,mx,mx,mx,λi=>mx,mx,nw.alloc mx _,ed _ _ _ _,ed _ _ _ _⟩;have Q:=qd fA;have MH:=qd V3;clear lZ T fA V3;go_enter func229,ntmps229
 go_wp2_with fail
 go_loopw [12] (λi wr=>∃(k:Nat) (tv rv:Value),k<=n/\i=.int .i64 k/\Hid (MdAt w wr op (BS text) cl (.slice (some ⟨pb,0,none⟩) n pcap) tv rv ((cs.take k).flatMap qB) ((cs.take k).flatMap jJ))) (λi _=>n - (intOf i).toNat)
 case atStart=>exact⟨0,_,_,bj _,rfl,M0⟩
 case round=>
  clear M0;obtain⟨k,tv,rv,hk,rfl,e⟩:=hrel;have lY:pb<wr.heap.size:=by have:=(q9 e).bel0.size;omega
  have eQ:=(q9 e).lt;have hne1:¬pb=w.heap.size+1:=mw
  by_cases A0:k<n
  ·obtain⟨c,Y⟩:∃c,cs[k]?=some c:=⟨_,ag (by have:=q9 HN;omega)⟩
   obtain⟨p1,t1,r1,KR,O⟩:=q9 HPK k c Y;have F7:=(q9 e).bel0;have OJ:=KR.keep (F7.block pb V7);obtain⟨tb,tc,rfl,_,mO,z⟩:=(O.below F7).terms.1;have f4:Xc wr pb (k * 6+4) (.slice (some ⟨tb,0,none⟩) (qB c).length tc):=OJ 4 mw
   have F:(cs.take (k+1)).flatMap qB=(cs.take k).flatMap qB++qB c/\(cs.take (k+1)).flatMap jJ=(cs.take k).flatMap jJ++jJ c:=by
    rw[dn,Y];simp
   have P:((cs.take (k+1)).flatMap qB).length<=900000000:=by
    refine bs ?_ Q;rw[show cs.flatMap qB=(cs.take (k+1)).flatMap qB++(cs.drop (k+1)).flatMap qB by rw[←ij,List.take_append_drop],bu];omega
   have cJ:((cs.take k).flatMap qB).length+(qB c).length<=900000000:=by rw[F.1,bu]at P;exact P
   have V5:0<(qB c).length:=List.length_pos_iff.2 (qxq c);obtain⟨g5,M9,W5,L,UW,w5z,w5l,s⟩:=(q9 e).drew.appT (a:=⟨tb,0,none⟩) (c:=tc) rfl V5 (λj t g=>by rw[vkl];exact z j t g) mw 62;obtain⟨X5,C⟩:∃X,X=W5.setCell ⟨w.heap.size+1,4,none⟩ (.slice (some ⟨g5,0,none⟩) (((cs.take k).flatMap qB).length+(qB c).length) M9):=⟨_,rfl⟩;rw[←C]at s;have G:=(q9 s).bel0;have EX:=KR.keep (G.block pb V7);obtain⟨rb,rc,rfl,_,V4,KS⟩:=(O.below G).terms.2;have x5:Xc X5 pb (k * 6+5) (.slice (some ⟨rb,0,none⟩) (jJ c).length rc):=EX 5 mw;have xl:=(q9 s).lt;have J:=(q9 s).c5;have xpl:pb<X5.heap.size:=by have:=G.size;omega
   have EZ:((cs.take k).flatMap jJ).length=((cs.take k).flatMap qB).length:=by
    have:∀l:List Co,(l.flatMap jJ).length=(l.flatMap qB).length:=by
     intro l
     induction l with
     | nil=>rfl
     | cons c t ih=>rw[dw,dw,bu,bu,ih,zI]
    exact this _
   obtain⟨g6,cT,W6,dM,ZV,w6z,w6l,K⟩:=(q9 s).drew.appR' (a:=⟨rb,0,none⟩) (c:=rc) rfl (by rw[zI];exact V5) (λj t g=>by rw[vkl];exact KS j t g) (by rw[zI,EZ];omega) 52;rw[←F.1,←F.2]at K;have A:=(q9 e).c4;have M:=(q9 e).fz;have tsl:∃a c,tv=.slice a ((cs.take k).flatMap qB).length c:=pj e.tr;have rsl:∃a c,rv=.slice a ((cs.take k).flatMap jJ).length c:=pj e.rr;obtain⟨ta,tcc,rfl⟩:=tsl;obtain⟨ra,rcc,rfl⟩:=rsl;have N5:(0:Int)<=(k:Int):=mw;have A5:(k:Int)<(n:Int):=mw;obtain⟨N1,D⟩:∃N,((cs.take k).flatMap qB).length=N:=⟨_,rfl⟩;obtain⟨N2,B⟩:∃N,((cs.take k).flatMap jJ).length=N:=⟨_,rfl⟩;obtain⟨N3,LS⟩:∃N,(qB c).length=N:=⟨_,rfl⟩;obtain⟨N4,XM⟩:∃N,(jJ c).length=N:=⟨_,rfl⟩;rw[D]at A L C UW;rw[LS]at f4 L C;rw[B]at J dM ZV K;rw[XM]at x5 dM K;have LY:=qd C;clear Y KR O F7 OJ z F P cJ V5 G EX KS EZ D B LS XM C e s
   go_wp2_with fail
   go_region
   all_goals go_wp2_with fail
   all_goals rw[←q9 LY]
   all_goals clear UW w5z w5l L A M f4 LY
   all_goals go_region
   all_goals go_wp2_with fail
   all_goals
    go_roundw
    case rel=>exact⟨k+1,_,_,mw,by go_num,K⟩
    case measure=>simp[intOf];omega
  ·have U6:k=n:=mw
   have oX:¬(k:Int)<(n:Int):=mw;have z:cs.take k=cs:=ez (by have:=q9 HN;omega);rw[z]at e
   obtain⟨g7,RJ,W7,GR,UV,w7z,w7l,u⟩:=(e.alloc (.cells #[.string (BS text)] 9)).appT (a:=⟨wr.heap.size,0,none⟩) (c:=1) (us:=[text]) (m:=1) rfl mw (λj t g=>by
    cases j with
    | zero=>
     obtain rfl:text=t:=by simpa using g
     rw[vkl];simp
    | succ j=>simp at g) (by have:=q9 Q;omega) 62
   obtain⟨X7,H⟩:∃X,X=W7.setCell ⟨w.heap.size+1,4,none⟩ (.slice (some ⟨g7,0,none⟩) ((cs.flatMap qB).length+1) RJ):=⟨_,rfl⟩;rw[←H]at u
   obtain⟨g8,RI,W8,GP,UU,w8z,w8l,f⟩:=(u.alloc (.cells #[.int .i64 (raw:Int)] 3)).appR' (a:=⟨X7.heap.size,0,none⟩) (c:=1) (us:=[raw]) (m:=1) rfl mw (λj t g=>by
    cases j with
    | zero=>
     obtain rfl:raw=t:=by simpa using g
     rw[vkl];simp
    | succ j=>simp at g) (by have:=q9 Q;have:=q9 MH;omega) 52
   obtain⟨r,I⟩:∃X,X=W8.setCell ⟨w.heap.size+1,5,none⟩ (.slice (some ⟨g8,0,none⟩) ((cs.flatMap jJ).length+1) RI):=⟨_,rfl⟩;rw[←I]at f;have A:=(q9 e).c4;have M:=(q9 e).fz;have xl7:=(q9 u).lt;have J:=(q9 u).c5;have ZU:=(q9 u).fz;have tsl:∃a c,tv=.slice a (cs.flatMap qB).length c:=pj e.tr;have rsl:∃a c,rv=.slice a (cs.flatMap jJ).length c:=pj e.rr;obtain⟨ta,tcc,rfl⟩:=tsl;obtain⟨ra,rcc,rfl⟩:=rsl;have y0:=(q9 f).c0;have y1:=(q9 f).c1;have y2:=(q9 f).c2;have y3:=(q9 f).c3;have y4:=(q9 f).c4;have y5:=(q9 f).c5;have yl:=(q9 f).lt;have q:=(q9 f).bel;have r0:Xc r w.heap.size 0 (.string ⟨#[]⟩):=(q.cell (p:=⟨w.heap.size,0,none⟩) (dj _)).trans mx;have r1:Xc r w.heap.size 1 (.string ⟨#[]⟩):=(q.cell (p:=⟨w.heap.size,1,none⟩) (dj _)).trans mx;have r2:Xc r w.heap.size 2 (.int .i64 0):=(q.cell (p:=⟨w.heap.size,2,none⟩) (dj _)).trans mx;have r3:Xc r w.heap.size 3 (.slice none 0 0):=(q.cell (p:=⟨w.heap.size,3,none⟩) (dj _)).trans mx;have r4:Xc r w.heap.size 4 (.slice none 0 0):=(q.cell (p:=⟨w.heap.size,4,none⟩) (dj _)).trans mx;have r5:Xc r w.heap.size 5 (.slice none 0 0):=(q.cell (p:=⟨w.heap.size,5,none⟩) (dj _)).trans mx;have rz:Xf r w.heap.size:=λi=>(q.frozen (p:=⟨w.heap.size,i,none⟩) (dj _)).trans mx
   have rl:w.heap.size<r.heap.size:=mw;obtain⟨N1,D⟩:∃N,(cs.flatMap qB).length=N:=⟨_,rfl⟩;obtain⟨N2,B⟩:∃N,(cs.flatMap jJ).length=N:=⟨_,rfl⟩;rw[D]at A GR H UV y4 f;rw[B]at J GP I UU y5 f;have YJ:=qd H;have YI:=qd I;clear U6 z D B H I q e u
   go_upto_region 8 with fail
   rw[←q9 YJ];clear UV w7z w7l GR A M YJ
   go_upto_region 9 with fail
   rw[←q9 YI];clear UU w8z w8l GP J ZU YI
   go_wp2_with fail
   refine ak (by simp[go_sem,r0,r1,r2,r3,r4,r5]<;>rfl) rfl ⟨?_, ?_⟩
   ·refine Below.setCell (Below.setCell (Below.setCell (Below.setCell (Below.setCell (Below.setCell f.bel0 ?_ _) ?_ _) ?_ _) ?_ _) ?_ _) ?_ _<;>exact nt
   ·refine⟨_,_,rfl, ?_, ?_⟩
    ·exact(TwRow.txt (base:=w.heap.size+2) (qdp f.tr mw _ _ _ _ _ _) mx).keep (λ_ _ _=>rfl) nt (λb Z _=>by have L6:w.heap.size+2<=b:=Z;show w.heap.size<=b;omega)
    ·exact(NmRow.nums (base:=w.heap.size+2) (qdp f.rr mw _ _ _ _ _ _) mx).keep (λ_ _ _=>rfl) nt (λb Z _=>by have L6:w.heap.size+2<=b:=Z;show w.heap.size<=b;omega)
end
section
structure RF where
 op:ByteArray
 text:List UInt8
 cls:Int
 pa:Option Addr
 pn:Nat
 pc:Nat
 ta:Option Addr
 tn:Nat
 tc:Nat
 ra:Option Addr
 rn:Nat
 rc:Nat
def RF.v(f:RF):Value:=.agg #[.string f.op,.string (BS f.text),.int .i64 f.cls,.slice f.pa f.pn f.pc,.slice f.ta f.tn f.tc,.slice f.ra f.rn f.rc]
def RF.pv(f:RF):Value:=.slice f.pa f.pn f.pc
def RF.tv(f:RF):Value:=.slice f.ta f.tn f.tc
def RF.rv(f:RF):Value:=.slice f.ra f.rn f.rc
structure RfAt(N:Nat->Prop)(w:World)(c:Co)(f:RF):Prop where
 op:f.op=BS (qD (opC c))
 text:f.text=qp c
 cls:f.cls=qja (opC c)
 at':RcAt N w c f.pv f.tv f.rv
theorem RfAt.below{f:RF}(h:RfAt N w c f)(e:Xb w w'):RfAt N w' c f:=⟨h.op,h.text,h.cls,h.at'.below e⟩
theorem RfAt.keep{N':Nat->Prop}{f:RF}(h:RfAt N w c f)(g:∀b,N b->b<w.heap.size->w'.heap[b]?=w.heap[b]?)(e:w.heap.size<=w'.heap.size)(i:∀b,N b->b<w.heap.size->N' b):RfAt N' w' c f:=⟨h.op,h.text,h.cls,h.at'.keep g e i⟩
theorem RcAt.rf{pv tv rv:Value}(h:RcAt N w c pv tv rv):∃f:RF,f.v=rcV c pv tv rv/\RfAt N w c f:=by
 obtain⟨⟨a,n,k,rfl⟩,⟨b,m,l,rfl⟩,d,p,q,rfl⟩:=h.slices;exact⟨⟨_,qp c,_,a,n,k,b,m,l,d,p,q⟩,rfl,rfl,rfl,rfl,h⟩
def xo(N:Nat->Prop)(w:World)(c:Co)(e:Ending)(w':World):Prop:=Below w.heap.size w w'/\∃f:RF,e=.returned f.v/\RfAt (λb=>N b\/w.heap.size<=b) w' c f
theorem RcEnds.rf{e:Ending}(h:RcEnds N w c e w'):xo N w c e w':=by
 obtain⟨j,pv,tv,rv,rfl,g⟩:=h;obtain⟨f,e,i⟩:=g.rf;exact⟨j,f,by rw[e],i⟩
abbrev Kx1(W:World)(b:Nat)(g:RF):Prop:=Xc W b 0 (.string g.op)/\Xc W b 1 (.string (BS g.text))/\Xc W b 2 (.int .i64 g.cls)/\Xc W b 3 (.slice g.pa g.pn g.pc)/\Xc W b 4 (.slice g.ta g.tn g.tc)/\Xc W b 5 (.slice g.ra g.rn g.rc)
abbrev Kt1(W:World)(b:Nat)(g:RF)(B:Prop):Prop:=Xc W b 0 (.string g.op)/\Xc W b 1 (.string (BS g.text))/\Xc W b 2 (.int .i64 g.cls)/\Xc W b 3 (.slice g.pa g.pn g.pc)/\Xc W b 4 (.slice g.ta g.tn g.tc)/\Xc W b 5 (.slice g.ra g.rn g.rc)/\B
abbrev Kx2(W:World)(b:Nat)(g h:RF):Prop:=Xc W b 0 (.string g.op)/\Xc W b 1 (.string (BS g.text))/\Xc W b 2 (.int .i64 g.cls)/\Xc W b 3 (.slice g.pa g.pn g.pc)/\Xc W b 4 (.slice g.ta g.tn g.tc)/\Xc W b 5 (.slice g.ra g.rn g.rc)/\Xc W b 6 (.string h.op)/\Xc W b 7 (.string (BS h.text))/\Xc W b 8 (.int .i64 h.cls)/\Xc W b 9 (.slice h.pa h.pn h.pc)/\Xc W b 10 (.slice h.ta h.tn h.tc)/\Xc W b 11 (.slice h.ra h.rn h.rc)
abbrev Kx3(W:World)(b:Nat)(g h j:RF):Prop:=Xc W b 0 (.string g.op)/\Xc W b 1 (.string (BS g.text))/\Xc W b 2 (.int .i64 g.cls)/\Xc W b 3 (.slice g.pa g.pn g.pc)/\Xc W b 4 (.slice g.ta g.tn g.tc)/\Xc W b 5 (.slice g.ra g.rn g.rc)/\Xc W b 6 (.string h.op)/\Xc W b 7 (.string (BS h.text))/\Xc W b 8 (.int .i64 h.cls)/\Xc W b 9 (.slice h.pa h.pn h.pc)/\Xc W b 10 (.slice h.ta h.tn h.tc)/\Xc W b 11 (.slice h.ra h.rn h.rc)/\Xc W b 12 (.string j.op)/\Xc W b 13 (.string (BS j.text))/\Xc W b 14 (.int .i64 j.cls)/\Xc W b 15 (.slice j.pa j.pn j.pc)/\Xc W b 16 (.slice j.ta j.tn j.tc)/\Xc W b 17 (.slice j.ra j.rn j.rc)
def qt(f:RF):List Value:=[.string f.op,.string (BS f.text),.int .i64 f.cls,.slice f.pa f.pn f.pc,.slice f.ta f.tn f.tc,.slice f.ra f.rn f.rc]
theorem vjw{y:Co}{f g:RF}(q:RfAt N w x f)(i:RfAt N w y g)(u:pb<w.heap.size)(s:∀k,k<12->w.cell? ⟨pb,k,none⟩=(qt f++qt g)[k]?):PartsAt N w (.slice (some ⟨pb,0,none⟩) 2 2) [x,y]:=by
 refine⟨pb,2,rfl,u,λk c e=>?_⟩
 match k,e with
 | 0,e=>
  obtain rfl:x=c:=by simpa using e
  refine⟨f.pv,f.tv,f.rv,λj r=>?_,q.at'⟩;rw[show 0 * 6+j=j by omega,s j mw,bw (by exact r)];unfold qt qfd;rw[q.op,q.text,q.cls];rfl
 | 1,e=>
  obtain rfl:y=c:=by simpa using e
  refine⟨g.pv,g.tv,g.rv,λj r=>?_,i.at'⟩;rw[show 1 * 6+j=6+j by omega,s (6+j) mw,cj (by show 6<=6+j;omega),show 6+j - (qt f).length=j by show 6+j - 6=j;omega];unfold qt qfd;rw[i.op,i.text,i.cls];rfl
 | k+2,e=>simp at e
theorem vec{f:RF}(g:RfAt N w x f)(q:pb<w.heap.size)(i:∀k,k<6->w.cell? ⟨pb,k,none⟩=(qt f)[k]?):PartsAt N w (.slice (some ⟨pb,0,none⟩) 1 cap) [x]:=by
 refine⟨pb,cap,rfl,q,λk c e=>?_⟩
 match k,e with
 | 0,e=>
  obtain rfl:x=c:=by simpa using e
  refine⟨f.pv,f.tv,f.rv,λj h=>?_,g.at'⟩;rw[show 0 * 6+j=j by omega,i j h];unfold qt qfd;rw[g.op,g.text,g.cls];rfl
 | k+1,e=>simp at e
def kg(c:Co):Prop:=(qp c).length<=400000000/\(qB c).length<=400000000
theorem qwc(o:Int)(T:mv){y:Co}(G:T=qp (.bin (qm o) x y))(P:o≠0/\o≠2/\o≠22)(f:PartsAt N w (.slice (some ⟨pb,0,none⟩) 2 2) [x,y])(H:N pb)(F:kg x)(D:kg y):
  nz 229 #[.string (BS (qD o)),.string (BS T),.int .i64 (qja o),.slice (some ⟨pb,0,none⟩) 2 2,.int .i64 0] w (xo N w (.bin (qm o) x y)):=by
 subst G;have:=qhy (BS (qD o)) (qp (.bin (qm o) x y)) (qja o) 0 f mx (by have:=F.2;have:=D.2;simp;omega);refine this.mono ?_;rintro e w'⟨i,tv,rv,rfl,J,I⟩;refine RcEnds.rf ⟨i,_,tv,rv,rfl, ?_⟩;obtain⟨b,cap,e,O,g⟩:=f.below i;obtain⟨B,q,z,s,M⟩:=g 0 x rfl;obtain⟨A,j,u,r,L⟩:=g 1 y rfl;have K:pb=b:=by injection e with e;injection e with e;injection e
 refine⟨⟨b,cap,B,q,z,A,j,u,e,.inl (K ▸ H),O,s,M.mono (λ_ h _=>.inl h),r,L.mono (λ_ h _=>.inl h)⟩, ?_, ?_⟩
 ·have:=J.keep (N':=λb=>N b\/w.heap.size<=b) (λ_ _ _=>rfl) nt (λ_ h _=>.inr h)
  simpa [qB]using this
 ·have C:qa0 (qm o)=0:=by unfold qa0 qm;rw[aj (by simp only;omega)]
  have:=I.keep (N':=λb=>N b\/w.heap.size<=b) (λ_ _ _=>rfl) nt (λ_ h _=>.inr h);simpa [jJ,C]using this
end
end Go.Proofs.YtfkcaldjphakpaaGreatDoor
