/- The document's answer. -/
import Derived.Test.YtfkcaldjphakpaaGreatDoorM17
import Derived.Test.YtfkcaldjphakpaaGreatDoorM08
set_option maxHeartbeats 64000000
set_option maxRecDepth 100000
namespace Go.Proofs.YtfkcaldjphakpaaGreatDoor
open Go.RowKit Go.Proofs.Tryz
section
attribute [local go_sem ↓] qe4
theorem TrC.blk{w w':World}{rb:Nat}{nv:Value}{s:ByteArray}{k a z:Int}{S:ByteArray}{n op er at':Int}(h:TrC w rb nv s k a z S n op er at')(hb:w'.heap[rb]?=w.heap[rb]?):TrC w' rb nv s k a z S n op er at':=by
 have hc:∀j,w'.cell? ⟨rb,j,none⟩=w.cell? ⟨rb,j,none⟩:=λj=>World.cell?_of_block (w:=w) (w':=w') (a:=⟨rb,j,none⟩) hb
 have hf:∀j,w'.frozen? ⟨rb,j,none⟩=w.frozen? ⟨rb,j,none⟩:=λj=>World.frozen?_of_block (w:=w) (w':=w') (a:=⟨rb,j,none⟩) hb
 exact⟨World.block_lt_of_cell? w' ⟨rb,0,none⟩ ((hc 0).trans h.c0),(hc _).trans h.c0,(hc _).trans h.c1,(hc _).trans h.c2,(hc _).trans h.c3,(hc _).trans h.c4,(hc _).trans h.c5,(hc _).trans h.c6,(hc _).trans h.c7,(hc _).trans h.c8,(hc _).trans h.c9,λj=>(hf j).trans (h.fz j)⟩
theorem AT.blk{w w':World}{rb:Nat}{nv:Value}{s:ByteArray}{op:Nat}{x:PS}(h:AT w rb nv s op x)(hb:w'.heap[rb]?=w.heap[rb]?):AT w' rb nv s op x:=by
 cases x with
 | st x=>exact⟨h.1.blk hb,h.2⟩
 | er en pl=>obtain⟨he,a,h⟩:=h;exact⟨he,a,h.blk hb⟩
theorem meT_st{w:World}{rb:Nat}{nv:Value}{s:ByteArray}{op:Nat}{y:St}(h:AT w rb nv s op (.st y)):meT s w rb=s.size+2 - y.place:=by
 have h3:=h.1.c3;have h8:=h.1.c8;unfold meT plT;rw[h8,h3];simp
theorem meT_er{w:World}{rb:Nat}{nv:Value}{s:ByteArray}{op:Nat}{en pl:Int}(h:AT w rb nv s op (.er en pl)):meT s w rb=0:=by
 obtain⟨he,a,h⟩:=h;unfold meT;rw[h.c8];simp only;rw[if_neg he]
theorem tis{w:World}{rb:Nat}{nv:Value}{s:ByteArray}{op:Nat}{y:St}(h:AT w rb nv s op (.st y))(c:Int){kind:Int}{X:ByteArray}(hX:kwT c=X.data.toList)(h5:5<=c)(h28:c<=28)(hk:rK c=kind):
  Calls prog 215 #[.pointer (some ⟨rb,0,none⟩),.int .i64 kind,.string X] w λe w'=>e=.returned (.bool (y.tk.kind==c))/\w'=w:=by
 have:=qx0 h.1 kind X;rwa [isK hX h5 h28 kind hk]at this
def vz5(s:ByteArray)(l:Ast)(pl lo:Nat)(R:Res)(ts:List (List UInt8))(n:Nat):PS->Prop
 | .st sl=>R=qf2 s l pl n ts sl/\s.size<n+sl.place/\ts.length<=sl.place/\lo<sl.place
 | .er en p=>R=.err en p/\ts.length<=300
def InAt(W:World)(rb L Tb:Nat)(cs:Value->Array Value)(nv:Value)(s:ByteArray)(op:Nat)(l:Ast)(pl:Nat)(R:Res)(wr:World):Prop:=
 ∃x lv ts n,AmV W rb L Tb cs lv ts wr/\AT wr rb nv s op x/\vz5 s l pl pl R ts n x
theorem In_len{s:ByteArray}{l:Ast}{pl lo:Nat}{R:Res}{ts:List (List UInt8)}{n:Nat}{x:PS}{w:World}{rb:Nat}{nv:Value}{op:Nat}(hs:s.size<=200)(h:AT w rb nv s op x)(hr:vz5 s l pl lo R ts n x):ts.length<=300:=by
 cases x with
 | st y=>have:=h.2.1.place;have:=hr.2.2.1;omega
 | er en p=>exact hr.2
theorem In_first{s:ByteArray}{l:Ast}{st:St}(hF:Fine s st)(hk:st.tk.kind=11){S:ByteArray}(hS:strP (jc8 s 26 (.st (j4 s st))) S):vz5 s l st.place st.place (qg7 s l st) ([]++[S.data.toList]) (s.size+1) (vy9 s (jc8 s 26 (.st (j4 s st)))):=by
 have h1:=qa7 s st hF.after;have p1:=hF.step_place (by omega);unfold qg7
 by_cases k26:(j4 s st).tk.kind=26
 ·rw[vv9 k26]at hS ⊢
  rw[if_pos k26];have h2:=qa7 s _ h1.after;have p2:=h1.step_place (by omega)
  by_cases k4:(j4 s (j4 s st)).tk.kind=4
  ·rw[vj4 k4,if_pos k4]
   have p3:=h2.step_place (by omega)
   have e:S.data.toList=(j4 s (j4 s st)).tk.str:=by
    rw[show S=BS (tkS (j4 s (j4 s st))) from hS,qp4];unfold tkS rS;rw[if_neg (by omega),if_pos (by omega)]
   rw[List.nil_append,e];exact⟨rfl,by omega,by simp;omega,by omega⟩
  ·rw[vj3 k4,if_neg k4];exact⟨rfl,by simp⟩
 ·rw[vv8 k26,if_neg k26];exact⟨rfl,by simp⟩
theorem In_next{s:ByteArray}{l:Ast}{pl lo:Nat}{R:Res}{ts:List (List UInt8)}{n:Nat}{sl:St}(hs:s.size<=200)(hF:Fine s sl)(hk:sl.tk.kind=28)(h:vz5 s l pl lo R ts n (.st sl)){S:ByteArray}(hS:strP (.st (j4 s sl)) S):∃n',vz5 s l pl lo R (ts++[S.data.toList]) n' (vy9 s (.st (j4 s sl))):=by
 obtain⟨hR,hn,ht,eH⟩:=h;have hp:=hF.place;obtain⟨n',rfl⟩:∃n',n=n'+1:=⟨n - 1,by omega⟩;have h1:=qa7 s sl hF.after;have p1:=hF.step_place (by omega)
 by_cases k4:(j4 s sl).tk.kind=4
 ·have p2:=h1.step_place (by omega)
  have e:S.data.toList=(j4 s sl).tk.str:=by
   rw[show S=BS (tkS (j4 s sl)) from hS,qp4];unfold tkS rS;rw[if_neg (by omega),if_pos (by omega)]
  rw[vj4 k4,e];exact⟨n',by rw[hR,vk8 hk k4],by omega,by simp;omega,by omega⟩
 ·rw[vj3 k4];exact⟨0,by rw[hR,vr7 hk k4],by simp;omega⟩
theorem In_end{rb:Nat}{s:ByteArray}{op m:Nat}{l:Ast}{pl:Nat}{R:Res}{ts:List (List UInt8)}{n:Nat}{x:PS}(hs:s.size<=200)(hm:201<=m){w w' wx:World}{nv nv':Value}{ns new:List RN}{j:Nat}{neg:Bool}{pl0:Int}{i0:Nat}(O8:i0=ns.length+new.length - 1)(F6:Flat l ns.length new)(I9:(ns++new).length+j<=pl)(T8:pl<=200)
  (hx:AT wx rb nv' s op x) (hr:vz5 s l pl pl R ts n x) (h28:∀y,x=.st y->¬y.tk.kind=28) (hk:TKept rb w w') (ha:AT w' rb nv s op (jc8 s 27 x)) (hN:NodesAt w' rb nv ((ns++new)++[qi5 ⟨21,pl,0,[],[],ts⟩ [i0] neg])) {v:Int} (hv:v=((ns++new).length:Nat)) :
  REnds rb s w op m ns j pl (negR neg pl0 R) (.returned (.int .i64 v)) w':=by
 subst hv;refine⟨hk, ?_⟩
 cases x with
 | er en p=>
  rw[show R=.err en p from hr.1];obtain⟨he,a,hT⟩:=ha;exact⟨_,rfl,nv,a,_,hT,he,hN,by simp at I9 ⊢;omega⟩
 | st sl=>
  obtain⟨hR,hn,ht,eH⟩:=hr;have hF:=hx.2.1;have hp:=hF.place;obtain⟨n',rfl⟩:∃n',n=n'+1:=⟨n - 1,by omega⟩
  by_cases k27:sl.tk.kind=27
  ·rw[vv9 k27]at ha
   have p1:=hF.step_place (by omega);rw[show R=.ok (.un ⟨21,pl,0,[],[],ts⟩ l) (j4 s sl) by rw[hR,vr8 (h28 sl rfl) k27]];obtain⟨hT,NS,ho⟩:=ha;rw[List.append_assoc]at hN;refine⟨new++[qi5 ⟨21,pl,0,[],[],ts⟩ [i0] neg],qg3 (by simp),⟨nv, ?_,hN,NS,by simp at I9 ⊢;omega⟩,ho,by omega, ?_⟩
   ·rw[ho];exact hT
   ·subst O8
    cases neg with
    | false=>exact Flat.un _ F6
    | true=>exact Flat.neg1 _ _ (.inl rfl) F6
  ·rw[vv8 k27]at ha
   rw[show R=.err 2 sl.place by rw[hR,vk9 (h28 sl rfl) k27]];obtain⟨he,a,hT⟩:=ha;exact⟨_,rfl,nv,a,_,hT,he,hN,by simp at I9 ⊢;omega⟩
theorem In_meas{s:ByteArray}{sl:St}(hF:Fine s (j4 s sl))(fL:sl.place<(j4 s sl).place)(pW:(j4 s sl).place<=s.size){w:World}{rb:Nat}{nv:Value}{op:Nat}(h:AT w rb nv s op (vy9 s (.st (j4 s sl)))):meT s w rb<s.size+2 - sl.place:=by
 by_cases k4:(j4 s sl).tk.kind=4
 ·rw[vj4 k4]at h
  rw[meT_st h];have h2:=qk6 s (j4 s sl);have h3:=hF.long (by omega);have hf:=h.2.1.place;omega
 ·rw[vj3 k4]at h;rw[meT_er h];omega
theorem jf0{w:World}{B rb n:Nat}{lv:Value}{ts:List (List UInt8)}(ho:w.ownsRow B 9 1 lv n (qa1 ts))(hB:rb<B)(hn:∀k,B<=k->¬vb1 w rb k):RowOf w rb 9 lv (qa1 ts):=by
 have eG:=ho;obtain⟨hl,hx|⟨g,cap,cur,rfl,K7,_⟩⟩:=ho
 ·obtain⟨rfl,rfl⟩:=hx
  rw[List.eq_nil_of_length_eq_zero (by omega:(qa1 ts).length=0)];exact RowOf.no _ _ _
 ·exact own_row eG hB (hn g K7)
theorem vs4(rb:Nat)(s:ByteArray)(hs:s.size<=200)(op m:Nat)(hm:201<=m)(w:World)(st:St)(ns new:List RN)(j:Nat)(l:Ast)(h:RT w rb s (ns++new) j st)(ho:st.op=op)(hk:st.tk.kind=11)(F6:Flat l ns.length new)(i0:Nat)(O8:i0=ns.length+new.length - 1)(g:Nat)(hg:VN w rb g 3 #[.int .i64 i0])(neg:Bool)(pl0:Int):
  Calls prog 324 #[.pointer (some ⟨rb,0,none⟩),.agg #[.string ⟨#[]⟩,.int .i64 st.place,.slice (some ⟨g,0,none⟩) 1 1,.string ⟨#[]⟩,.string ⟨#[]⟩,.slice none 0 0,.int .i64 0,.bool neg,.int .i64 0]] w (REnds rb s w op m ns j st.place (negR neg pl0 (qg7 s l st))):=by
 have A1:=h.lt;have n0:¬w.heap.size=rb:=by omega
 have n1:¬rb=w.heap.size:=by omega
 have bG:=hg.lt;have fR:VN (w.alloc (.cells #[.string ⟨#[73,78]⟩,.int .i64 st.place,.slice (some ⟨g,0,none⟩) 1 1,.string ⟨#[]⟩,.string ⟨#[]⟩,.slice none 0 0,.int .i64 0,.bool neg,.int .i64 0] 241)) rb w.heap.size 241 #[.string ⟨#[73,78]⟩,.int .i64 st.place,.slice (some ⟨g,0,none⟩) 1 1,.string ⟨#[]⟩,.string ⟨#[]⟩,.slice none 0 0,.int .i64 0,.bool neg,.int .i64 0]:=VN.new h _ _ rfl;have bK:TKept rb w (w.alloc (.cells #[.string ⟨#[73,78]⟩,.int .i64 st.place,.slice (some ⟨g,0,none⟩) 1 1,.string ⟨#[]⟩,.string ⟨#[]⟩,.slice none 0 0,.int .i64 0,.bool neg,.int .i64 0] 241)):=(TKept.refl rb w).alloc A1 _;have jJ:VN (w.alloc (.cells #[.string ⟨#[73,78]⟩,.int .i64 st.place,.slice (some ⟨g,0,none⟩) 1 1,.string ⟨#[]⟩,.string ⟨#[]⟩,.slice none 0 0,.int .i64 0,.bool neg,.int .i64 0] 241)) rb g 3 #[.int .i64 i0]:=hg.alloc A1 _;have iD:RowOf (w.alloc (.cells #[.string ⟨#[73,78]⟩,.int .i64 st.place,.slice (some ⟨g,0,none⟩) 1 1,.string ⟨#[]⟩,.string ⟨#[]⟩,.slice none 0 0,.int .i64 0,.bool neg,.int .i64 0] 241)) rb 3 (.slice (some ⟨g,0,none⟩) 1 1) (vb2 [i0]):=.inr ⟨g,1,#[.int .i64 i0],(0,0),rfl,jJ.past,jJ.blk,jJ.no,λj u hu=>by simpa [vb2]using hu⟩;have I9:=h.few;have E6:=h.fine;have pW:=E6.place;have h0:=h.alloc (.cells #[.string ⟨#[73,78]⟩,.int .i64 st.place,.slice (some ⟨g,0,none⟩) 1 1,.string ⟨#[]⟩,.string ⟨#[]⟩,.slice none 0 0,.int .i64 0,.bool neg,.int .i64 0] 241);have rL:=h0.own_lt;obtain⟨nv,AC,AI,_,_⟩:=h0;have qD:AT (w.alloc (.cells #[.string ⟨#[73,78]⟩,.int .i64 st.place,.slice (some ⟨g,0,none⟩) 1 1,.string ⟨#[]⟩,.string ⟨#[]⟩,.slice none 0 0,.int .i64 0,.bool neg,.int .i64 0] 241)) rb nv s op (.st st):=⟨by rw[←ho];exact AC,E6,ho⟩;have aM:=AC.c0;have hW:(w.alloc (.cells #[.string ⟨#[73,78]⟩,.int .i64 st.place,.slice (some ⟨g,0,none⟩) 1 1,.string ⟨#[]⟩,.string ⟨#[]⟩,.slice none 0 0,.int .i64 0,.bool neg,.int .i64 0] 241)).heap.size=w.heap.size+1:=by simp
 have EXT:∃W:World,W=(w.alloc (.cells #[.string ⟨#[73,78]⟩,.int .i64 st.place,.slice (some ⟨g,0,none⟩) 1 1,.string ⟨#[]⟩,.string ⟨#[]⟩,.slice none 0 0,.int .i64 0,.bool neg,.int .i64 0] 241)):=⟨_,rfl⟩;obtain⟨W,vX⟩:=EXT;rw[←vX]at fR bK iD rL AI qD aM hW;have OP:=j3 vX;have GY:=j3 (tstep qD hs (by omega));rw[vX]at GY;have o7:=j3 fR;have Z8:=j3 bK;have dO:=j3 iD;have IT:=j3 AI;have mL:=j3 aM;have IM:=j3 rL;have K0:=j3 F6;have Z9:=j3 O8;have jL:=j3 E6;obtain⟨R,hR⟩:∃r,qg7 s l st=r:=⟨_,rfl⟩;have K5:Hid (∀S,strP (jc8 s 26 (.st (j4 s st))) S->vz5 s l st.place st.place R ([]++[S.data.toList]) (s.size+1) (vy9 s (jc8 s 26 (.st (j4 s st))))):=j3 λS hS=>hR ▸ In_first E6 hk hS
 rw[hR];obtain⟨CSX,oM⟩:∃f:Value->Array Value,f=λlv=>#[.string ⟨#[73,78]⟩,.int .i64 st.place,.slice (some ⟨g,0,none⟩) 1 1,.string ⟨#[]⟩,.string ⟨#[]⟩,lv,.int .i64 0,.bool neg,.int .i64 0]:=⟨_,rfl⟩
 have qN:=j3 oM;have sP:∀u v,(CSX u).setIfInBounds 5 v=CSX v:=by rw[oM];intro u v;rfl
 have IZ:=j3 sP;clear h AC fR bK jJ iD hg AI qD aM rL F6 O8 E6 hR vX oM sP;go_enter func324,ntmps324
 go_wp2_with(first|(go_at_call 172;refine(q9 GY).mono ?_;rintro e w1⟨rfl,A0,tC⟩;have D8:=j3 (by rw[←q9 OP]at A0;exact A0:Kept rb W w1);have aS:=j3 tC;clear A0 tC)|(go_at_call 343;refine(tmust (q9 aS) hs 26 rfl (by decide) (by decide) rfl).mono ?_;rintro e w2⟨rfl,A3,kM⟩;have E9:=j3 ((q9 D8).trans A3);have PW:=j3 kM;clear A3 kM)|(go_at_call 344;refine(ttext (q9 PW) hs).mono ?_;rintro e w3⟨tk,ta,tz,tS,tn,rfl,A9,tB,oI⟩;have R9:=(q9 E9).trans A9;have Q9:=R9.size;have hB:=But.alloc (But.refl w.heap.size w3) (.cells #[.int .i64 tk,.int .i64 ta,.int .i64 tz,.string tS,.int .i64 tn] 235);have GK:AmV W rb w.heap.size w3.heap.size CSX (.slice none 0 0) [] (w3.alloc (.cells #[.int .i64 tk,.int .i64 ta,.int .i64 tz,.string tS,.int .i64 tn] 235)):=⟨((Mid.refl rb w.heap.size W).kept R9).but hB,(((Below.refl w3.heap.size w3).alloc (Nat.le_refl _) _).block _ (by omega)).trans ((R9.block _ (by omega) n0).trans ((q9 o7).blk.trans (by rw[q9 qN]))),⟨tk,ta,tz,tS,tn,heap_alloc_new w3 _⟩,Q9,World.ownsRow_nil _ _ _ _⟩;have GL:=tB.blk (hB.block rb (by omega) n1);obtain⟨g6,bM,w6,bJ,jI,bU,EC,tP⟩:=GK.app (by omega) (by omega) (q9 IZ) (by simp) tS;have FP:(vz2 #[62,62] 62 #[.slice none 0 0,.slice (some ⟨w3.heap.size+1,0,none⟩) 1 1]).run prog ((w3.alloc (.cells #[.int .i64 tk,.int .i64 ta,.int .i64 tz,.string tS,.int .i64 tn] 235)).alloc (.cells #[.string tS] 9))=.ok (.slice (some ⟨g6,0,none⟩) 1 bM) w6:=(by have:=bJ;rw[World.size_alloc]at this;exact this);have p5:w3.cell? ⟨w.heap.size,5,none⟩=some (.slice none 0 0):=(World.cell?_of_block (w:=W) (w':=w3) (a:=⟨w.heap.size,5,none⟩) (R9.block w.heap.size (by omega) n0)).trans ((q9 o7).cell 5);have q5:w6.cell? ⟨w.heap.size,5,none⟩=some (.slice none 0 0):=((qt5 jI).1 5).trans (by rw[q9 qN];rfl);have qz:∀i,w6.frozen? ⟨w.heap.size,i,none⟩=false:=(qt5 jI).2;have nLT:w.heap.size<w3.heap.size:=(by omega);have tJ:=(GL.blk (w':=w6) bU).tr ((But.refl w.heap.size w6).set 5 (.slice (some ⟨g6,0,none⟩) 1 bM)) n1;have wW:=j3 tP;have wK:=j3 tJ;have wL:=j3 oI;have NH:W.heap.size<=w3.heap.size:=Q9;clear bJ A9 tB R9 hB GK GL jI bU tP tJ oI))
 go_loopw [20] (λ_ wr=>Hid (InAt W rb w.heap.size w3.heap.size CSX nv s op l st.place R wr)) (λ_ wr=>meT s wr rb)
 case atStart=>exact j3 ⟨_,_,_,_,q9 wW,q9 wK,q9 K5 _ (q9 wL)⟩
 case round=>
  obtain⟨x,lv,ts,n,oE,F0,o9⟩:=q9 hrel;have C7:=In_len hs F0 o9;have uZ:=oE.mid.size;have DB:=j3 oE;have mM:=j3 F0;have wN:=j3 o9
  cases x with
  | er en pl=>
   have c8:wr.cell? ⟨rb,8,none⟩=some (.int .i64 en):=by obtain⟨_,a,hT⟩:=F0;exact hT.c8
   have dJ:(en==0)=false:=beq_eq_false_iff_ne.2 F0.1;have lG:Hid (∀y,(PS.er en pl)=.st y->¬y.tk.kind=28):=j3 λy e=>by cases e
   clear oE F0 o9 hrel wW wK K5 wL
   go_wp2_with(first|(go_at_call 343;refine(tmust (q9 mM) hs 27 rfl (by decide) (by decide) rfl).mono ?_;rintro e w7⟨rfl,V3,tA⟩;have fK:=(q9 DB).kept (by omega) (by omega) V3;have rU:=fK.mid;have rF:=fK.row;obtain⟨x7,z7⟩:=qt5 fK.nb;rw[q9 qN]at x7;have r0:w7.cell? ⟨w.heap.size,0,none⟩=some (.string ⟨#[73,78]⟩):=x7 0;have r1:w7.cell? ⟨w.heap.size,1,none⟩=some (.int .i64 st.place):=x7 1;have r2:w7.cell? ⟨w.heap.size,2,none⟩=some (.slice (some ⟨g,0,none⟩) 1 1):=x7 2;have r3:w7.cell? ⟨w.heap.size,3,none⟩=some (.string ⟨#[]⟩):=x7 3;have r4:w7.cell? ⟨w.heap.size,4,none⟩=some (.string ⟨#[]⟩):=x7 4;have r5:w7.cell? ⟨w.heap.size,5,none⟩=some (lv):=x7 5;have r6:w7.cell? ⟨w.heap.size,6,none⟩=some (.int .i64 0):=x7 6;have r7:w7.cell? ⟨w.heap.size,7,none⟩=some (.bool neg):=x7 7;have r8:w7.cell? ⟨w.heap.size,8,none⟩=some (.int .i64 0):=x7 8;have dQ:=j3 rU;have BE:=j3 rF;have iT:=j3 tA;clear V3 tA fK x7 z7 rU rF)|(go_at_call 216;refine(tadd (q9 iT) ((q9 dQ).nodes (q9 mL) (q9 iT).c0 (q9 o7) (by decide) (by decide) (q9 IT)) (by omega) ⟨21,st.place,0,[],[],ts⟩ rfl [i0] neg rfl rfl rfl ((q9 dQ).row (q9 mL) (q9 iT).c0 (q9 o7) (by decide) (q9 dO)) (jf0 (q9 BE) (by omega) (λk l8 eG=>by have:=q9 IM k ((jr9 (q9 mL) (q9 iT).c0 k).1 eG);omega))).mono ?_;rintro e w8⟨rfl,pV,JQ,sZ,rT⟩;have CD:=j3 (((q9 Z8).mid (q9 dQ) (q9 mL) (q9 iT).c0 (Nat.le_refl _)).trans pV);have DE:=j3 sZ;have BX:=j3 rT;clear pV sZ rT))
   go_ret;exact In_end (new:=new) hs hm (q9 Z9) (q9 K0) I9 (by omega) (q9 mM) (q9 wN) (q9 lG) (q9 CD) (q9 DE) (q9 BX) (by simp)
  | st sl=>
   have c8:wr.cell? ⟨rb,8,none⟩=some (.int .i64 0):=F0.1.c8
   by_cases k28:sl.tk.kind=28
   ·have nD:(sl.tk.kind==28)=true:=by rw[k28];rfl
    have dG:=meT_st F0;have sL:=F0.2.1;have fL:=sL.step_place (by omega);have bQ:=j3 dG;have yU:=(qa7 s sl sL.after).place;have CG:=j3 (qa7 s sl sL.after);have bP:Hid (∀S,strP (.st (j4 s sl)) S->∃n',vz5 s l st.place st.place R (ts++[S.data.toList]) n' (vy9 s (.st (j4 s sl)))):=j3 λS hS=>In_next hs sL k28 o9 hS
    have LE:=sL.place;clear oE F0 o9 hrel wW wK K5 wL dG
    go_wp2_with(first|(go_at_call 215;refine(tis (q9 mM) 28 (X:=⟨#[44]⟩) rfl (by decide) (by decide) rfl).mono ?_;rintro e w'⟨rfl,hw'⟩;subst w';rw[nD])|(go_at_call 172;refine(tstep (q9 mM) hs (by omega)).mono ?_;rintro e w2x⟨rfl,A3,kM⟩;have DA:=j3 ((q9 DB).kept (by omega) (by omega) A3);have DC:=j3 kM;clear A3 kM)|(go_at_call 344;refine(ttext (q9 DC) hs).mono ?_;rintro e w3x⟨tk,ta,tz,tS,tn,rfl,A9,tB,oI⟩;have G5:=(q9 DA).kept (by omega) (by omega) A9;obtain⟨k0,a0,z0,S0,m0,gD⟩:=G5.tb;obtain⟨y3,yz⟩:=qt5 gD;have y0:w3x.cell? ⟨w3.heap.size,0,none⟩=some (.int .i64 k0):=y3 0;have y1:w3x.cell? ⟨w3.heap.size,1,none⟩=some (.int .i64 a0):=y3 1;have y2:w3x.cell? ⟨w3.heap.size,2,none⟩=some (.int .i64 z0):=y3 2;have y4:w3x.cell? ⟨w3.heap.size,3,none⟩=some (.string S0):=y3 3;have y5:w3x.cell? ⟨w3.heap.size,4,none⟩=some (.int .i64 m0):=y3 4;have l5:w3x.cell? ⟨w.heap.size,5,none⟩=some lv:=((qt5 G5.nb).1 5).trans (by rw[q9 qN];rfl);have W9:=G5.tok (by omega) tk ta tz tS tn;obtain⟨g6x,cap6x,w6x,sY,jI,bU,KP,tP⟩:=W9.app (by omega) (by omega) (q9 IZ) (by omega) tS;simp only[size_setCell]at sY;have q5x:w6x.cell? ⟨w.heap.size,5,none⟩=some lv:=((qt5 jI).1 5).trans (by rw[q9 qN];rfl);have qzx:∀i,w6x.frozen? ⟨w.heap.size,i,none⟩=false:=(qt5 jI).2;have iC:¬rb=w3.heap.size:=(by omega);have tO:AT (((((w3x.setCell ⟨w3.heap.size,0,none⟩ (.int .i64 tk)).setCell ⟨w3.heap.size,1,none⟩ (.int .i64 ta)).setCell ⟨w3.heap.size,2,none⟩ (.int .i64 tz)).setCell ⟨w3.heap.size,3,none⟩ (.string tS)).setCell ⟨w3.heap.size,4,none⟩ (.int .i64 tn)) rb nv s op (vy9 s (.st (j4 s sl))):=((((tB.tr ((But.refl w3.heap.size _).set 0 _) iC).tr ((But.refl w3.heap.size _).set 1 _) iC).tr ((But.refl w3.heap.size _).set 2 _) iC).tr ((But.refl w3.heap.size _).set 3 _) iC).tr ((But.refl w3.heap.size _).set 4 _) iC;have oP:=(tO.blk (w':=w6x) bU).tr ((But.refl w.heap.size w6x).set 5 (.slice (some ⟨g6x,0,none⟩) (ts.length+1) cap6x)) n1;have qJ:=j3 (In_meas (q9 CG) fL yU oP);have nLTb:¬w.heap.size=w3.heap.size:=(by omega);have nLTb':¬w3.heap.size=w.heap.size:=(by omega);have DF:=j3 tP;have BH:=j3 oP;have OV:=j3 oI;clear A9 tB oI G5 gD y3 W9 jI bU tP tO oP))
    go_roundw
    case rel=>
     obtain⟨n',lV⟩:=q9 bP _ (q9 OV);exact j3 ⟨_,_,_,n',q9 DF,q9 BH,lV⟩
    case measure=>rw[q9 bQ];have:=q9 qJ;omega
   ·have nD:(sl.tk.kind==28)=false:=beq_eq_false_iff_ne.2 k28
    have lG:Hid (∀y,(PS.st sl)=.st y->¬y.tk.kind=28):=j3 λy e=>by injection e with e;subst e;exact k28
    clear oE F0 o9 hrel wW wK K5 wL
    go_wp2_with(first|(go_at_call 215;refine(tis (q9 mM) 28 (X:=⟨#[44]⟩) rfl (by decide) (by decide) rfl).mono ?_;rintro e w'⟨rfl,hw'⟩;subst w';rw[nD])|(go_at_call 343;refine(tmust (q9 mM) hs 27 rfl (by decide) (by decide) rfl).mono ?_;rintro e w7⟨rfl,V3,tA⟩;have fK:=(q9 DB).kept (by omega) (by omega) V3;have rU:=fK.mid;have rF:=fK.row;obtain⟨x7,z7⟩:=qt5 fK.nb;rw[q9 qN]at x7;have r0:w7.cell? ⟨w.heap.size,0,none⟩=some (.string ⟨#[73,78]⟩):=x7 0;have r1:w7.cell? ⟨w.heap.size,1,none⟩=some (.int .i64 st.place):=x7 1;have r2:w7.cell? ⟨w.heap.size,2,none⟩=some (.slice (some ⟨g,0,none⟩) 1 1):=x7 2;have r3:w7.cell? ⟨w.heap.size,3,none⟩=some (.string ⟨#[]⟩):=x7 3;have r4:w7.cell? ⟨w.heap.size,4,none⟩=some (.string ⟨#[]⟩):=x7 4;have r5:w7.cell? ⟨w.heap.size,5,none⟩=some (lv):=x7 5;have r6:w7.cell? ⟨w.heap.size,6,none⟩=some (.int .i64 0):=x7 6;have r7:w7.cell? ⟨w.heap.size,7,none⟩=some (.bool neg):=x7 7;have r8:w7.cell? ⟨w.heap.size,8,none⟩=some (.int .i64 0):=x7 8;have dQ:=j3 rU;have BE:=j3 rF;have iT:=j3 tA;clear V3 tA fK x7 z7 rU rF)|(go_at_call 216;refine(tadd (q9 iT) ((q9 dQ).nodes (q9 mL) (q9 iT).c0 (q9 o7) (by decide) (by decide) (q9 IT)) (by omega) ⟨21,st.place,0,[],[],ts⟩ rfl [i0] neg rfl rfl rfl ((q9 dQ).row (q9 mL) (q9 iT).c0 (q9 o7) (by decide) (q9 dO)) (jf0 (q9 BE) (by omega) (λk l8 eG=>by have:=q9 IM k ((jr9 (q9 mL) (q9 iT).c0 k).1 eG);omega))).mono ?_;rintro e w8⟨rfl,pV,JQ,sZ,rT⟩;have CD:=j3 (((q9 Z8).mid (q9 dQ) (q9 mL) (q9 iT).c0 (Nat.le_refl _)).trans pV);have DE:=j3 sZ;have BX:=j3 rT;clear pV sZ rT))
    go_ret;exact In_end (new:=new) hs hm (q9 Z9) (q9 K0) I9 (by omega) (q9 mM) (q9 wN) (q9 lG) (q9 CD) (q9 DE) (q9 BX) (by simp)
end
section
theorem jz6(p:ByteArray)(hp:p.size<=200)(e:UInt8)(w:World):
  Calls prog 345 #[.string p,.int .u8 e.toNat] w λen w'=>en=.returned (.bool (qs5 [e] p.data.toList).isSome)/\w'=w:=by
 obtain⟨R,hR⟩:∃r,(qs5 [e] p.data.toList).isSome=r:=⟨_,rfl⟩;rw[hR];have HR:=j3 hR;clear hR;go_enter func345,ntmps345
 go_wp2_with fail
 go_loop [5] (λiv=>∃k:Nat,k<=p.size/\iv=.int .i64 k/\Hid (R=(qs5 [e] (p.data.toList.drop k)).isSome)) (λiv=>p.size - (intOf iv).toNat)
 case atStart=>exact⟨0,Nat.zero_le _,rfl,j3 (by rw[List.drop_zero,q9 HR])⟩
 case round=>
  obtain⟨k,hk,rfl,hh⟩:=hrel
  by_cases A1:k<p.size
  ·have cJ:p.data.toList[k]?=some p[k]:=by rw[List.getElem?_eq_getElem (by rw[qa5];exact A1),qb2 p k A1]
   by_cases hx:p[k]=e
   ·have M8:(p[k].toNat:Int)=(e.toNat:Int):=by rw[hx]
    have KS:((p[k].toNat:Int)==(e.toNat:Int))=true:=by rw[M8,beq_self_eq_true]
    by_cases hl:k+1=p.size
    ·have HT:Hid (R=false):=j3 (by rw[q9 hh,jb2 cJ (by rw[hx];rfl) (by rw[qa5];omega)];rfl)
     have M5:(((k:Int)+1)==(p.size:Int))=true:=by rw[beq_iff_eq];omega
     have LK:=j3 cJ;clear hh cJ hx
     go_wp2_with fail
     go_ret;exact⟨qn4 (by rw[q9 HT]),rfl⟩
    ·have h2:k+1<p.size:=by omega
     have gJ:p.data.toList[k+1]?=some p[k+1]:=by rw[List.getElem?_eq_getElem (by rw[qa5];exact h2),qb2 p (k+1) h2]
     have HT:Hid (R=(qs5 [e] (p.data.toList.drop (k+2))).isSome):=j3 (by rw[q9 hh,jq6 cJ (by rw[hx];rfl) gJ];cases qs5 [e] (p.data.toList.drop (k+2))<;>rfl);have M5:(((k:Int)+1)==(p.size:Int))=false:=by rw[beq_eq_false_iff_ne];omega
     clear hh cJ gJ hx
     go_wp2_with fail
     go_round
     case rel=>exact⟨k+2,by omega,by go_num,HT⟩
     case measure=>simp[intOf];omega
   ·have KS:((p[k].toNat:Int)==(e.toNat:Int))=false:=by
     rw[beq_eq_false_iff_ne];intro h;exact hx (UInt8.toNat_inj.1 (by omega))
    have HT:Hid (R=(qs5 [e] (p.data.toList.drop (k+1))).isSome):=j3 (by rw[q9 hh,vr5 cJ (λh=>hx (by injection h with h;exact h.symm))];cases qs5 [e] (p.data.toList.drop (k+1))<;>rfl);clear hh cJ hx
    go_wp2_with fail
    go_round
    case rel=>exact⟨k+1,by omega,by go_num,HT⟩
    case measure=>simp[intOf];omega
  ·have HT:Hid (R=true):=j3 (by rw[q9 hh,jq5 (by rw[qa5];omega)];rfl)
   clear hh
   go_wp2_with fail
   go_ret;exact⟨qn4 (by rw[q9 HT]),rfl⟩
end
section
section
variable {w:World} {rb:Nat} {s:ByteArray} {ns:List RN} {j:Nat} {st:St}
theorem vy3(h:RT w rb s ns j st)(hs:s.size<=200)(hk:st.tk.kind=4):
  Calls prog 344 #[.pointer (some ⟨rb,0,none⟩)] w λe w'=>e=.returned (.agg #[.int .i64 4,.int .i64 st.place,.int .i64 st.after,.string (BS st.tk.str),.int .i64 (tkN st)])/\TKept rb w w'/\RT w' rb s ns (j+1) (j4 s st):=by
 obtain⟨nv,hT,hN,hF,hj⟩:=h;have hp:=hF.step_place (by omega);rw[show tkZ st=(st.after:Int) by unfold tkZ;rw[if_neg (by omega)],show rK st.tk.kind=4 by rw[hk];rfl,show tkS st=st.tk.str by unfold tkS rS;rw[if_neg (by omega),if_pos (by omega)]]at hT;refine(jd9 hT hs hF.after (qs0 s st)).mono ?_;rintro e w'⟨rfl,G7,hK⟩;exact⟨rfl,TKept.of_kept hK (G7.c0.trans hT.c0.symm),nv,G7,hN.kept (hT.c0.trans G7.c0.symm) hK,qa7 s st hF.after,by omega⟩
theorem rtext_no(h:RT w rb s ns j st)(hs:s.size<=200)(hk:¬st.tk.kind=4):
  Calls prog 344 #[.pointer (some ⟨rb,0,none⟩)] w λe w'=>e=.returned (.agg #[.int .i64 (rK st.tk.kind),.int .i64 st.place,.int .i64 (tkZ st),.string (BS (tkS st)),.int .i64 (tkN st)])/\TKept rb w w'/\RE w' rb s 2 st.place st.op 200:=by
 obtain⟨nv,hT,hN,hF,hj⟩:=h;have hp:=hF.place;refine(jd8 hT (by unfold rK;split<;>(try split)<;>omega)).mono ?_;rintro e w'⟨rfl,G7,hK⟩;exact⟨rfl,TKept.of_kept hK (G7.c0.trans hT.c0.symm),nv,_,ns,G7,by decide,hN.kept (hT.c0.trans G7.c0.symm) hK,by omega⟩
end
theorem likeR_no{s:ByteArray}{l:Ast}{st:St}(h:¬(j4 s st).tk.kind=4):qb5 s l st=.err 2 (j4 s st).place:=by unfold qb5;rw[if_neg h]
theorem jm4{s:ByteArray}{l:Ast}{st:St}(h:(j4 s st).tk.kind=4)(h2:¬(j4 s (j4 s st)).tk.kind=13):qb5 s l st=.ok (.un ⟨22,st.place,0,(j4 s st).tk.str,[],[]⟩ l) (j4 s (j4 s st)):=by unfold qb5;rw[if_pos h,if_neg h2]
theorem likeR_e1{s:ByteArray}{l:Ast}{st:St}(h:(j4 s st).tk.kind=4)(h2:(j4 s (j4 s st)).tk.kind=13)(h3:¬((j4 s (j4 s (j4 s st))).tk.kind=4/\(j4 s (j4 s (j4 s st))).tk.str.length=1)):qb5 s l st=.err 2 (j4 s (j4 s (j4 s st))).place:=by
 unfold qb5 qq3;rw[if_pos h,if_pos h2]
 by_cases h4:(j4 s (j4 s (j4 s st))).tk.kind=4
 ·simp only[if_pos h4,if_neg (λe=>h3 ⟨h4,e⟩)]
 ·simp only[if_neg h4]
theorem likeR_e2{s:ByteArray}{l:Ast}{st:St}(h:(j4 s st).tk.kind=4)(h2:(j4 s (j4 s st)).tk.kind=13)(h3:(j4 s (j4 s (j4 s st))).tk.kind=4){c:UInt8}(h4:(j4 s (j4 s (j4 s st))).tk.str=[c])(h5:(qs5 [c] (j4 s st).tk.str).isSome=false):qb5 s l st=.err 2 (j4 s st).place:=by
 unfold qb5 qq3;rw[if_pos h,if_pos h2];simp only[if_pos h3];rw[h4,if_pos (show[c].length=1 from rfl),if_neg (by rw[h5];simp)]
theorem likeR_ok{s:ByteArray}{l:Ast}{st:St}(h:(j4 s st).tk.kind=4)(h2:(j4 s (j4 s st)).tk.kind=13)(h3:(j4 s (j4 s (j4 s st))).tk.kind=4){c:UInt8}(h4:(j4 s (j4 s (j4 s st))).tk.str=[c])(h5:(qs5 [c] (j4 s st).tk.str).isSome=true):qb5 s l st=.ok (.un ⟨22,st.place,0,(j4 s st).tk.str,[c],[]⟩ l) (j4 s (j4 s (j4 s (j4 s st)))):=by
 unfold qb5 qq3;rw[if_pos h,if_pos h2];simp only[if_pos h3];rw[h4,if_pos (show[c].length=1 from rfl),if_pos h5]
abbrev lkN(pl g:Nat)(a b:ByteArray)(neg:Bool):Array Value:=#[.string ⟨#[76,73,75,69]⟩,.int .i64 pl,.slice (some ⟨g,0,none⟩) 1 1,.string a,.string b,.slice none 0 0,.int .i64 0,.bool neg,.int .i64 0]
abbrev lkT(k:Int)(pl:Nat)(z:Int)(a:ByteArray)(n:Int):Array Value:=#[.int .i64 k,.int .i64 pl,.int .i64 z,.string a,.int .i64 n]
abbrev lkW(w:World)(b i:Nat)(a:ByteArray)(T:Array Value):World:=(w.setCell ⟨b,i,none⟩ (.string a)).alloc (.cells T 235)
theorem VN.lk{w:World}{rb n pl g:Nat}{a b:ByteArray}{neg:Bool}(h:VN w rb n 241 (lkN pl g a b neg)):w.cell? ⟨n,0,none⟩=some (.string ⟨#[76,73,75,69]⟩)/\w.cell? ⟨n,1,none⟩=some (.int .i64 pl)/\w.cell? ⟨n,2,none⟩=some (.slice (some ⟨g,0,none⟩) 1 1)/\w.cell? ⟨n,3,none⟩=some (.string a)/\w.cell? ⟨n,4,none⟩=some (.string b)/\w.cell? ⟨n,5,none⟩=some (.slice none 0 0)/\w.cell? ⟨n,6,none⟩=some (.int .i64 0)/\w.cell? ⟨n,7,none⟩=some (.bool neg)/\w.cell? ⟨n,8,none⟩=some (.int .i64 0)/\∀i,w.frozen? ⟨n,i,none⟩=false:=
 ⟨h.cell 0,h.cell 1,h.cell 2,h.cell 3,h.cell 4,h.cell 5,h.cell 6,h.cell 7,h.cell 8,h.frz⟩
theorem je5(rb:Nat)(s:ByteArray)(hs:s.size<=200)(op m:Nat)(hm:201<=m)(w:World)(st:St)(ns new:List RN)(j:Nat)(l:Ast)(h:RT w rb s (ns++new) j st)(ho:st.op=op)(hk:st.tk.kind=12)(F6:Flat l ns.length new)(i0:Nat)(O8:i0=ns.length+new.length - 1)(g:Nat)(hg:VN w rb g 3 #[.int .i64 i0])(neg:Bool)(pl0:Int):
  Calls prog 325 #[.pointer (some ⟨rb,0,none⟩),.agg #[.string ⟨#[]⟩,.int .i64 st.place,.slice (some ⟨g,0,none⟩) 1 1,.string ⟨#[]⟩,.string ⟨#[]⟩,.slice none 0 0,.int .i64 0,.bool neg,.int .i64 0]] w (REnds rb s w op m ns j st.place (negR neg pl0 (qb5 s l st))):=by
 have A1:=h.lt;have n0:¬w.heap.size=rb:=by omega
 have n1:¬rb=w.heap.size:=by omega
 have bG:=hg.lt;have fR:VN (w.alloc (.cells (lkN st.place g ⟨#[]⟩ ⟨#[]⟩ neg) 241)) rb w.heap.size 241 (lkN st.place g ⟨#[]⟩ ⟨#[]⟩ neg):=VN.new h _ _ rfl;have bK:TKept rb w (w.alloc (.cells (lkN st.place g ⟨#[]⟩ ⟨#[]⟩ neg) 241)):=(TKept.refl rb w).alloc A1 _;have h0:RT (w.alloc (.cells (lkN st.place g ⟨#[]⟩ ⟨#[]⟩ neg) 241)) rb s (ns++new) j st:=h.alloc _;have jJ:VN (w.alloc (.cells (lkN st.place g ⟨#[]⟩ ⟨#[]⟩ neg) 241)) rb g 3 #[.int .i64 i0]:=hg.alloc A1 _;have f1:=qa7 s st h.fine.after;have p1:=h.fine.step_place (by omega);have f2:=qa7 s _ f1.after;have f3:=qa7 s _ f2.after;have C8:=f1.place;have xT:(j4 s st).tk.str.length<=200:=Nat.le_trans (vg1 s st) hs;have H0:=j3 h0;have Z8:=j3 bK;have o7:=j3 fR;have lE:=j3 jJ;have K0:=j3 F6;have Z9:=j3 O8;clear h bK h0 fR jJ hg F6 O8
 by_cases k4:(j4 s st).tk.kind=4
 ·have p2:=f1.step_place (by omega)
  by_cases k13:(j4 s (j4 s st)).tk.kind=13
  ·have jT:((j4 s (j4 s st)).tk.kind==13)=true:=by rw[k13];rfl
   have p3:=f2.step_place (by omega)
   by_cases k44:(j4 s (j4 s (j4 s st))).tk.kind=4/\(j4 s (j4 s (j4 s st))).tk.str.length=1
   ·obtain⟨k4b,kl⟩:=k44
    obtain⟨c,hc⟩:∃c,(j4 s (j4 s (j4 s st))).tk.str=[c]:=by
     match h:(j4 s (j4 s (j4 s st))).tk.str,kl with
     | [c],_=>exact⟨c,rfl⟩
    have p4:=f3.step_place (by omega);cases hcut:(qs5 [c] (j4 s st).tk.str).isSome
    all_goals
     first|rw[likeR_e2 k4 k13 k4b hc hcut]|rw[likeR_ok k4 k13 k4b hc hcut]
     go_enter func325,ntmps325
     go_wp2_with(first|(go_at_call 172;have _q:=F4;refine(qb4 (q9 F4) hs (by omega) (by omega)).mono ?_;rintro e w4⟨rfl,D0,D9⟩;have W9:=(q9 bN).kept D0;have vQ:=(q9 o8).kept D0;have fN:=(q9 uK).kept D0;have AL:=W9.lt;have AH:=fN.lt;obtain⟨e2,e3,e4,e5,e6⟩:=D9.ct;rw[show rK (j4 s (j4 s (j4 s st))).tk.kind=4 by rw[k4b];rfl]at e2;rw[show tkZ (j4 s (j4 s (j4 s st)))=((j4 s (j4 s (j4 s st))).after:Int) by unfold tkZ;rw[if_neg (by omega)]]at e4;rw[show BS (tkS (j4 s (j4 s (j4 s st))))=⟨#[c]⟩ by unfold tkS rS;rw[if_neg (by omega),if_pos (by omega),hc];rfl]at e5;obtain⟨d0,d1,d2,d3,d4,d5,d6,d7,d8,dz⟩:=W9.lk;have JL:w4.cell? ⟨w2.heap.size,1,none⟩=some (.int .i64 (j4 s st).place):=fN.cell 1;have V7:=D9.lt;have m1:¬rb=w4.heap.size:=(by omega);have m2:¬w4.heap.size=rb:=(by omega);have m3:¬w.heap.size=w4.heap.size:=(by omega);have m4:w.heap.size<w4.heap.size:=AL;have m5:w2.heap.size<w4.heap.size:=AH;have EJ:VN (lkW w4 w.heap.size 4 ⟨#[c]⟩ (lkT 4 (j4 s (j4 s (j4 s st))).place (j4 s (j4 s (j4 s st))).after ⟨#[c]⟩ (tkN (j4 s (j4 s (j4 s st)))))) rb w.heap.size 241 (lkN st.place g (BS (j4 s st).tk.str) ⟨#[c]⟩ neg):=(W9.set 4 _).alloc (by simpa using V7) _;have r9:RT (lkW w4 w.heap.size 4 ⟨#[c]⟩ (lkT 4 (j4 s (j4 s (j4 s st))).place (j4 s (j4 s (j4 s st))).after ⟨#[c]⟩ (tkN (j4 s (j4 s (j4 s st)))))) rb s (ns++new) (j+1+1+1) (j4 s (j4 s (j4 s st))):=(W9.rt (by decide) (by decide) D9 4 _).alloc _;have kF:VN (lkW w4 w.heap.size 4 ⟨#[c]⟩ (lkT 4 (j4 s (j4 s (j4 s st))).place (j4 s (j4 s (j4 s st))).after ⟨#[c]⟩ (tkN (j4 s (j4 s (j4 s st)))))) rb g 3 #[.int .i64 i0]:=(vQ.setB (by omega) n0 4 _).alloc (by simpa using V7) _;have M6:TKept rb w (lkW w4 w.heap.size 4 ⟨#[c]⟩ (lkT 4 (j4 s (j4 s (j4 s st))).place (j4 s (j4 s (j4 s st))).after ⟨#[c]⟩ (tkN (j4 s (j4 s (j4 s st)))))):=((((q9 F5).trans D0).far A1 (p:=⟨w.heap.size,4,none⟩) (Nat.le_refl _) _).alloc A1 _);have S4:Below (lkW w4 w.heap.size 4 ⟨#[c]⟩ (lkT 4 (j4 s (j4 s (j4 s st))).place (j4 s (j4 s (j4 s st))).after ⟨#[c]⟩ (tkN (j4 s (j4 s (j4 s st)))))).heap.size (lkW w4 w.heap.size 4 ⟨#[c]⟩ (lkT 4 (j4 s (j4 s (j4 s st))).place (j4 s (j4 s (j4 s st))).after ⟨#[c]⟩ (tkN (j4 s (j4 s (j4 s st)))))) (lkW w4 w.heap.size 4 ⟨#[c]⟩ (lkT 4 (j4 s (j4 s (j4 s st))).place (j4 s (j4 s (j4 s st))).after ⟨#[c]⟩ (tkN (j4 s (j4 s (j4 s st)))))).drew:=(Below.refl _ _).drew;have cF:=j3 (r9.below S4);have qK:=j3 (kF.kept (TKept.of_below S4 r9.lt));have aQ:=j3 (M6.drew);have eX:=j3 (EJ.kept (TKept.of_below S4 r9.lt));clear D0 D9 W9 vQ fN EJ r9 kF M6 S4)|(go_at_call 172;refine(qb4 (q9 H0) hs (by omega) (by omega)).mono ?_;rintro e w1⟨rfl,A0,A4⟩;have U9:=j3 ((q9 o7).kept A0);have dB:=j3 ((q9 lE).kept A0);have D8:=j3 ((q9 Z8).trans A0);have D5:=j3 A4;clear A0 A4)|(go_at_call 344;refine(vy3 (q9 D5) hs k4).mono ?_;rintro e w2⟨rfl,A3,A5⟩;have N6:=(q9 U9).kept A3;have aC:=N6.lt;have G5:VN (lkW w2 w.heap.size 3 (BS (j4 s st).tk.str) (lkT 4 (j4 s st).place (j4 s st).after (BS (j4 s st).tk.str) (tkN (j4 s st)))) rb w.heap.size 241 (lkN st.place g (BS (j4 s st).tk.str) ⟨#[]⟩ neg):=(N6.set 3 _).alloc (by simpa using A5.lt) _;have B8:RT (lkW w2 w.heap.size 3 (BS (j4 s st).tk.str) (lkT 4 (j4 s st).place (j4 s st).after (BS (j4 s st).tk.str) (tkN (j4 s st)))) rb s (ns++new) (j+1+1) (j4 s (j4 s st)):=(N6.rt (by decide) (by decide) A5 3 _).alloc _;have dI:VN (lkW w2 w.heap.size 3 (BS (j4 s st).tk.str) (lkT 4 (j4 s st).place (j4 s st).after (BS (j4 s st).tk.str) (tkN (j4 s st)))) rb g 3 #[.int .i64 i0]:=(((q9 dB).kept A3).setB (by omega) n0 3 _).alloc (by simpa using A5.lt) _;have A9:TKept rb w (lkW w2 w.heap.size 3 (BS (j4 s st).tk.str) (lkT 4 (j4 s st).place (j4 s st).after (BS (j4 s st).tk.str) (tkN (j4 s st)))):=((((q9 D8).trans A3).far A1 (p:=⟨w.heap.size,3,none⟩) (Nat.le_refl _) _).alloc A1 _);have s9:VN (lkW w2 w.heap.size 3 (BS (j4 s st).tk.str) (lkT 4 (j4 s st).place (j4 s st).after (BS (j4 s st).tk.str) (tkN (j4 s st)))) rb w2.heap.size 235 (lkT 4 (j4 s st).place (j4 s st).after (BS (j4 s st).tk.str) (tkN (j4 s st))):=VN.new (N6.rt (by decide) (by decide) A5 3 _) _ _ (by simp);have kQ:=B8.c8;obtain⟨p0,p1,p2,p3,p4,p5,p6,p7,p8,pz⟩:=N6.lk;have bN:=j3 G5;have F4:=j3 B8;have o8:=j3 dI;have F5:=j3 A9;have uK:=j3 s9;have nA:=A5.lt;have uU:¬rb=w2.heap.size:=(by omega);have mQ:¬w2.heap.size=rb:=(by omega);have tW:=A5.c8;clear A3 A5 N6 G5 B8 dI A9 s9 kQ)|(go_at_call 215;refine(qp0 (q9 F4) 13 (X:=⟨#[69,83,67,65,80,69]⟩) rfl (by decide) (by decide) rfl).mono ?_;rintro e w'⟨rfl,hw'⟩;subst w';rw[jT]))
     go_region_with(go_at_call 345;refine(jz6 (BS (j4 s st).tk.str) (by rw[qc1];exact xT) c _).mono ?_;rintro e w'⟨rfl,hw'⟩;subst w';rw[qp4,hcut])
     all_goals go_wp2_with(first|(go_at_call 174;refine(qy6 (q9 cF) hs 2 (j4 s st).place (by decide)).mono ?_;rintro e w6⟨rfl,b8,bU⟩;have PP:=j3 ((q9 aQ).trans b8);have OZ:=j3 bU;clear b8 bU)|(go_at_call 172;refine(qb4 (q9 cF) hs (by omega) (by omega)).mono ?_;rintro e w6⟨rfl,b8,bU⟩;have pR:=(q9 eX).kept b8;obtain⟨TP,TO,TN,TL,TJ,TI,TH,TG,TF,_⟩:=pR.lk;have CF:=j3 ((q9 qK).kept b8);have lB:=j3 ((q9 aQ).trans b8);have qH:=j3 bU;clear b8 bU pR)|(go_at_call 216;refine(je0 (q9 qH) hs ⟨22,st.place,0,(j4 s st).tk.str,[c],[]⟩ rfl [i0] neg rfl rfl rfl (.inr ⟨g,1,#[.int .i64 i0],(0,0),rfl,(q9 CF).past,(q9 CF).blk,(q9 CF).no,λj u hu=>by simpa [vb2]using hu⟩) (RowOf.no _ _ _)).mono ?_;rintro e w9⟨rfl,aA,p9⟩;have fH:=j3 ((q9 lB).trans aA);have fB:=j3 p9;clear aA p9))
     all_goals go_ret
     all_goals first
      | exact⟨q9 PP,0,rfl,ho ▸ (q9 OZ).more (by omega)⟩
      | (
       refine⟨q9 fH,new++[qi5 ⟨22,st.place,0,(j4 s st).tk.str,[c],[]⟩ [ns.length+new.length - 1] neg],qg3 (by simp), ?_,ho,by omega, ?_⟩
       all_goals first
        | (
         have:=q9 fB;rw[List.append_assoc,q9 Z9]at this
         exact this.less (by omega))
        | (
         cases neg with
         | false=>exact Flat.un _ (q9 K0)
         | true=>exact Flat.neg1 _ _ (.inr (.inl rfl)) (q9 K0)))
   ·rw[likeR_e1 k4 k13 k44]
    have lZ:¬(rK (j4 s (j4 s (j4 s st))).tk.kind=4/\(BS (tkS (j4 s (j4 s (j4 s st))))).size=1):=by
     rintro⟨e1,e2⟩;have e3:(j4 s (j4 s (j4 s st))).tk.kind=4:=by unfold rK at e1;split at e1<;>(try split at e1)<;>omega
     refine k44 ⟨e3, ?_⟩;rw[qc1]at e2;unfold tkS rS at e2;rwa [if_neg (by omega),if_pos (by omega)]at e2
    have AG:rK (j4 s (j4 s (j4 s st))).tk.kind=4->¬((BS (tkS (j4 s (j4 s (j4 s st))))).size:Int)=1:=λhK e=>lZ ⟨hK,by omega⟩
    by_cases hK:rK (j4 s (j4 s (j4 s st))).tk.kind=4
    all_goals
     clear lZ k44
     first|replace AG:=AG hK|clear AG
     go_enter func325,ntmps325
     go_wp2_with(first|(go_at_call 172;have _q:=F4;refine(qb4 (q9 F4) hs (by omega) (by omega)).mono ?_;rintro e w4⟨rfl,D0,D9⟩;have W9:=(q9 bN).kept D0;have vQ:=(q9 o8).kept D0;have fN:=(q9 uK).kept D0;have AL:=W9.lt;have AH:=fN.lt;obtain⟨e2,e3,e4,e5,e6⟩:=D9.ct;obtain⟨d0,d1,d2,d3,d4,d5,d6,d7,d8,dz⟩:=W9.lk;have JL:w4.cell? ⟨w2.heap.size,1,none⟩=some (.int .i64 (j4 s st).place):=fN.cell 1;have V7:=D9.lt;have m1:¬rb=w4.heap.size:=(by omega);have m2:¬w4.heap.size=rb:=(by omega);have m3:¬w.heap.size=w4.heap.size:=(by omega);have m4:w.heap.size<w4.heap.size:=AL;have m5:w2.heap.size<w4.heap.size:=AH;have QF:=j3 (λo=>qy6 (D9.alloc o) hs 2 (j4 s (j4 s (j4 s st))).place (by decide));have K6:=j3 (λo=>((q9 F5).trans D0).alloc A1 o);clear D0 D9 W9 vQ fN)|(go_at_call 172;refine(qb4 (q9 H0) hs (by omega) (by omega)).mono ?_;rintro e w1⟨rfl,A0,A4⟩;have U9:=j3 ((q9 o7).kept A0);have dB:=j3 ((q9 lE).kept A0);have D8:=j3 ((q9 Z8).trans A0);have D5:=j3 A4;clear A0 A4)|(go_at_call 344;refine(vy3 (q9 D5) hs k4).mono ?_;rintro e w2⟨rfl,A3,A5⟩;have N6:=(q9 U9).kept A3;have aC:=N6.lt;have G5:VN (lkW w2 w.heap.size 3 (BS (j4 s st).tk.str) (lkT 4 (j4 s st).place (j4 s st).after (BS (j4 s st).tk.str) (tkN (j4 s st)))) rb w.heap.size 241 (lkN st.place g (BS (j4 s st).tk.str) ⟨#[]⟩ neg):=(N6.set 3 _).alloc (by simpa using A5.lt) _;have B8:RT (lkW w2 w.heap.size 3 (BS (j4 s st).tk.str) (lkT 4 (j4 s st).place (j4 s st).after (BS (j4 s st).tk.str) (tkN (j4 s st)))) rb s (ns++new) (j+1+1) (j4 s (j4 s st)):=(N6.rt (by decide) (by decide) A5 3 _).alloc _;have dI:VN (lkW w2 w.heap.size 3 (BS (j4 s st).tk.str) (lkT 4 (j4 s st).place (j4 s st).after (BS (j4 s st).tk.str) (tkN (j4 s st)))) rb g 3 #[.int .i64 i0]:=(((q9 dB).kept A3).setB (by omega) n0 3 _).alloc (by simpa using A5.lt) _;have A9:TKept rb w (lkW w2 w.heap.size 3 (BS (j4 s st).tk.str) (lkT 4 (j4 s st).place (j4 s st).after (BS (j4 s st).tk.str) (tkN (j4 s st)))):=((((q9 D8).trans A3).far A1 (p:=⟨w.heap.size,3,none⟩) (Nat.le_refl _) _).alloc A1 _);have s9:VN (lkW w2 w.heap.size 3 (BS (j4 s st).tk.str) (lkT 4 (j4 s st).place (j4 s st).after (BS (j4 s st).tk.str) (tkN (j4 s st)))) rb w2.heap.size 235 (lkT 4 (j4 s st).place (j4 s st).after (BS (j4 s st).tk.str) (tkN (j4 s st))):=VN.new (N6.rt (by decide) (by decide) A5 3 _) _ _ (by simp);have kQ:=B8.c8;obtain⟨p0,p1,p2,p3,p4,p5,p6,p7,p8,pz⟩:=N6.lk;have bN:=j3 G5;have F4:=j3 B8;have o8:=j3 dI;have F5:=j3 A9;have uK:=j3 s9;have nA:=A5.lt;have uU:¬rb=w2.heap.size:=(by omega);have mQ:¬w2.heap.size=rb:=(by omega);have tW:=A5.c8;clear A3 A5 N6 G5 B8 dI A9 s9 kQ)|(go_at_call 215;refine(qp0 (q9 F4) 13 (X:=⟨#[69,83,67,65,80,69]⟩) rfl (by decide) (by decide) rfl).mono ?_;rintro e w'⟨rfl,hw'⟩;subst w';rw[jT])|(go_at_call 174;refine(q9 QF _).mono ?_;rintro e w6⟨rfl,b8,bU⟩;have lB:=j3 ((q9 K6 _).trans b8);have qH:=j3 bU;clear b8 bU))
     go_ret;exact⟨q9 lB,0,rfl,ho ▸ (q9 qH).more (by omega)⟩
  ·rw[jm4 k4 k13]
   have jT:((j4 s (j4 s st)).tk.kind==13)=false:=beq_eq_false_iff_ne.2 k13;go_enter func325,ntmps325
   go_wp2_with(first|(go_at_call 172;refine(qb4 (q9 H0) hs (by omega) (by omega)).mono ?_;rintro e w1⟨rfl,A0,A4⟩;have U9:=j3 ((q9 o7).kept A0);have dB:=j3 ((q9 lE).kept A0);have D8:=j3 ((q9 Z8).trans A0);have D5:=j3 A4;clear A0 A4)|(go_at_call 344;refine(vy3 (q9 D5) hs k4).mono ?_;rintro e w2⟨rfl,A3,A5⟩;have N6:=(q9 U9).kept A3;have aC:=N6.lt;have G5:VN (lkW w2 w.heap.size 3 (BS (j4 s st).tk.str) (lkT 4 (j4 s st).place (j4 s st).after (BS (j4 s st).tk.str) (tkN (j4 s st)))) rb w.heap.size 241 (lkN st.place g (BS (j4 s st).tk.str) ⟨#[]⟩ neg):=(N6.set 3 _).alloc (by simpa using A5.lt) _;have B8:RT (lkW w2 w.heap.size 3 (BS (j4 s st).tk.str) (lkT 4 (j4 s st).place (j4 s st).after (BS (j4 s st).tk.str) (tkN (j4 s st)))) rb s (ns++new) (j+1+1) (j4 s (j4 s st)):=(N6.rt (by decide) (by decide) A5 3 _).alloc _;have dI:VN (lkW w2 w.heap.size 3 (BS (j4 s st).tk.str) (lkT 4 (j4 s st).place (j4 s st).after (BS (j4 s st).tk.str) (tkN (j4 s st)))) rb g 3 #[.int .i64 i0]:=(((q9 dB).kept A3).setB (by omega) n0 3 _).alloc (by simpa using A5.lt) _;have A9:TKept rb w (lkW w2 w.heap.size 3 (BS (j4 s st).tk.str) (lkT 4 (j4 s st).place (j4 s st).after (BS (j4 s st).tk.str) (tkN (j4 s st)))):=((((q9 D8).trans A3).far A1 (p:=⟨w.heap.size,3,none⟩) (Nat.le_refl _) _).alloc A1 _);have s9:VN (lkW w2 w.heap.size 3 (BS (j4 s st).tk.str) (lkT 4 (j4 s st).place (j4 s st).after (BS (j4 s st).tk.str) (tkN (j4 s st)))) rb w2.heap.size 235 (lkT 4 (j4 s st).place (j4 s st).after (BS (j4 s st).tk.str) (tkN (j4 s st))):=VN.new (N6.rt (by decide) (by decide) A5 3 _) _ _ (by simp);have kQ:=B8.c8;obtain⟨p0,p1,p2,p3,p4,p5,p6,p7,p8,pz⟩:=N6.lk;have bN:=j3 G5;have F4:=j3 B8;have o8:=j3 dI;have F5:=j3 A9;have uK:=j3 s9;have nA:=A5.lt;have uU:¬rb=w2.heap.size:=(by omega);have mQ:¬w2.heap.size=rb:=(by omega);have tW:=A5.c8;clear A3 A5 N6 G5 B8 dI A9 s9 kQ)|(go_at_call 215;refine(qp0 (q9 F4) 13 (X:=⟨#[69,83,67,65,80,69]⟩) rfl (by decide) (by decide) rfl).mono ?_;rintro e w'⟨rfl,hw'⟩;subst w';rw[jT])|(go_at_call 216;refine(je0 (q9 F4) hs ⟨22,st.place,0,(j4 s st).tk.str,[],[]⟩ rfl [i0] neg rfl rfl rfl (.inr ⟨g,1,#[.int .i64 i0],(0,0),rfl,(q9 o8).past,(q9 o8).blk,(q9 o8).no,λj u hu=>by simpa [vb2]using hu⟩) (RowOf.no _ _ _)).mono ?_;rintro e w9⟨rfl,aA,p9⟩;have fH:=j3 ((q9 F5).trans aA);have fB:=j3 p9;clear aA p9))
   go_ret;refine⟨q9 fH,new++[qi5 ⟨22,st.place,0,(j4 s st).tk.str,[],[]⟩ [ns.length+new.length - 1] neg],qg3 (by simp), ?_,ho,by omega, ?_⟩
   ·have:=q9 fB
    rw[List.append_assoc,q9 Z9]at this;exact this.less (by omega)
   ·cases neg with
    | false=>exact Flat.un _ (q9 K0)
    | true=>exact Flat.neg1 _ _ (.inr (.inl rfl)) (q9 K0)
 ·rw[likeR_no k4]
  go_enter func325,ntmps325
  go_wp2_with(first|(go_at_call 172;refine(qb4 (q9 H0) hs (by omega) (by omega)).mono ?_;rintro e w1⟨rfl,A0,A4⟩;have U9:=j3 ((q9 o7).kept A0);have dB:=j3 ((q9 lE).kept A0);have D8:=j3 ((q9 Z8).trans A0);have D5:=j3 A4;clear A0 A4)|(go_at_call 344;refine(rtext_no (q9 D5) hs k4).mono ?_;rintro e w2⟨rfl,A3,A5⟩;have N6:=(q9 U9).kept A3;have aC:=N6.lt;have G5:VN (lkW w2 w.heap.size 3 (BS (tkS (j4 s st))) (lkT (rK (j4 s st).tk.kind) (j4 s st).place (tkZ (j4 s st)) (BS (tkS (j4 s st))) (tkN (j4 s st)))) rb w.heap.size 241 (lkN st.place g (BS (tkS (j4 s st))) ⟨#[]⟩ neg):=(N6.set 3 _).alloc (by simpa using A5.lt) _;have B8:RE (lkW w2 w.heap.size 3 (BS (tkS (j4 s st))) (lkT (rK (j4 s st).tk.kind) (j4 s st).place (tkZ (j4 s st)) (BS (tkS (j4 s st))) (tkN (j4 s st)))) rb s 2 (j4 s st).place (j4 s st).op 200:=(N6.re (by decide) (by decide) A5 3 _).alloc _;have dI:VN (lkW w2 w.heap.size 3 (BS (tkS (j4 s st))) (lkT (rK (j4 s st).tk.kind) (j4 s st).place (tkZ (j4 s st)) (BS (tkS (j4 s st))) (tkN (j4 s st)))) rb g 3 #[.int .i64 i0]:=(((q9 dB).kept A3).setB (by omega) n0 3 _).alloc (by simpa using A5.lt) _;have A9:TKept rb w (lkW w2 w.heap.size 3 (BS (tkS (j4 s st))) (lkT (rK (j4 s st).tk.kind) (j4 s st).place (tkZ (j4 s st)) (BS (tkS (j4 s st))) (tkN (j4 s st)))):=((((q9 D8).trans A3).far A1 (p:=⟨w.heap.size,3,none⟩) (Nat.le_refl _) _).alloc A1 _);have s9:VN (lkW w2 w.heap.size 3 (BS (tkS (j4 s st))) (lkT (rK (j4 s st).tk.kind) (j4 s st).place (tkZ (j4 s st)) (BS (tkS (j4 s st))) (tkN (j4 s st)))) rb w2.heap.size 235 (lkT (rK (j4 s st).tk.kind) (j4 s st).place (tkZ (j4 s st)) (BS (tkS (j4 s st))) (tkN (j4 s st))):=VN.newE (N6.re (by decide) (by decide) A5 3 _) _ _ (by simp);have kQ:=B8.c8;obtain⟨kQ,dJ⟩:=kQ;obtain⟨p0,p1,p2,p3,p4,p5,p6,p7,p8,pz⟩:=N6.lk;have bN:=j3 G5;have F4:=j3 B8;have o8:=j3 dI;have F5:=j3 A9;have uK:=j3 s9;have nA:=A5.lt;have uU:¬rb=w2.heap.size:=(by omega);have mQ:¬w2.heap.size=rb:=(by omega);have tW:=A5.c8;obtain⟨tW,_⟩:=tW;clear A3 A5 N6 G5 B8 dI A9 s9 kQ)|(go_at_call 215;refine(ris_re (q9 F4) (by decide)).mono ?_;rintro e w'⟨rfl,hw'⟩;subst w')|(go_at_call 216;refine(vf5 (q9 F4) (by omega) [i0] [] neg (.inr ⟨g,1,#[.int .i64 i0],(0,0),rfl,(q9 o8).past,(q9 o8).blk,(q9 o8).no,λj u hu=>by simpa [vb2]using hu⟩) (RowOf.no _ _ _)).mono ?_;rintro e w9⟨i9,rfl,aA,p9⟩;have fH:=j3 ((q9 F5).trans aA);have fB:=j3 p9;clear aA p9))
  go_ret;exact⟨q9 fH,i9,rfl,ho ▸ (q9 fB).more (by omega)⟩
end
section
def RD(w:World)(rb:Nat)(s:ByteArray)(pl:Int)(op m lo:Nat):Prop:=
 ∃(ns:List RN) (nv:Value) (st:St),TrC w rb nv s (rK st.tk.kind) st.place (tkZ st) (BS (tkS st)) (tkN st) op 0 0/\NodesAt w rb nv ns/\(st.tk.kind=11\/st.tk.kind=12)/\(st.place:Int)=pl/\ns.length<=m/\lo<=st.place/\st.place<=s.size
def RX(w:World)(rb:Nat)(s:ByteArray)(en pl:Int)(op m lo:Nat):Prop:=RE w rb s en pl op m\/(en=2/\RD w rb s pl op m lo)
section
variable {w w':World} {rb:Nat} {s:ByteArray} {en pl:Int} {op m lo:Nat}
theorem RX.lt(h:RX w rb s en pl op m lo):rb<w.heap.size:=by
 rcases h with h|⟨_,ns,nv,st,h,_⟩
 ·exact h.lt
 ·exact h.lt
theorem RX.more{m' lo':Nat}(h:RX w rb s en pl op m lo)(hm:m<=m')(hl:lo'<=lo):RX w rb s en pl op m' lo':=by
 rcases h with h|⟨e,ns,nv,st,h1,h2,h3,h4,h5,h6,h7⟩
 ·exact .inl (h.more hm)
 ·exact .inr ⟨e,ns,nv,st,h1,h2,h3,h4,by omega,by omega,h7⟩
theorem RX.alloc(h:RX w rb s en pl op m lo)(o:Obj):RX (w.alloc o) rb s en pl op m lo:=by
 rcases h with h|⟨e,ns,nv,st,h1,h2,h3⟩
 ·exact .inl (h.alloc o)
 ·exact .inr ⟨e,ns,nv,st,h1.alloc o,h2.below h1.lt ((Below.refl _ _).alloc (Nat.le_refl _) o),h3⟩
theorem RX.fresh(h:RX w rb s en pl op m lo)(o:Obj):¬vb1 (w.alloc o) rb w.heap.size:=by
 rcases h with h|⟨e,ns,nv,st,h1,h2,h3⟩
 ·exact h.fresh o
 ·exact h2.fresh h1.c0 h1.lt o
theorem RX.c7(h:RX w rb s en pl op m lo):w.cell? ⟨rb,7,none⟩=some (.int .i64 op)/\∀i,w.frozen? ⟨rb,i,none⟩=false:=by
 rcases h with h|⟨e,ns,nv,st,h1,_⟩
 ·exact h.c7
 ·exact⟨h1.c7,h1.fz⟩
theorem RX.setOp(h:RX w rb s en pl op m lo)(n:Nat)(o:Int)(ho:o=n):RX (w.setCell ⟨rb,7,none⟩ (.int .i64 o)) rb s en pl n m lo/\TKept rb w (w.setCell ⟨rb,7,none⟩ (.int .i64 o)):=by
 rcases h with h|⟨e,ns,nv,st,hT,hN,h3⟩
 ·exact⟨.inl (h.setOp n o ho).1,(h.setOp n o ho).2⟩
 ·subst ho
  have hK:=(Kept.refl rb w).setCell 7 (.int .i64 n);have G7:=hT.setOp n;exact⟨.inr ⟨e,ns,nv,st,G7,hN.kept (hT.c0.trans G7.c0.symm) hK,h3⟩,TKept.of_kept hK (G7.c0.trans hT.c0.symm)⟩
theorem radd_rx(h:RX w rb s en pl op m lo)(hm:m<=1000)(x:RN){iv lv:Value}(aB:RowOf w rb 3 iv (vb2 x.ins))(t8:RowOf w rb 9 lv (qa1 x.texts)):
  Calls prog 216 #[.pointer (some ⟨rb,0,none⟩),rnV x iv lv] w λe w'=>∃i:Nat,e=.returned (.int .i64 i)/\TKept rb w w'/\RX w' rb s en pl op (m+1) lo:=by
 rcases h with h|⟨e,ns,nv,st,hT,hN,h3,h4,h5,h6,h7⟩
 ·refine(vx2 h hm x aB t8).mono ?_
  rintro e w'⟨i,rfl,hk,hr⟩;exact⟨i,rfl,hk,.inl hr⟩
 ·refine(vc5 hT hN x aB t8 (by omega)).mono ?_
  rintro e' w'⟨rfl,hK,nv',G7,kP⟩;exact⟨ns.length,rfl,hK,.inr ⟨e,_,nv',st,G7,kP,h3,h4,by simp;omega,h6,h7⟩⟩
theorem jx6(h:RX w rb s en pl op m lo)(hm:m<=1000)(N:List UInt8)(a:Int)(i:Nat){NB:ByteArray}(hN:BS N=NB){g:Nat}(hg:g=w.heap.size):
  Calls prog 216 #[.pointer (some ⟨rb,0,none⟩),.agg #[.string NB,.int .i64 a,.slice (some ⟨g,0,none⟩) 1 1,.string ⟨#[]⟩,.string ⟨#[]⟩,.slice none 0 0,.int .i64 0,.bool false,.int .i64 0]] (w.alloc (.cells #[.int .i64 i] 3))
   λe w'=>∃i:Nat,e=.returned (.int .i64 i)/\TKept rb w w'/\RX w' rb s en pl op (m+1) lo:=by
 subst hN hg;refine(radd_rx (h.alloc (.cells #[.int .i64 i] 3)) hm ⟨N,a,[i],[],[],[],0,false,0⟩ (iv:=.slice (some ⟨w.heap.size,0,none⟩) 1 1) (lv:=.slice none 0 0) (RowOf.made h.lt h.fresh _ _ 1 rfl) (RowOf.no _ _ _)).mono ?_;rintro e w'⟨k,rfl,hk,hr⟩;exact⟨k,rfl,qf3 h.lt hk,hr⟩
theorem vn8(h:RX w rb s en pl op m lo)(hm:m<=1000)(N:List UInt8)(a:Int)(i k:Nat){NB:ByteArray}(hN:BS N=NB){g:Nat}(hg:g=w.heap.size):
  Calls prog 216 #[.pointer (some ⟨rb,0,none⟩),.agg #[.string NB,.int .i64 a,.slice (some ⟨g,0,none⟩) 2 2,.string ⟨#[]⟩,.string ⟨#[]⟩,.slice none 0 0,.int .i64 0,.bool false,.int .i64 0]] (w.alloc (.cells #[.int .i64 i,.int .i64 k] 3))
   λe w'=>∃i:Nat,e=.returned (.int .i64 i)/\TKept rb w w'/\RX w' rb s en pl op (m+1) lo:=by
 subst hN hg;refine(radd_rx (h.alloc (.cells #[.int .i64 i,.int .i64 k] 3)) hm ⟨N,a,[i,k],[],[],[],0,false,0⟩ (iv:=.slice (some ⟨w.heap.size,0,none⟩) 2 2) (lv:=.slice none 0 0) (RowOf.made h.lt h.fresh _ _ 2 rfl) (RowOf.no _ _ _)).mono ?_;rintro e w'⟨k,rfl,hk,hr⟩;exact⟨k,rfl,qf3 h.lt hk,hr⟩
theorem rmust_rx(h:RX w rb s en pl op m lo)(c:Int){kind:Int}{X:ByteArray}(hX:kwT c=X.data.toList)(h5:5<=c)(h28:c<=28)(hk:rK c=kind)(L6:c≠11)(F9:c≠12):
  Calls prog 343 #[.pointer (some ⟨rb,0,none⟩),.int .i64 kind,.string X] w λe w'=>e=.returned (.tuple #[])/\TKept rb w w'/\RE w' rb s en pl op m:=by
 rcases h with h|⟨e,ns,nv,st,hT,hN,h3,h4,NZ,h6,h7⟩
 ·exact vy0 h (by rw[←hk];unfold rK;rw[if_neg (by omega)];split<;>decide)
 ·have hi:=isK (st:=st) hX h5 h28 kind hk
  rw[show(st.tk.kind==c)=false from beq_eq_false_iff_ne.2 (by omega)]at hi;subst e h4;refine(vx9 hT kind X hi).mono ?_;rintro e w'⟨rfl,G7,hK⟩;exact⟨rfl,TKept.of_kept hK (G7.c0.trans hT.c0.symm),nv,_,ns,G7,by decide,hN.kept (hT.c0.trans G7.c0.symm) hK,NZ⟩
theorem RD.is(h:RD w rb s pl op m lo)(c:Int){kind:Int}{X:ByteArray}(hX:kwT c=X.data.toList)(h5:5<=c)(h28:c<=28)(hk:rK c=kind)(L6:c≠11)(F9:c≠12):
  Calls prog 215 #[.pointer (some ⟨rb,0,none⟩),.int .i64 kind,.string X] w λe w'=>e=.returned (.bool false)/\w'=w:=by
 obtain⟨ns,nv,st,hT,hN,h3,_⟩:=h;have:=qx0 hT kind X;rwa [isK hX h5 h28 kind hk,show(st.tk.kind==c)=false from beq_eq_false_iff_ne.2 (by omega)]at this
theorem RD.c8(h:RD w rb s pl op m lo):w.cell? ⟨rb,8,none⟩=some (.int .i64 0):=by obtain⟨ns,nv,st,hT,_⟩:=h;exact hT.c8
theorem meT_rx{n:Nat}(h:RX w rb s en pl op m lo)(hn:n<lo)(hs:n<=s.size):meT s w rb<s.size+2 - n:=by
 rcases h with h|⟨e,ns,nv,st,hT,hN,h3,h4,h5,h6,h7⟩
 ·rw[jc7 h];omega
 ·have h3:=hT.c3
  have h8:=hT.c8;unfold meT plT;rw[h8,h3];simp;omega
end
def DEnds(rb:Nat)(s:ByteArray)(w:World)(op m:Nat)(ns:List RN)(j lo:Nat)(r:Res)(e:Ending)(w':World):Prop:=
 TKept rb w w'/\match r with
 | .ok t st=>∃new,e=.returned (.int .i64 ((ns.length+new.length - 1:Nat):Int))/\RT w' rb s (ns++new) j st/\st.op=op/\lo<=st.place/\Flat t ns.length new
 | .err en pl=>∃i:Nat,e=.returned (.int .i64 i)/\RX w' rb s en pl op m lo
def DReads(K:Nat)(rb:Nat)(s:ByteArray)(op m:Nat)(f:St->Res):Prop:=
 ∀(w:World) (st:St) (ns:List RN) (j:Nat),RT w rb s ns j st->st.op=op->Calls prog K #[.pointer (some ⟨rb,0,none⟩)] w (DEnds rb s w op m ns j st.place (f st))
theorem DEnds.more{rb:Nat}{s:ByteArray}{w w':World}{op m m':Nat}{ns:List RN}{j lo lo':Nat}{r:Res}{e:Ending}(h:DEnds rb s w op m ns j lo r e w')(hm:m<=m')(hl:lo'<=lo):DEnds rb s w op m' ns j lo' r e w':=by
 obtain⟨hk,h⟩:=h;refine⟨hk, ?_⟩
 cases r with
 | ok t st=>obtain⟨new,h1,h2,h3,h4,h5⟩:=h;exact⟨new,h1,h2,h3,by omega,h5⟩
 | err en pl=>obtain⟨i,h1,h2⟩:=h;exact⟨i,h1,h2.more hm hl⟩
theorem DReads.more{K rb:Nat}{s:ByteArray}{op m m':Nat}{f:St->Res}(h:DReads K rb s op m f)(hm:m<=m'):DReads K rb s op m' f:=λw st ns j hr ho=>(h w st ns j hr ho).mono λ_ _ hE=>hE.more hm (Nat.le_refl _)
theorem REnds.d{rb:Nat}{s:ByteArray}{w w':World}{op m:Nat}{ns:List RN}{j lo:Nat}{r:Res}{e:Ending}(h:REnds rb s w op m ns j lo r e w'):DEnds rb s w op m ns j lo r e w':=by
 obtain⟨hk,h⟩:=h;refine⟨hk, ?_⟩
 cases r with
 | ok t st=>exact h
 | err en pl=>obtain⟨i,h1,h2⟩:=h;exact⟨i,h1,.inl h2⟩
theorem qp8(k a z:Int)(S:ByteArray)(n:Int)(w:World):
  Calls prog 321 #[.agg #[.int .i64 k,.int .i64 a,.int .i64 z,.string S,.int .i64 n]] w λe w'=>e=.returned (.bool (k==5&&(S.toList==[61]||S.toList==[60,62]||S.toList==[60]||S.toList==[60,61]||S.toList==[62]||S.toList==[62,61])))/\Below w.heap.size w w':=by
 have hb:∀o,Below w.heap.size w (w.alloc o):=λo=>(Below.refl _ _).alloc (Nat.le_refl _) o
 by_cases hk:k=5
 ·subst hk
  go_enter func321,ntmps321
  go_wp2_with fail
  all_goals(go_ret;refine⟨qn4 ?_,hb _⟩;simp_all)
 ·have l8:(k==5)=false:=beq_eq_false_iff_ne.2 hk
  go_enter func321,ntmps321
  go_wp2_with fail
  all_goals(go_ret;exact⟨by rw[l8];rfl,hb _⟩)
theorem qt6(st:St):(rK st.tk.kind==5&&((BS (tkS st)).toList==[61]||(BS (tkS st)).toList==[60,62]||(BS (tkS st)).toList==[60]||(BS (tkS st)).toList==[60,61]||(BS (tkS st)).toList==[62]||(BS (tkS st)).toList==[62,61]))=decide (16<=st.tk.kind/\st.tk.kind<=21):=by
 have i (c:Int) (X:List UInt8) (hX:kwT c=X) (h5:16<=c) (h28:c<=28):(rK st.tk.kind==5&&((BS (tkS st)).toList==X))=(st.tk.kind==c):=by
  have:=isK (st:=st) (c:=c) (X:=BS X) (by rw[qp4];exact hX) (by omega) h28 5 (by unfold rK;rw[if_neg (by omega),if_neg (by omega)]);rwa [qc9 X]at this
 rw[Bool.and_or_distrib_left,Bool.and_or_distrib_left,Bool.and_or_distrib_left,Bool.and_or_distrib_left,Bool.and_or_distrib_left,i 16 [61] rfl (by decide) (by decide),i 17 [60,62] rfl (by decide) (by decide),i 18 [60] rfl (by decide) (by decide),i 19 [60,61] rfl (by decide) (by decide),i 20 [62] rfl (by decide) (by decide),i 21 [62,61] rfl (by decide) (by decide)];rw[Bool.eq_iff_iff];simp only[Bool.or_eq_true,beq_iff_eq,decide_eq_true_eq];omega
end
end Go.Proofs.YtfkcaldjphakpaaGreatDoor
