/- The document's answer: IN. The document's answer: is it a whole pattern? The document's answer: LIKE. The document's answer: a reader that stands at a keyword that cannot come. -/
import Derived.Test.YtfkcaldjphakpaaGreatDoorM23
import Derived.Test.YtfkcaldjphakpaaGreatDoorM06
set_option maxHeartbeats 16000000
set_option maxRecDepth 100000
namespace Go.Proofs.YtfkcaldjphakpaaGreatDoor
open Go.RowKit
section
attribute [local go_sem ↓] qj6
theorem TrC.blk {w w':World} {rb:Nat} {nv:Value} {s:ByteArray} {k a z:Int} {S:ByteArray} {n op er at':Int} (h:TrC w rb nv s k a z S n op er at') (hb:w'.heap[rb]?=w.heap[rb]?):TrC w' rb nv s k a z S n op er at':=by
 have hc:∀j,w'.cell? ⟨rb,j,none⟩=w.cell? ⟨rb,j,none⟩:=fun j=>World.cell?_of_block (w:=w) (w':=w') (a:=⟨rb,j,none⟩) hb
 have hf:∀j,w'.frozen? ⟨rb,j,none⟩=w.frozen? ⟨rb,j,none⟩:=fun j=>World.frozen?_of_block (w:=w) (w':=w') (a:=⟨rb,j,none⟩) hb
 exact ⟨World.block_lt_of_cell? w' ⟨rb,0,none⟩ ((hc 0).trans h.c0),(hc _).trans h.c0,(hc _).trans h.c1,(hc _).trans h.c2,(hc _).trans h.c3,(hc _).trans h.c4,(hc _).trans h.c5,(hc _).trans h.c6,(hc _).trans h.c7,(hc _).trans h.c8,(hc _).trans h.c9,fun j=>(hf j).trans (h.fz j)⟩
theorem AT.blk {w w':World} {rb:Nat} {nv:Value} {s:ByteArray} {op:Nat} {x:PS} (h:AT w rb nv s op x) (hb:w'.heap[rb]?=w.heap[rb]?):AT w' rb nv s op x:=by
 cases x with
 | st x=>exact ⟨h.1.blk hb,h.2⟩
 | er en pl=>obtain ⟨he,a,h⟩:=h;exact ⟨he,a,h.blk hb⟩
theorem meT_st {w:World} {rb:Nat} {nv:Value} {s:ByteArray} {op:Nat} {y:St} (h:AT w rb nv s op (.st y)):meT s w rb=s.size+2 - y.place:=by
 have h3:=h.1.c3
 have h8:=h.1.c8
 unfold meT plT;rw [h8,h3];simp
theorem meT_er {w:World} {rb:Nat} {nv:Value} {s:ByteArray} {op:Nat} {en pl:Int} (h:AT w rb nv s op (.er en pl)):meT s w rb=0:=by
 obtain ⟨he,a,h⟩:=h
 unfold meT;rw [h.c8];simp only;rw [if_neg he]
theorem tis {w:World} {rb:Nat} {nv:Value} {s:ByteArray} {op:Nat} {y:St} (h:AT w rb nv s op (.st y)) (c:Int) {kind:Int} {X:ByteArray} (hX:kwT c=X.data.toList) (h5:5≤c) (h28:c≤28) (hk:rK c=kind) :
  Calls Tryz.prog 215 #[.pointer (some ⟨rb,0,none⟩),.int .i64 kind,.string X] w fun e w'=>e=.returned (.bool (y.tk.kind==c))∧w'=w:=by
 have:=qu9 h.1 kind X
 rwa [isK hX h5 h28 kind hk] at this
def vq6 (s:ByteArray) (l:Ast) (pl lo:Nat) (R:Res) (ts:List (List UInt8)) (n:Nat):PS→Prop
 | .st sl=>R=qf5 s l pl n ts sl∧s.size<n+sl.place∧ts.length≤sl.place∧lo<sl.place
 | .er en p=>R=.err en p∧ts.length≤300
def InAt (W:World) (rb L Tb:Nat) (cs:Value→Array Value) (nv:Value) (s:ByteArray) (op:Nat) (l:Ast) (pl:Nat) (R:Res) (wr:World):Prop:=
 ∃x lv ts n,AmV W rb L Tb cs lv ts wr∧AT wr rb nv s op x∧vq6 s l pl pl R ts n x
theorem In_len {s:ByteArray} {l:Ast} {pl lo:Nat} {R:Res} {ts:List (List UInt8)} {n:Nat} {x:PS} {w:World} {rb:Nat} {nv:Value} {op:Nat} (hs:s.size≤200) (h:AT w rb nv s op x) (hr:vq6 s l pl lo R ts n x):ts.length≤300:=by
 cases x with
 | st y=>have:=h.2.1.place;have:=hr.2.2.1;omega
 | er en p=>exact hr.2
theorem In_first {s:ByteArray} {l:Ast} {st:St} (hF:Fine s st) (hk:st.tk.kind=11) {S:ByteArray} (hS:strP (vt2 s 26 (.st (j3 s st))) S):vq6 s l st.place st.place (qh5 s l st) ([]++[S.data.toList]) (s.size+1) (vq3 s (vt2 s 26 (.st (j3 s st)))):=by
 have h1:=qa7 s st hF.after
 have p1:=hF.step_place (by omega)
 unfold qh5
 by_cases k26:(j3 s st).tk.kind=26
 ·rw [vn1 k26] at hS ⊢
  rw [if_pos k26]
  have h2:=qa7 s _ h1.after
  have p2:=h1.step_place (by omega)
  by_cases k4:(j3 s (j3 s st)).tk.kind=4
  ·rw [ve7 k4,if_pos k4]
   have p3:=h2.step_place (by omega)
   have e:S.data.toList=(j3 s (j3 s st)).tk.str:=by
    rw [show S=BS (tkS (j3 s (j3 s st))) from hS,qr2]
    unfold tkS rS;rw [if_neg (by omega),if_pos (by omega)]
   rw [List.nil_append,e]
   exact ⟨rfl,by omega,by simp;omega,by omega⟩
  ·rw [ve6 k4,if_neg k4];exact ⟨rfl,by simp⟩
 ·rw [vn0 k26,if_neg k26];exact ⟨rfl,by simp⟩
theorem In_next {s:ByteArray} {l:Ast} {pl lo:Nat} {R:Res} {ts:List (List UInt8)} {n:Nat} {sl:St} (hs:s.size≤200) (hF:Fine s sl) (hk:sl.tk.kind=28) (h:vq6 s l pl lo R ts n (.st sl)) {S:ByteArray} (hS:strP (.st (j3 s sl)) S):∃n',vq6 s l pl lo R (ts++[S.data.toList]) n' (vq3 s (.st (j3 s sl))):=by
 obtain ⟨hR,hn,ht,hlo⟩:=h
 have hp:=hF.place
 obtain ⟨n',rfl⟩:∃n',n=n'+1:=⟨n - 1,by omega⟩
 have h1:=qa7 s sl hF.after
 have p1:=hF.step_place (by omega)
 by_cases k4:(j3 s sl).tk.kind=4
 ·have p2:=h1.step_place (by omega)
  have e:S.data.toList=(j3 s sl).tk.str:=by
   rw [show S=BS (tkS (j3 s sl)) from hS,qr2]
   unfold tkS rS;rw [if_neg (by omega),if_pos (by omega)]
  rw [ve7 k4,e]
  exact ⟨n',by rw [hR,vf3 hk k4],by omega,by simp;omega,by omega⟩
 ·rw [ve6 k4];exact ⟨0,by rw [hR,vj2 hk k4],by simp;omega⟩
theorem In_end {rb:Nat} {s:ByteArray} {op m:Nat} {l:Ast} {pl:Nat} {R:Res} {ts:List (List UInt8)} {n:Nat} {x:PS} (hs:s.size≤200) (hm:201≤m) {w w' wx:World} {nv nv':Value} {ns new:List RN} {j:Nat} {neg:Bool} {pl0:Int} {i0:Nat} (hi0:i0=ns.length+new.length - 1) (hfl:Flat l ns.length new) (hfew:(ns++new).length+j≤pl) (hpl:pl≤200)
  (hx:AT wx rb nv' s op x) (hr:vq6 s l pl pl R ts n x) (h28:∀y,x=.st y→¬y.tk.kind=28) (hk:TKept rb w w') (ha:AT w' rb nv s op (vt2 s 27 x)) (hN:NodesAt w' rb nv ((ns++new)++[qj5 ⟨21,pl,0,[],[],ts⟩ [i0] neg])) {v:Int} (hv:v=((ns++new).length:Nat)) :
  REnds rb s w op m ns j pl (negR neg pl0 R) (.returned (.int .i64 v)) w':=by
 subst hv
 refine ⟨hk, ?_⟩
 cases x with
 | er en p=>
  rw [show R=.err en p from hr.1]
  obtain ⟨he,a,hT⟩:=ha
  exact ⟨_,rfl,nv,a,_,hT,he,hN,by simp at hfew ⊢;omega⟩
 | st sl=>
  obtain ⟨hR,hn,ht,hlo⟩:=hr
  have hF:=hx.2.1
  have hp:=hF.place
  obtain ⟨n',rfl⟩:∃n',n=n'+1:=⟨n - 1,by omega⟩
  by_cases k27:sl.tk.kind=27
  ·rw [vn1 k27] at ha
   have p1:=hF.step_place (by omega)
   rw [show R=.ok (.un ⟨21,pl,0,[],[],ts⟩ l) (j3 s sl) by rw [hR,vj3 (h28 sl rfl) k27]]
   obtain ⟨hT,hF',ho⟩:=ha
   rw [List.append_assoc] at hN
   refine ⟨new++[qj5 ⟨21,pl,0,[],[],ts⟩ [i0] neg],qg5 (by simp),⟨nv, ?_,hN,hF',by simp at hfew ⊢;omega⟩,ho,by omega, ?_⟩
   ·rw [ho];exact hT
   ·subst hi0
    cases neg with
    | false=>exact Flat.un _ hfl
    | true=>exact Flat.neg1 _ _ (.inl rfl) hfl
  ·rw [vn0 k27] at ha
   rw [show R=.err 2 sl.place by rw [hR,vf4 (h28 sl rfl) k27]]
   obtain ⟨he,a,hT⟩:=ha
   exact ⟨_,rfl,nv,a,_,hT,he,hN,by simp at hfew ⊢;omega⟩
theorem In_meas {s:ByteArray} {sl:St} (hF:Fine s (j3 s sl)) (hsp:sl.place<(j3 s sl).place) (hfp:(j3 s sl).place≤s.size) {w:World} {rb:Nat} {nv:Value} {op:Nat} (h:AT w rb nv s op (vq3 s (.st (j3 s sl)))):meT s w rb<s.size+2 - sl.place:=by
 by_cases k4:(j3 s sl).tk.kind=4
 ·rw [ve7 k4] at h
  rw [meT_st h]
  have h2:=qf8 s (j3 s sl)
  have h3:=hF.long (by omega)
  have hf:=h.2.1.place
  omega
 ·rw [ve6 k4] at h;rw [meT_er h];omega
theorem vv3 {w:World} {B rb n:Nat} {lv:Value} {ts:List (List UInt8)} (ho:w.ownsRow B 9 1 lv n (qa0 ts)) (hB:rb<B) (hn:∀k,B≤k→¬qy2 w rb k):RowOf w rb 9 lv (qa0 ts):=by
 have ho':=ho
 obtain ⟨hl,hx|⟨g,cap,cur,rfl,hbg,_⟩⟩:=ho
 ·obtain ⟨rfl,rfl⟩:=hx
  rw [List.eq_nil_of_length_eq_zero (by omega:(qa0 ts).length=0)]
  exact RowOf.no _ _ _
 ·exact own_row ho' hB (hn g hbg)
theorem vj5 (rb:Nat) (s:ByteArray) (hs:s.size≤200) (op m:Nat) (hm:201≤m) (w:World) (st:St) (ns new:List RN) (j:Nat) (l:Ast) (h:RT w rb s (ns++new) j st) (ho:st.op=op) (hk:st.tk.kind=11) (hfl:Flat l ns.length new) (i0:Nat) (hi0:i0=ns.length+new.length - 1) (g:Nat) (hg:VN w rb g 3 #[.int .i64 i0]) (neg:Bool) (pl0:Int) :
  Calls Tryz.prog 324 #[.pointer (some ⟨rb,0,none⟩),.agg #[.string ⟨#[]⟩,.int .i64 st.place,.slice (some ⟨g,0,none⟩) 1 1,.string ⟨#[]⟩,.string ⟨#[]⟩,.slice none 0 0,.int .i64 0,.bool neg,.int .i64 0]] w (REnds rb s w op m ns j st.place (negR neg pl0 (qh5 s l st))):=by
 have hlt:=h.lt
 have n0:¬w.heap.size=rb:=by omega
 have n1:¬rb=w.heap.size:=by omega
 have hglt:=hg.lt
 have hV0:VN (w.alloc (.cells #[.string ⟨#[73,78]⟩,.int .i64 st.place,.slice (some ⟨g,0,none⟩) 1 1,.string ⟨#[]⟩,.string ⟨#[]⟩,.slice none 0 0,.int .i64 0,.bool neg,.int .i64 0] 241)) rb w.heap.size 241 #[.string ⟨#[73,78]⟩,.int .i64 st.place,.slice (some ⟨g,0,none⟩) 1 1,.string ⟨#[]⟩,.string ⟨#[]⟩,.slice none 0 0,.int .i64 0,.bool neg,.int .i64 0]:=VN.new h _ _ rfl
 have hK0:TKept rb w (w.alloc (.cells #[.string ⟨#[73,78]⟩,.int .i64 st.place,.slice (some ⟨g,0,none⟩) 1 1,.string ⟨#[]⟩,.string ⟨#[]⟩,.slice none 0 0,.int .i64 0,.bool neg,.int .i64 0] 241)):=(TKept.refl rb w).alloc hlt _
 have hG0:VN (w.alloc (.cells #[.string ⟨#[73,78]⟩,.int .i64 st.place,.slice (some ⟨g,0,none⟩) 1 1,.string ⟨#[]⟩,.string ⟨#[]⟩,.slice none 0 0,.int .i64 0,.bool neg,.int .i64 0] 241)) rb g 3 #[.int .i64 i0]:=hg.alloc hlt _
 have hR0:RowOf (w.alloc (.cells #[.string ⟨#[73,78]⟩,.int .i64 st.place,.slice (some ⟨g,0,none⟩) 1 1,.string ⟨#[]⟩,.string ⟨#[]⟩,.slice none 0 0,.int .i64 0,.bool neg,.int .i64 0] 241)) rb 3 (.slice (some ⟨g,0,none⟩) 1 1) (qy3 [i0]):=.inr ⟨g,1,#[.int .i64 i0],(0,0),rfl,hG0.past,hG0.blk,hG0.no,fun j u hu=>by simpa [qy3] using hu⟩
 have hfew:=h.few
 have hfine:=h.fine
 have hfp:=hfine.place
 have h0:=h.alloc (.cells #[.string ⟨#[73,78]⟩,.int .i64 st.place,.slice (some ⟨g,0,none⟩) 1 1,.string ⟨#[]⟩,.string ⟨#[]⟩,.slice none 0 0,.int .i64 0,.bool neg,.int .i64 0] 241)
 have how:=h0.own_lt
 obtain ⟨nv,hT0,hN0,_,_⟩:=h0
 have hA0:AT (w.alloc (.cells #[.string ⟨#[73,78]⟩,.int .i64 st.place,.slice (some ⟨g,0,none⟩) 1 1,.string ⟨#[]⟩,.string ⟨#[]⟩,.slice none 0 0,.int .i64 0,.bool neg,.int .i64 0] 241)) rb nv s op (.st st):=⟨by rw [←ho];exact hT0,hfine,ho⟩
 have hc0:=hT0.c0
 have hW:(w.alloc (.cells #[.string ⟨#[73,78]⟩,.int .i64 st.place,.slice (some ⟨g,0,none⟩) 1 1,.string ⟨#[]⟩,.string ⟨#[]⟩,.slice none 0 0,.int .i64 0,.bool neg,.int .i64 0] 241)).heap.size=w.heap.size+1:=by simp
 have EXT:∃W:World,W=(w.alloc (.cells #[.string ⟨#[73,78]⟩,.int .i64 st.place,.slice (some ⟨g,0,none⟩) 1 1,.string ⟨#[]⟩,.string ⟨#[]⟩,.slice none 0 0,.int .i64 0,.bool neg,.int .i64 0] 241)):=⟨_,rfl⟩
 obtain ⟨W,hWe⟩:=EXT
 rw [←hWe] at hV0 hK0 hR0 how hN0 hA0 hc0 hW
 have HWe:=j4 hWe
 have ST0:=j4 (tstep hA0 hs (by omega))
 rw [hWe] at ST0
 have HV0:=j4 hV0
 have HK0:=j4 hK0
 have HR0:=j4 hR0
 have HN0:=j4 hN0
 have HC0:=j4 hc0
 have HOW:=j4 how
 have HFL:=j4 hfl
 have HI0:=j4 hi0
 have HFN:=j4 hfine
 obtain ⟨R,hR⟩:∃r,qh5 s l st=r:=⟨_,rfl⟩
 have HRR:Hid (∀S,strP (vt2 s 26 (.st (j3 s st))) S→vq6 s l st.place st.place R ([]++[S.data.toList]) (s.size+1) (vq3 s (vt2 s 26 (.st (j3 s st))))):=j4 fun S hS=>hR ▸ In_first hfine hk hS
 rw [hR]
 obtain ⟨CSX,hCSX⟩:∃f:Value→Array Value,f=fun lv=>#[.string ⟨#[73,78]⟩,.int .i64 st.place,.slice (some ⟨g,0,none⟩) 1 1,.string ⟨#[]⟩,.string ⟨#[]⟩,lv,.int .i64 0,.bool neg,.int .i64 0]:=⟨_,rfl⟩
 have HCS:=j4 hCSX
 have hcs5:∀u v,(CSX u).setIfInBounds 5 v=CSX v:=by rw [hCSX];intro u v;rfl
 have HC5:=j4 hcs5
 clear h hT0 hV0 hK0 hG0 hR0 hg hN0 hA0 hc0 how hfl hi0 hfine hR hWe hCSX hcs5
 go_enter Tryz.func324,Tryz.ntmps324
 go_wp2_with (first|(go_at_call 172;refine (q9 ST0).mono ?_;rintro e w1 ⟨rfl,hk1,ha1⟩;have HK1:=j4 (by rw [←q9 HWe] at hk1;exact hk1:Kept rb W w1);have HA1:=j4 ha1;clear hk1 ha1)|(go_at_call 343;refine (tmust (q9 HA1) hs 26 rfl (by decide) (by decide) rfl).mono ?_;rintro e w2 ⟨rfl,hk2,ha2⟩;have HK2:=j4 ((q9 HK1).trans hk2);have HA2:=j4 ha2;clear hk2 ha2)|(go_at_call 344;refine (ttext (q9 HA2) hs).mono ?_;rintro e w3 ⟨tk,ta,tz,tS,tn,rfl,hk3,ha3,hS3⟩;have hK3:=(q9 HK2).trans hk3;have hz3:=hK3.size;have hB:=But.alloc (But.refl w.heap.size w3) (.cells #[.int .i64 tk,.int .i64 ta,.int .i64 tz,.string tS,.int .i64 tn] 235);have hAm:AmV W rb w.heap.size w3.heap.size CSX (.slice none 0 0) [] (w3.alloc (.cells #[.int .i64 tk,.int .i64 ta,.int .i64 tz,.string tS,.int .i64 tn] 235)):=⟨((Mid.refl rb w.heap.size W).kept hK3).but hB,(((Below.refl w3.heap.size w3).alloc (Nat.le_refl _) _).block _ (by omega)).trans ((hK3.block _ (by omega) n0).trans ((q9 HV0).blk.trans (by rw [q9 HCS]))),⟨tk,ta,tz,tS,tn,heap_alloc_new w3 _⟩,hz3,World.ownsRow_nil _ _ _ _⟩;have hAT:=ha3.blk (hB.block rb (by omega) n1);obtain ⟨g6,cap6,w6,hap6,hL6,hr6,hz6,hA6⟩:=hAm.app (by omega) (by omega) (q9 HC5) (by simp) tS;have hap6':(jg0 #[62,62] 62 #[.slice none 0 0,.slice (some ⟨w3.heap.size+1,0,none⟩) 1 1]).run Tryz.prog ((w3.alloc (.cells #[.int .i64 tk,.int .i64 ta,.int .i64 tz,.string tS,.int .i64 tn] 235)).alloc (.cells #[.string tS] 9))=.ok (.slice (some ⟨g6,0,none⟩) 1 cap6) w6:=(by have:=hap6;rw [World.size_alloc] at this;exact this);have p5:w3.cell? ⟨w.heap.size,5,none⟩=some (.slice none 0 0):=(World.cell?_of_block (w:=W) (w':=w3) (a:=⟨w.heap.size,5,none⟩) (hK3.block w.heap.size (by omega) n0)).trans ((q9 HV0).cell 5);have q5:w6.cell? ⟨w.heap.size,5,none⟩=some (.slice none 0 0):=((qs3 hL6).1 5).trans (by rw [q9 HCS];rfl);have qz:∀i,w6.frozen? ⟨w.heap.size,i,none⟩=false:=(qs3 hL6).2;have nLT:w.heap.size<w3.heap.size:=(by omega);have hHT6:=(hAT.blk (w':=w6) hr6).tr ((But.refl w.heap.size w6).set 5 (.slice (some ⟨g6,0,none⟩) 1 cap6)) n1;have HA6:=j4 hA6;have HT6:=j4 hHT6;have HSt:=j4 hS3;have hTbW:W.heap.size≤w3.heap.size:=hz3;clear hap6 hk3 ha3 hK3 hB hAm hAT hL6 hr6 hA6 hHT6 hS3))
 go_loopw [20] (fun _ wr=>Hid (InAt W rb w.heap.size w3.heap.size CSX nv s op l st.place R wr)) (fun _ wr=>meT s wr rb)
 case atStart=>exact j4 ⟨_,_,_,_,q9 HA6,q9 HT6,q9 HRR _ (q9 HSt)⟩
 case round=>
  obtain ⟨x,lv,ts,n,hav,hat,hrel'⟩:=q9 hrel
  have hlen:=In_len hs hat hrel'
  have hzw:=hav.mid.size
  have HAV:=j4 hav
  have HAT:=j4 hat
  have HRL:=j4 hrel'
  cases x with
  | er en pl=>
   have c8:wr.cell? ⟨rb,8,none⟩=some (.int .i64 en):=by obtain ⟨_,a,hT⟩:=hat;exact hT.c8
   have hen:(en==0)=false:=beq_eq_false_iff_ne.2 hat.1
   have H28:Hid (∀y,(PS.er en pl)=.st y→¬y.tk.kind=28):=j4 fun y e=>by cases e
   clear hav hat hrel' hrel HA6 HT6 HRR HSt
   go_wp2_with (first|(go_at_call 343;refine (tmust (q9 HAT) hs 27 rfl (by decide) (by decide) rfl).mono ?_;rintro e w7 ⟨rfl,hk7,ha7⟩;have hv7:=(q9 HAV).kept (by omega) (by omega) hk7;have hm7:=hv7.mid;have hr7:=hv7.row;obtain ⟨x7,z7⟩:=qs3 hv7.nb;rw [q9 HCS] at x7;have r0:w7.cell? ⟨w.heap.size,0,none⟩=some (.string ⟨#[73,78]⟩):=x7 0;have r1:w7.cell? ⟨w.heap.size,1,none⟩=some (.int .i64 st.place):=x7 1;have r2:w7.cell? ⟨w.heap.size,2,none⟩=some (.slice (some ⟨g,0,none⟩) 1 1):=x7 2;have r3:w7.cell? ⟨w.heap.size,3,none⟩=some (.string ⟨#[]⟩):=x7 3;have r4:w7.cell? ⟨w.heap.size,4,none⟩=some (.string ⟨#[]⟩):=x7 4;have r5:w7.cell? ⟨w.heap.size,5,none⟩=some (lv):=x7 5;have r6:w7.cell? ⟨w.heap.size,6,none⟩=some (.int .i64 0):=x7 6;have r7:w7.cell? ⟨w.heap.size,7,none⟩=some (.bool neg):=x7 7;have r8:w7.cell? ⟨w.heap.size,8,none⟩=some (.int .i64 0):=x7 8;have HM7:=j4 hm7;have HW7:=j4 hr7;have HA7:=j4 ha7;clear hk7 ha7 hv7 x7 z7 hm7 hr7)|(go_at_call 216;refine (tadd (q9 HA7) ((q9 HM7).nodes (q9 HC0) (q9 HA7).c0 (q9 HV0) (by decide) (by decide) (q9 HN0)) (by omega) ⟨21,st.place,0,[],[],ts⟩ rfl [i0] neg rfl rfl rfl ((q9 HM7).row (q9 HC0) (q9 HA7).c0 (q9 HV0) (by decide) (q9 HR0)) (vv3 (q9 HW7) (by omega) (fun k hk' ho'=>by have:=q9 HOW k ((je7 (q9 HC0) (q9 HA7).c0 k).1 ho');omega))).mono ?_;rintro e w8 ⟨rfl,hk8,nv8,ha8,hn8⟩;have HK8:=j4 (((q9 HK0).mid (q9 HM7) (q9 HC0) (q9 HA7).c0 (Nat.le_refl _)).trans hk8);have HA8:=j4 ha8;have HN8:=j4 hn8;clear hk8 ha8 hn8))
   go_ret
   exact In_end (new:=new) hs hm (q9 HI0) (q9 HFL) hfew (by omega) (q9 HAT) (q9 HRL) (q9 H28) (q9 HK8) (q9 HA8) (q9 HN8) (by simp)
  | st sl=>
   have c8:wr.cell? ⟨rb,8,none⟩=some (.int .i64 0):=hat.1.c8
   by_cases k28:sl.tk.kind=28
   ·have hq28:(sl.tk.kind==28)=true:=by rw [k28];rfl
    have hmu:=meT_st hat
    have hfs:=hat.2.1
    have hsp:=hfs.step_place (by omega)
    have HMU:=j4 hmu
    have hfp1:=(qa7 s sl hfs.after).place
    have HFS1:=j4 (qa7 s sl hfs.after)
    have HNX:Hid (∀S,strP (.st (j3 s sl)) S→∃n',vq6 s l st.place st.place R (ts++[S.data.toList]) n' (vq3 s (.st (j3 s sl)))):=j4 fun S hS=>In_next hs hfs k28 hrel' hS
    have hsp1:=hfs.place
    clear hav hat hrel' hrel HA6 HT6 HRR HSt hmu
    go_wp2_with (first|(go_at_call 215;refine (tis (q9 HAT) 28 (X:=⟨#[44]⟩) rfl (by decide) (by decide) rfl).mono ?_;rintro e w' ⟨rfl,hw'⟩;subst w';rw [hq28])|(go_at_call 172;refine (tstep (q9 HAT) hs (by omega)).mono ?_;rintro e w2x ⟨rfl,hk2,ha2⟩;have HAV2:=j4 ((q9 HAV).kept (by omega) (by omega) hk2);have HAT2:=j4 ha2;clear hk2 ha2)|(go_at_call 344;refine (ttext (q9 HAT2) hs).mono ?_;rintro e w3x ⟨tk,ta,tz,tS,tn,rfl,hk3,ha3,hS3⟩;have hv3:=(q9 HAV2).kept (by omega) (by omega) hk3;obtain ⟨k0,a0,z0,S0,m0,htb⟩:=hv3.tb;obtain ⟨y3,yz⟩:=qs3 htb;have y0:w3x.cell? ⟨w3.heap.size,0,none⟩=some (.int .i64 k0):=y3 0;have y1:w3x.cell? ⟨w3.heap.size,1,none⟩=some (.int .i64 a0):=y3 1;have y2:w3x.cell? ⟨w3.heap.size,2,none⟩=some (.int .i64 z0):=y3 2;have y4:w3x.cell? ⟨w3.heap.size,3,none⟩=some (.string S0):=y3 3;have y5:w3x.cell? ⟨w3.heap.size,4,none⟩=some (.int .i64 m0):=y3 4;have l5:w3x.cell? ⟨w.heap.size,5,none⟩=some lv:=((qs3 hv3.nb).1 5).trans (by rw [q9 HCS];rfl);have hv4:=hv3.tok (by omega) tk ta tz tS tn;obtain ⟨g6x,cap6x,w6x,hap6x,hL6,hr6,hz6x,hA6⟩:=hv4.app (by omega) (by omega) (q9 HC5) (by omega) tS;simp only [size_setCell] at hap6x;have q5x:w6x.cell? ⟨w.heap.size,5,none⟩=some lv:=((qs3 hL6).1 5).trans (by rw [q9 HCS];rfl);have qzx:∀i,w6x.frozen? ⟨w.heap.size,i,none⟩=false:=(qs3 hL6).2;have hTbr:¬rb=w3.heap.size:=(by omega);have hAT4:AT (((((w3x.setCell ⟨w3.heap.size,0,none⟩ (.int .i64 tk)).setCell ⟨w3.heap.size,1,none⟩ (.int .i64 ta)).setCell ⟨w3.heap.size,2,none⟩ (.int .i64 tz)).setCell ⟨w3.heap.size,3,none⟩ (.string tS)).setCell ⟨w3.heap.size,4,none⟩ (.int .i64 tn)) rb nv s op (vq3 s (.st (j3 s sl))):=((((ha3.tr ((But.refl w3.heap.size _).set 0 _) hTbr).tr ((But.refl w3.heap.size _).set 1 _) hTbr).tr ((But.refl w3.heap.size _).set 2 _) hTbr).tr ((But.refl w3.heap.size _).set 3 _) hTbr).tr ((But.refl w3.heap.size _).set 4 _) hTbr;have hAT6:=(hAT4.blk (w':=w6x) hr6).tr ((But.refl w.heap.size w6x).set 5 (.slice (some ⟨g6x,0,none⟩) (ts.length+1) cap6x)) n1;have HM6:=j4 (In_meas (q9 HFS1) hsp hfp1 hAT6);have nLTb:¬w.heap.size=w3.heap.size:=(by omega);have nLTb':¬w3.heap.size=w.heap.size:=(by omega);have HA6x:=j4 hA6;have HT6x:=j4 hAT6;have HS3:=j4 hS3;clear hk3 ha3 hS3 hv3 htb y3 hv4 hL6 hr6 hA6 hAT4 hAT6))
    go_roundw
    case rel=>
     obtain ⟨n',hn'⟩:=q9 HNX _ (q9 HS3)
     exact j4 ⟨_,_,_,n',q9 HA6x,q9 HT6x,hn'⟩
    case measure=>rw [q9 HMU];have:=q9 HM6;omega
   ·have hq28:(sl.tk.kind==28)=false:=beq_eq_false_iff_ne.2 k28
    have H28:Hid (∀y,(PS.st sl)=.st y→¬y.tk.kind=28):=j4 fun y e=>by injection e with e;subst e;exact k28
    clear hav hat hrel' hrel HA6 HT6 HRR HSt
    go_wp2_with (first|(go_at_call 215;refine (tis (q9 HAT) 28 (X:=⟨#[44]⟩) rfl (by decide) (by decide) rfl).mono ?_;rintro e w' ⟨rfl,hw'⟩;subst w';rw [hq28])|(go_at_call 343;refine (tmust (q9 HAT) hs 27 rfl (by decide) (by decide) rfl).mono ?_;rintro e w7 ⟨rfl,hk7,ha7⟩;have hv7:=(q9 HAV).kept (by omega) (by omega) hk7;have hm7:=hv7.mid;have hr7:=hv7.row;obtain ⟨x7,z7⟩:=qs3 hv7.nb;rw [q9 HCS] at x7;have r0:w7.cell? ⟨w.heap.size,0,none⟩=some (.string ⟨#[73,78]⟩):=x7 0;have r1:w7.cell? ⟨w.heap.size,1,none⟩=some (.int .i64 st.place):=x7 1;have r2:w7.cell? ⟨w.heap.size,2,none⟩=some (.slice (some ⟨g,0,none⟩) 1 1):=x7 2;have r3:w7.cell? ⟨w.heap.size,3,none⟩=some (.string ⟨#[]⟩):=x7 3;have r4:w7.cell? ⟨w.heap.size,4,none⟩=some (.string ⟨#[]⟩):=x7 4;have r5:w7.cell? ⟨w.heap.size,5,none⟩=some (lv):=x7 5;have r6:w7.cell? ⟨w.heap.size,6,none⟩=some (.int .i64 0):=x7 6;have r7:w7.cell? ⟨w.heap.size,7,none⟩=some (.bool neg):=x7 7;have r8:w7.cell? ⟨w.heap.size,8,none⟩=some (.int .i64 0):=x7 8;have HM7:=j4 hm7;have HW7:=j4 hr7;have HA7:=j4 ha7;clear hk7 ha7 hv7 x7 z7 hm7 hr7)|(go_at_call 216;refine (tadd (q9 HA7) ((q9 HM7).nodes (q9 HC0) (q9 HA7).c0 (q9 HV0) (by decide) (by decide) (q9 HN0)) (by omega) ⟨21,st.place,0,[],[],ts⟩ rfl [i0] neg rfl rfl rfl ((q9 HM7).row (q9 HC0) (q9 HA7).c0 (q9 HV0) (by decide) (q9 HR0)) (vv3 (q9 HW7) (by omega) (fun k hk' ho'=>by have:=q9 HOW k ((je7 (q9 HC0) (q9 HA7).c0 k).1 ho');omega))).mono ?_;rintro e w8 ⟨rfl,hk8,nv8,ha8,hn8⟩;have HK8:=j4 (((q9 HK0).mid (q9 HM7) (q9 HC0) (q9 HA7).c0 (Nat.le_refl _)).trans hk8);have HA8:=j4 ha8;have HN8:=j4 hn8;clear hk8 ha8 hn8))
    go_ret
    exact In_end (new:=new) hs hm (q9 HI0) (q9 HFL) hfew (by omega) (q9 HAT) (q9 HRL) (q9 H28) (q9 HK8) (q9 HA8) (q9 HN8) (by simp)
end
section
theorem vk0 (p:ByteArray) (hp:p.size≤200) (e:UInt8) (w:World) :
  Calls Tryz.prog 345 #[.string p,.int .u8 e.toNat] w fun en w'=>en=.returned (.bool (qs2 [e] p.data.toList).isSome)∧w'=w:=by
 obtain ⟨R,hR⟩:∃r,(qs2 [e] p.data.toList).isSome=r:=⟨_,rfl⟩
 rw [hR]
 have HR:=j4 hR
 clear hR
 go_enter Tryz.func345,Tryz.ntmps345
 go_wp2_with fail
 go_loop [5] (fun iv=>∃k:Nat,k≤p.size∧iv=.int .i64 k∧Hid (R=(qs2 [e] (p.data.toList.drop k)).isSome)) (fun iv=>p.size - (intOf iv).toNat)
 case atStart=>exact ⟨0,Nat.zero_le _,rfl,j4 (by rw [List.drop_zero,q9 HR])⟩
 case round=>
  obtain ⟨k,hk,rfl,hh⟩:=hrel
  by_cases hlt:k<p.size
  ·have hpe:p.data.toList[k]?=some p[k]:=by rw [List.getElem?_eq_getElem (by rw [qa5];exact hlt),qb3 p k hlt]
   by_cases hx:p[k]=e
   ·have hx':(p[k].toNat:Int)=(e.toNat:Int):=by rw [hx]
    have hxb:((p[k].toNat:Int)==(e.toNat:Int))=true:=by rw [hx',beq_self_eq_true]
    by_cases hl:k+1=p.size
    ·have HT:Hid (R=false):=j4 (by rw [q9 hh,vr9 hpe (by rw [hx];rfl) (by rw [qa5];omega)];rfl)
     have hlb:(((k:Int)+1)==(p.size:Int))=true:=by rw [beq_iff_eq];omega
     have hpe':=j4 hpe
     clear hh hpe hx
     go_wp2_with fail
     go_ret
     exact ⟨qn7 (by rw [q9 HT]),rfl⟩
    ·have h2:k+1<p.size:=by omega
     have hpe2:p.data.toList[k+1]?=some p[k+1]:=by rw [List.getElem?_eq_getElem (by rw [qa5];exact h2),qb3 p (k+1) h2]
     have HT:Hid (R=(qs2 [e] (p.data.toList.drop (k+2))).isSome):=j4 (by rw [q9 hh,jd8 hpe (by rw [hx];rfl) hpe2];cases qs2 [e] (p.data.toList.drop (k+2))<;>rfl)
     have hlb:(((k:Int)+1)==(p.size:Int))=false:=by rw [beq_eq_false_iff_ne];omega
     clear hh hpe hpe2 hx
     go_wp2_with fail
     go_round
     case rel=>exact ⟨k+2,by omega,by go_num,HT⟩
     case measure=>simp [intOf];omega
   ·have hxb:((p[k].toNat:Int)==(e.toNat:Int))=false:=by
     rw [beq_eq_false_iff_ne];intro h;exact hx (UInt8.toNat_inj.1 (by omega))
    have HT:Hid (R=(qs2 [e] (p.data.toList.drop (k+1))).isSome):=j4 (by rw [q9 hh,vi9 hpe (fun h=>hx (by injection h with h;exact h.symm))];cases qs2 [e] (p.data.toList.drop (k+1))<;>rfl)
    clear hh hpe hx
    go_wp2_with fail
    go_round
    case rel=>exact ⟨k+1,by omega,by go_num,HT⟩
    case measure=>simp [intOf];omega
  ·have HT:Hid (R=true):=j4 (by rw [q9 hh,jd7 (by rw [qa5];omega)];rfl)
   clear hh
   go_wp2_with fail
   go_ret
   exact ⟨qn7 (by rw [q9 HT]),rfl⟩
end
section
section
variable {w:World} {rb:Nat} {s:ByteArray} {ns:List RN} {j:Nat} {st:St}
theorem qz6 (h:RT w rb s ns j st) (hs:s.size≤200) (hk:st.tk.kind=4) :
  Calls Tryz.prog 344 #[.pointer (some ⟨rb,0,none⟩)] w fun e w'=>e=.returned (.agg #[.int .i64 4,.int .i64 st.place,.int .i64 st.after,.string (BS st.tk.str),.int .i64 (tkN st)])∧TKept rb w w'∧RT w' rb s ns (j+1) (j3 s st):=by
 obtain ⟨nv,hT,hN,hF,hj⟩:=h
 have hp:=hF.step_place (by omega)
 rw [show tkZ st=(st.after:Int) by unfold tkZ;rw [if_neg (by omega)],show rK st.tk.kind=4 by rw [hk];rfl,show tkS st=st.tk.str by unfold tkS rS;rw [if_neg (by omega),if_pos (by omega)]] at hT
 refine (vu2 hT hs hF.after (qr4 s st)).mono ?_
 rintro e w' ⟨rfl,hT',hK⟩
 exact ⟨rfl,TKept.of_kept hK (hT'.c0.trans hT.c0.symm),nv,hT',hN.kept (hT.c0.trans hT'.c0.symm) hK,qa7 s st hF.after,by omega⟩
theorem rtext_no (h:RT w rb s ns j st) (hs:s.size≤200) (hk:¬st.tk.kind=4) :
  Calls Tryz.prog 344 #[.pointer (some ⟨rb,0,none⟩)] w fun e w'=>e=.returned (.agg #[.int .i64 (rK st.tk.kind),.int .i64 st.place,.int .i64 (tkZ st),.string (BS (tkS st)),.int .i64 (tkN st)])∧TKept rb w w'∧RE w' rb s 2 st.place st.op 200:=by
 obtain ⟨nv,hT,hN,hF,hj⟩:=h
 have hp:=hF.place
 refine (vu1 hT (by unfold rK;split<;>(try split)<;>omega)).mono ?_
 rintro e w' ⟨rfl,hT',hK⟩
 exact ⟨rfl,TKept.of_kept hK (hT'.c0.trans hT.c0.symm),nv,_,ns,hT',by decide,hN.kept (hT.c0.trans hT'.c0.symm) hK,by omega⟩
end
theorem likeR_no {s:ByteArray} {l:Ast} {st:St} (h:¬(j3 s st).tk.kind=4):qb6 s l st=.err 2 (j3 s st).place:=by unfold qb6;rw [if_neg h]
theorem ja1 {s:ByteArray} {l:Ast} {st:St} (h:(j3 s st).tk.kind=4) (h2:¬(j3 s (j3 s st)).tk.kind=13):qb6 s l st=.ok (.un ⟨22,st.place,0,(j3 s st).tk.str,[],[]⟩ l) (j3 s (j3 s st)):=by unfold qb6;rw [if_pos h,if_neg h2]
theorem likeR_e1 {s:ByteArray} {l:Ast} {st:St} (h:(j3 s st).tk.kind=4) (h2:(j3 s (j3 s st)).tk.kind=13) (h3:¬((j3 s (j3 s (j3 s st))).tk.kind=4∧(j3 s (j3 s (j3 s st))).tk.str.length=1)):qb6 s l st=.err 2 (j3 s (j3 s (j3 s st))).place:=by
 unfold qb6 qq3;rw [if_pos h,if_pos h2]
 by_cases h4:(j3 s (j3 s (j3 s st))).tk.kind=4
 ·simp only [if_pos h4,if_neg (fun e=>h3 ⟨h4,e⟩)]
 ·simp only [if_neg h4]
theorem likeR_e2 {s:ByteArray} {l:Ast} {st:St} (h:(j3 s st).tk.kind=4) (h2:(j3 s (j3 s st)).tk.kind=13) (h3:(j3 s (j3 s (j3 s st))).tk.kind=4) {c:UInt8} (h4:(j3 s (j3 s (j3 s st))).tk.str=[c]) (h5:(qs2 [c] (j3 s st).tk.str).isSome=false):qb6 s l st=.err 2 (j3 s st).place:=by
 unfold qb6 qq3;rw [if_pos h,if_pos h2];simp only [if_pos h3];rw [h4,if_pos (show [c].length=1 from rfl),if_neg (by rw [h5];simp)]
theorem likeR_ok {s:ByteArray} {l:Ast} {st:St} (h:(j3 s st).tk.kind=4) (h2:(j3 s (j3 s st)).tk.kind=13) (h3:(j3 s (j3 s (j3 s st))).tk.kind=4) {c:UInt8} (h4:(j3 s (j3 s (j3 s st))).tk.str=[c]) (h5:(qs2 [c] (j3 s st).tk.str).isSome=true):qb6 s l st=.ok (.un ⟨22,st.place,0,(j3 s st).tk.str,[c],[]⟩ l) (j3 s (j3 s (j3 s (j3 s st)))):=by
 unfold qb6 qq3;rw [if_pos h,if_pos h2];simp only [if_pos h3];rw [h4,if_pos (show [c].length=1 from rfl),if_pos h5]
theorem vu8 (rb:Nat) (s:ByteArray) (hs:s.size≤200) (op m:Nat) (hm:201≤m) (w:World) (st:St) (ns new:List RN) (j:Nat) (l:Ast) (h:RT w rb s (ns++new) j st) (ho:st.op=op) (hk:st.tk.kind=12) (hfl:Flat l ns.length new) (i0:Nat) (hi0:i0=ns.length+new.length - 1) (g:Nat) (hg:VN w rb g 3 #[.int .i64 i0]) (neg:Bool) (pl0:Int) :
  Calls Tryz.prog 325 #[.pointer (some ⟨rb,0,none⟩),.agg #[.string ⟨#[]⟩,.int .i64 st.place,.slice (some ⟨g,0,none⟩) 1 1,.string ⟨#[]⟩,.string ⟨#[]⟩,.slice none 0 0,.int .i64 0,.bool neg,.int .i64 0]] w (REnds rb s w op m ns j st.place (negR neg pl0 (qb6 s l st))):=by
 have hlt:=h.lt
 have n0:¬w.heap.size=rb:=by omega
 have n1:¬rb=w.heap.size:=by omega
 have hglt:=hg.lt
 have hV0:VN (w.alloc (.cells #[.string ⟨#[76,73,75,69]⟩,.int .i64 st.place,.slice (some ⟨g,0,none⟩) 1 1,.string ⟨#[]⟩,.string ⟨#[]⟩,.slice none 0 0,.int .i64 0,.bool neg,.int .i64 0] 241)) rb w.heap.size 241 #[.string ⟨#[76,73,75,69]⟩,.int .i64 st.place,.slice (some ⟨g,0,none⟩) 1 1,.string ⟨#[]⟩,.string ⟨#[]⟩,.slice none 0 0,.int .i64 0,.bool neg,.int .i64 0]:=VN.new h _ _ rfl
 have hK0:TKept rb w (w.alloc (.cells #[.string ⟨#[76,73,75,69]⟩,.int .i64 st.place,.slice (some ⟨g,0,none⟩) 1 1,.string ⟨#[]⟩,.string ⟨#[]⟩,.slice none 0 0,.int .i64 0,.bool neg,.int .i64 0] 241)):=(TKept.refl rb w).alloc hlt _
 have h0:RT (w.alloc (.cells #[.string ⟨#[76,73,75,69]⟩,.int .i64 st.place,.slice (some ⟨g,0,none⟩) 1 1,.string ⟨#[]⟩,.string ⟨#[]⟩,.slice none 0 0,.int .i64 0,.bool neg,.int .i64 0] 241)) rb s (ns++new) j st:=h.alloc _
 have hG0:VN (w.alloc (.cells #[.string ⟨#[76,73,75,69]⟩,.int .i64 st.place,.slice (some ⟨g,0,none⟩) 1 1,.string ⟨#[]⟩,.string ⟨#[]⟩,.slice none 0 0,.int .i64 0,.bool neg,.int .i64 0] 241)) rb g 3 #[.int .i64 i0]:=hg.alloc hlt _
 have f1:=qa7 s st h.fine.after
 have p1:=h.fine.step_place (by omega)
 have f2:=qa7 s _ f1.after
 have f3:=qa7 s _ f2.after
 have hz1:=f1.place
 have hstr:(j3 s st).tk.str.length≤200:=Nat.le_trans (vb8 s st) hs
 have H0:=j4 h0
 have HK0:=j4 hK0
 have HV0:=j4 hV0
 have HG0:=j4 hG0
 have HFL:=j4 hfl
 have HI0:=j4 hi0
 clear h hK0 h0 hV0 hG0 hg hfl hi0
 by_cases k4:(j3 s st).tk.kind=4
 ·have p2:=f1.step_place (by omega)
  by_cases k13:(j3 s (j3 s st)).tk.kind=13
  ·have hq13:((j3 s (j3 s st)).tk.kind==13)=true:=by rw [k13];rfl
   have p3:=f2.step_place (by omega)
   by_cases k44:(j3 s (j3 s (j3 s st))).tk.kind=4∧(j3 s (j3 s (j3 s st))).tk.str.length=1
   ·obtain ⟨k4b,kl⟩:=k44
    obtain ⟨c,hc⟩:∃c,(j3 s (j3 s (j3 s st))).tk.str=[c]:=by
     match h:(j3 s (j3 s (j3 s st))).tk.str,kl with
     | [c],_=>exact ⟨c,rfl⟩
    have p4:=f3.step_place (by omega)
    cases hcut:(qs2 [c] (j3 s st).tk.str).isSome with
    | false=>
     rw [likeR_e2 k4 k13 k4b hc hcut]
     go_enter Tryz.func325,Tryz.ntmps325
     go_wp2_with (first|(go_at_call 172;have _q:=HR3;refine (qa6 (q9 HR3) hs (by omega) (by omega)).mono ?_;rintro e w4 ⟨rfl,hk4,hr4⟩;have hv4:=(q9 HV3).kept hk4;have hg4:=(q9 HG3).kept hk4;have hp4:=(q9 HP3).kept hk4;have hL4:=hv4.lt;have hP4:=hp4.lt;obtain ⟨e2,e3,e4,e5,e6⟩:=hr4.ct;rw [show rK (j3 s (j3 s (j3 s st))).tk.kind=4 by rw [k4b];rfl] at e2;rw [show tkZ (j3 s (j3 s (j3 s st)))=((j3 s (j3 s (j3 s st))).after:Int) by unfold tkZ;rw [if_neg (by omega)]] at e4;rw [show BS (tkS (j3 s (j3 s (j3 s st))))=⟨#[c]⟩ by unfold tkS rS;rw [if_neg (by omega),if_pos (by omega),hc];rfl] at e5;have d0:w4.cell? ⟨w.heap.size,0,none⟩=some (.string ⟨#[76,73,75,69]⟩):=hv4.cell 0;have d1:w4.cell? ⟨w.heap.size,1,none⟩=some (.int .i64 st.place):=hv4.cell 1;have d2:w4.cell? ⟨w.heap.size,2,none⟩=some (.slice (some ⟨g,0,none⟩) 1 1):=hv4.cell 2;have d3:w4.cell? ⟨w.heap.size,3,none⟩=some (.string (BS (j3 s st).tk.str)):=hv4.cell 3;have d4:w4.cell? ⟨w.heap.size,4,none⟩=some (.string ⟨#[]⟩):=hv4.cell 4;have d5:w4.cell? ⟨w.heap.size,5,none⟩=some (.slice none 0 0):=hv4.cell 5;have d6:w4.cell? ⟨w.heap.size,6,none⟩=some (.int .i64 0):=hv4.cell 6;have d7:w4.cell? ⟨w.heap.size,7,none⟩=some (.bool neg):=hv4.cell 7;have d8:w4.cell? ⟨w.heap.size,8,none⟩=some (.int .i64 0):=hv4.cell 8;have dz:∀i,w4.frozen? ⟨w.heap.size,i,none⟩=false:=hv4.frz;have pp1:w4.cell? ⟨w2.heap.size,1,none⟩=some (.int .i64 (j3 s st).place):=hp4.cell 1;have hlt4:=hr4.lt;have m1:¬rb=w4.heap.size:=(by omega);have m2:¬w4.heap.size=rb:=(by omega);have m3:¬w.heap.size=w4.heap.size:=(by omega);have m4:w.heap.size<w4.heap.size:=hL4;have m5:w2.heap.size<w4.heap.size:=hP4;have hv5:VN ((w4.setCell ⟨w.heap.size,4,none⟩ (.string ⟨#[c]⟩)).alloc (.cells #[.int .i64 4,.int .i64 (j3 s (j3 s (j3 s st))).place,.int .i64 (j3 s (j3 s (j3 s st))).after,.string ⟨#[c]⟩,.int .i64 (tkN (j3 s (j3 s (j3 s st))))] 235)) rb w.heap.size 241 #[.string ⟨#[76,73,75,69]⟩,.int .i64 st.place,.slice (some ⟨g,0,none⟩) 1 1,.string (BS (j3 s st).tk.str),.string ⟨#[c]⟩,.slice none 0 0,.int .i64 0,.bool neg,.int .i64 0]:=(hv4.set 4 _).alloc (by simpa using hlt4) _;have hr5:RT ((w4.setCell ⟨w.heap.size,4,none⟩ (.string ⟨#[c]⟩)).alloc (.cells #[.int .i64 4,.int .i64 (j3 s (j3 s (j3 s st))).place,.int .i64 (j3 s (j3 s (j3 s st))).after,.string ⟨#[c]⟩,.int .i64 (tkN (j3 s (j3 s (j3 s st))))] 235)) rb s (ns++new) (j+1+1+1) (j3 s (j3 s (j3 s st))):=(hv4.rt (by decide) (by decide) hr4 4 _).alloc _;have hg5:VN ((w4.setCell ⟨w.heap.size,4,none⟩ (.string ⟨#[c]⟩)).alloc (.cells #[.int .i64 4,.int .i64 (j3 s (j3 s (j3 s st))).place,.int .i64 (j3 s (j3 s (j3 s st))).after,.string ⟨#[c]⟩,.int .i64 (tkN (j3 s (j3 s (j3 s st))))] 235)) rb g 3 #[.int .i64 i0]:=(hg4.setB (by omega) n0 4 _).alloc (by simpa using hlt4) _;have hk5:TKept rb w ((w4.setCell ⟨w.heap.size,4,none⟩ (.string ⟨#[c]⟩)).alloc (.cells #[.int .i64 4,.int .i64 (j3 s (j3 s (j3 s st))).place,.int .i64 (j3 s (j3 s (j3 s st))).after,.string ⟨#[c]⟩,.int .i64 (tkN (j3 s (j3 s (j3 s st))))] 235)):=((((q9 HK3).trans hk4).far hlt (p:=⟨w.heap.size,4,none⟩) (Nat.le_refl _) _).alloc hlt _);have hb5:Below ((w4.setCell ⟨w.heap.size,4,none⟩ (.string ⟨#[c]⟩)).alloc (.cells #[.int .i64 4,.int .i64 (j3 s (j3 s (j3 s st))).place,.int .i64 (j3 s (j3 s (j3 s st))).after,.string ⟨#[c]⟩,.int .i64 (tkN (j3 s (j3 s (j3 s st))))] 235)).heap.size ((w4.setCell ⟨w.heap.size,4,none⟩ (.string ⟨#[c]⟩)).alloc (.cells #[.int .i64 4,.int .i64 (j3 s (j3 s (j3 s st))).place,.int .i64 (j3 s (j3 s (j3 s st))).after,.string ⟨#[c]⟩,.int .i64 (tkN (j3 s (j3 s (j3 s st))))] 235)) ((w4.setCell ⟨w.heap.size,4,none⟩ (.string ⟨#[c]⟩)).alloc (.cells #[.int .i64 4,.int .i64 (j3 s (j3 s (j3 s st))).place,.int .i64 (j3 s (j3 s (j3 s st))).after,.string ⟨#[c]⟩,.int .i64 (tkN (j3 s (j3 s (j3 s st))))] 235)).drew:=(Below.refl _ _).drew;have HR5:=j4 (hr5.below hb5);have HG5:=j4 (hg5.kept (TKept.of_below hb5 hr5.lt));have HK5:=j4 (hk5.drew);have HV5:=j4 (hv5.kept (TKept.of_below hb5 hr5.lt));clear hk4 hr4 hv4 hg4 hp4 hv5 hr5 hg5 hk5 hb5)|(go_at_call 172;refine (qa6 (q9 H0) hs (by omega) (by omega)).mono ?_;rintro e w1 ⟨rfl,hk1,hr1⟩;have HV1:=j4 ((q9 HV0).kept hk1);have HG1:=j4 ((q9 HG0).kept hk1);have HK1:=j4 ((q9 HK0).trans hk1);have HR1:=j4 hr1;clear hk1 hr1)|(go_at_call 344;refine (qz6 (q9 HR1) hs k4).mono ?_;rintro e w2 ⟨rfl,hk2,hr2⟩;have hv2:=(q9 HV1).kept hk2;have hL2:=hv2.lt;have hv3:VN ((w2.setCell ⟨w.heap.size,3,none⟩ (.string (BS (j3 s st).tk.str))).alloc (.cells #[.int .i64 4,.int .i64 (j3 s st).place,.int .i64 (j3 s st).after,.string (BS (j3 s st).tk.str),.int .i64 (tkN (j3 s st))] 235)) rb w.heap.size 241 #[.string ⟨#[76,73,75,69]⟩,.int .i64 st.place,.slice (some ⟨g,0,none⟩) 1 1,.string (BS (j3 s st).tk.str),.string ⟨#[]⟩,.slice none 0 0,.int .i64 0,.bool neg,.int .i64 0]:=(hv2.set 3 _).alloc (by simpa using hr2.lt) _;have hr3:RT ((w2.setCell ⟨w.heap.size,3,none⟩ (.string (BS (j3 s st).tk.str))).alloc (.cells #[.int .i64 4,.int .i64 (j3 s st).place,.int .i64 (j3 s st).after,.string (BS (j3 s st).tk.str),.int .i64 (tkN (j3 s st))] 235)) rb s (ns++new) (j+1+1) (j3 s (j3 s st)):=(hv2.rt (by decide) (by decide) hr2 3 _).alloc _;have hg3:VN ((w2.setCell ⟨w.heap.size,3,none⟩ (.string (BS (j3 s st).tk.str))).alloc (.cells #[.int .i64 4,.int .i64 (j3 s st).place,.int .i64 (j3 s st).after,.string (BS (j3 s st).tk.str),.int .i64 (tkN (j3 s st))] 235)) rb g 3 #[.int .i64 i0]:=(((q9 HG1).kept hk2).setB (by omega) n0 3 _).alloc (by simpa using hr2.lt) _;have hk3:TKept rb w ((w2.setCell ⟨w.heap.size,3,none⟩ (.string (BS (j3 s st).tk.str))).alloc (.cells #[.int .i64 4,.int .i64 (j3 s st).place,.int .i64 (j3 s st).after,.string (BS (j3 s st).tk.str),.int .i64 (tkN (j3 s st))] 235)):=((((q9 HK1).trans hk2).far hlt (p:=⟨w.heap.size,3,none⟩) (Nat.le_refl _) _).alloc hlt _);have hp3:VN ((w2.setCell ⟨w.heap.size,3,none⟩ (.string (BS (j3 s st).tk.str))).alloc (.cells #[.int .i64 4,.int .i64 (j3 s st).place,.int .i64 (j3 s st).after,.string (BS (j3 s st).tk.str),.int .i64 (tkN (j3 s st))] 235)) rb w2.heap.size 235 #[.int .i64 4,.int .i64 (j3 s st).place,.int .i64 (j3 s st).after,.string (BS (j3 s st).tk.str),.int .i64 (tkN (j3 s st))]:=VN.new (hv2.rt (by decide) (by decide) hr2 3 _) _ _ (by simp);have c83:=hr3.c8;have p0:w2.cell? ⟨w.heap.size,0,none⟩=some (.string ⟨#[76,73,75,69]⟩):=hv2.cell 0;have p1:w2.cell? ⟨w.heap.size,1,none⟩=some (.int .i64 st.place):=hv2.cell 1;have p2:w2.cell? ⟨w.heap.size,2,none⟩=some (.slice (some ⟨g,0,none⟩) 1 1):=hv2.cell 2;have p3:w2.cell? ⟨w.heap.size,3,none⟩=some (.string ⟨#[]⟩):=hv2.cell 3;have p4:w2.cell? ⟨w.heap.size,4,none⟩=some (.string ⟨#[]⟩):=hv2.cell 4;have p5:w2.cell? ⟨w.heap.size,5,none⟩=some (.slice none 0 0):=hv2.cell 5;have p6:w2.cell? ⟨w.heap.size,6,none⟩=some (.int .i64 0):=hv2.cell 6;have p7:w2.cell? ⟨w.heap.size,7,none⟩=some (.bool neg):=hv2.cell 7;have p8:w2.cell? ⟨w.heap.size,8,none⟩=some (.int .i64 0):=hv2.cell 8;have pz:∀i,w2.frozen? ⟨w.heap.size,i,none⟩=false:=hv2.frz;have HV3:=j4 hv3;have HR3:=j4 hr3;have HG3:=j4 hg3;have HK3:=j4 hk3;have HP3:=j4 hp3;have hrlt:=hr2.lt;have nr2:¬rb=w2.heap.size:=(by omega);have nr2':¬w2.heap.size=rb:=(by omega);have c82:=hr2.c8;clear hk2 hr2 hv2 hv3 hr3 hg3 hk3 hp3 c83)|(go_at_call 215;refine (qm7 (q9 HR3) 13 (X:=⟨#[69,83,67,65,80,69]⟩) rfl (by decide) (by decide) rfl).mono ?_;rintro e w' ⟨rfl,hw'⟩;subst w';rw [hq13]))
     go_region_with (go_at_call 345;refine (vk0 (BS (j3 s st).tk.str) (by rw [qc4];exact hstr) c _).mono ?_;rintro e w' ⟨rfl,hw'⟩;subst w';rw [qr2,hcut])
     all_goals go_wp2_with (go_at_call 174;refine (qp9 (q9 HR5) hs 2 (j3 s st).place (by decide)).mono ?_;rintro e w6 ⟨rfl,hk6,hr6⟩;have HK6:=j4 ((q9 HK5).trans hk6);have HR6:=j4 hr6;clear hk6 hr6)
     all_goals (go_ret;exact ⟨q9 HK6,0,rfl,ho ▸ (q9 HR6).more (by omega)⟩)
    | true=>
     rw [likeR_ok k4 k13 k4b hc hcut]
     go_enter Tryz.func325,Tryz.ntmps325
     go_wp2_with (first|(go_at_call 172;have _q:=HR3;refine (qa6 (q9 HR3) hs (by omega) (by omega)).mono ?_;rintro e w4 ⟨rfl,hk4,hr4⟩;have hv4:=(q9 HV3).kept hk4;have hg4:=(q9 HG3).kept hk4;have hp4:=(q9 HP3).kept hk4;have hL4:=hv4.lt;have hP4:=hp4.lt;obtain ⟨e2,e3,e4,e5,e6⟩:=hr4.ct;rw [show rK (j3 s (j3 s (j3 s st))).tk.kind=4 by rw [k4b];rfl] at e2;rw [show tkZ (j3 s (j3 s (j3 s st)))=((j3 s (j3 s (j3 s st))).after:Int) by unfold tkZ;rw [if_neg (by omega)]] at e4;rw [show BS (tkS (j3 s (j3 s (j3 s st))))=⟨#[c]⟩ by unfold tkS rS;rw [if_neg (by omega),if_pos (by omega),hc];rfl] at e5;have d0:w4.cell? ⟨w.heap.size,0,none⟩=some (.string ⟨#[76,73,75,69]⟩):=hv4.cell 0;have d1:w4.cell? ⟨w.heap.size,1,none⟩=some (.int .i64 st.place):=hv4.cell 1;have d2:w4.cell? ⟨w.heap.size,2,none⟩=some (.slice (some ⟨g,0,none⟩) 1 1):=hv4.cell 2;have d3:w4.cell? ⟨w.heap.size,3,none⟩=some (.string (BS (j3 s st).tk.str)):=hv4.cell 3;have d4:w4.cell? ⟨w.heap.size,4,none⟩=some (.string ⟨#[]⟩):=hv4.cell 4;have d5:w4.cell? ⟨w.heap.size,5,none⟩=some (.slice none 0 0):=hv4.cell 5;have d6:w4.cell? ⟨w.heap.size,6,none⟩=some (.int .i64 0):=hv4.cell 6;have d7:w4.cell? ⟨w.heap.size,7,none⟩=some (.bool neg):=hv4.cell 7;have d8:w4.cell? ⟨w.heap.size,8,none⟩=some (.int .i64 0):=hv4.cell 8;have dz:∀i,w4.frozen? ⟨w.heap.size,i,none⟩=false:=hv4.frz;have pp1:w4.cell? ⟨w2.heap.size,1,none⟩=some (.int .i64 (j3 s st).place):=hp4.cell 1;have hlt4:=hr4.lt;have m1:¬rb=w4.heap.size:=(by omega);have m2:¬w4.heap.size=rb:=(by omega);have m3:¬w.heap.size=w4.heap.size:=(by omega);have m4:w.heap.size<w4.heap.size:=hL4;have m5:w2.heap.size<w4.heap.size:=hP4;have hv5:VN ((w4.setCell ⟨w.heap.size,4,none⟩ (.string ⟨#[c]⟩)).alloc (.cells #[.int .i64 4,.int .i64 (j3 s (j3 s (j3 s st))).place,.int .i64 (j3 s (j3 s (j3 s st))).after,.string ⟨#[c]⟩,.int .i64 (tkN (j3 s (j3 s (j3 s st))))] 235)) rb w.heap.size 241 #[.string ⟨#[76,73,75,69]⟩,.int .i64 st.place,.slice (some ⟨g,0,none⟩) 1 1,.string (BS (j3 s st).tk.str),.string ⟨#[c]⟩,.slice none 0 0,.int .i64 0,.bool neg,.int .i64 0]:=(hv4.set 4 _).alloc (by simpa using hlt4) _;have hr5:RT ((w4.setCell ⟨w.heap.size,4,none⟩ (.string ⟨#[c]⟩)).alloc (.cells #[.int .i64 4,.int .i64 (j3 s (j3 s (j3 s st))).place,.int .i64 (j3 s (j3 s (j3 s st))).after,.string ⟨#[c]⟩,.int .i64 (tkN (j3 s (j3 s (j3 s st))))] 235)) rb s (ns++new) (j+1+1+1) (j3 s (j3 s (j3 s st))):=(hv4.rt (by decide) (by decide) hr4 4 _).alloc _;have hg5:VN ((w4.setCell ⟨w.heap.size,4,none⟩ (.string ⟨#[c]⟩)).alloc (.cells #[.int .i64 4,.int .i64 (j3 s (j3 s (j3 s st))).place,.int .i64 (j3 s (j3 s (j3 s st))).after,.string ⟨#[c]⟩,.int .i64 (tkN (j3 s (j3 s (j3 s st))))] 235)) rb g 3 #[.int .i64 i0]:=(hg4.setB (by omega) n0 4 _).alloc (by simpa using hlt4) _;have hk5:TKept rb w ((w4.setCell ⟨w.heap.size,4,none⟩ (.string ⟨#[c]⟩)).alloc (.cells #[.int .i64 4,.int .i64 (j3 s (j3 s (j3 s st))).place,.int .i64 (j3 s (j3 s (j3 s st))).after,.string ⟨#[c]⟩,.int .i64 (tkN (j3 s (j3 s (j3 s st))))] 235)):=((((q9 HK3).trans hk4).far hlt (p:=⟨w.heap.size,4,none⟩) (Nat.le_refl _) _).alloc hlt _);have hb5:Below ((w4.setCell ⟨w.heap.size,4,none⟩ (.string ⟨#[c]⟩)).alloc (.cells #[.int .i64 4,.int .i64 (j3 s (j3 s (j3 s st))).place,.int .i64 (j3 s (j3 s (j3 s st))).after,.string ⟨#[c]⟩,.int .i64 (tkN (j3 s (j3 s (j3 s st))))] 235)).heap.size ((w4.setCell ⟨w.heap.size,4,none⟩ (.string ⟨#[c]⟩)).alloc (.cells #[.int .i64 4,.int .i64 (j3 s (j3 s (j3 s st))).place,.int .i64 (j3 s (j3 s (j3 s st))).after,.string ⟨#[c]⟩,.int .i64 (tkN (j3 s (j3 s (j3 s st))))] 235)) ((w4.setCell ⟨w.heap.size,4,none⟩ (.string ⟨#[c]⟩)).alloc (.cells #[.int .i64 4,.int .i64 (j3 s (j3 s (j3 s st))).place,.int .i64 (j3 s (j3 s (j3 s st))).after,.string ⟨#[c]⟩,.int .i64 (tkN (j3 s (j3 s (j3 s st))))] 235)).drew:=(Below.refl _ _).drew;have HR5:=j4 (hr5.below hb5);have HG5:=j4 (hg5.kept (TKept.of_below hb5 hr5.lt));have HK5:=j4 (hk5.drew);have HV5:=j4 (hv5.kept (TKept.of_below hb5 hr5.lt));clear hk4 hr4 hv4 hg4 hp4 hv5 hr5 hg5 hk5 hb5)|(go_at_call 172;refine (qa6 (q9 H0) hs (by omega) (by omega)).mono ?_;rintro e w1 ⟨rfl,hk1,hr1⟩;have HV1:=j4 ((q9 HV0).kept hk1);have HG1:=j4 ((q9 HG0).kept hk1);have HK1:=j4 ((q9 HK0).trans hk1);have HR1:=j4 hr1;clear hk1 hr1)|(go_at_call 344;refine (qz6 (q9 HR1) hs k4).mono ?_;rintro e w2 ⟨rfl,hk2,hr2⟩;have hv2:=(q9 HV1).kept hk2;have hL2:=hv2.lt;have hv3:VN ((w2.setCell ⟨w.heap.size,3,none⟩ (.string (BS (j3 s st).tk.str))).alloc (.cells #[.int .i64 4,.int .i64 (j3 s st).place,.int .i64 (j3 s st).after,.string (BS (j3 s st).tk.str),.int .i64 (tkN (j3 s st))] 235)) rb w.heap.size 241 #[.string ⟨#[76,73,75,69]⟩,.int .i64 st.place,.slice (some ⟨g,0,none⟩) 1 1,.string (BS (j3 s st).tk.str),.string ⟨#[]⟩,.slice none 0 0,.int .i64 0,.bool neg,.int .i64 0]:=(hv2.set 3 _).alloc (by simpa using hr2.lt) _;have hr3:RT ((w2.setCell ⟨w.heap.size,3,none⟩ (.string (BS (j3 s st).tk.str))).alloc (.cells #[.int .i64 4,.int .i64 (j3 s st).place,.int .i64 (j3 s st).after,.string (BS (j3 s st).tk.str),.int .i64 (tkN (j3 s st))] 235)) rb s (ns++new) (j+1+1) (j3 s (j3 s st)):=(hv2.rt (by decide) (by decide) hr2 3 _).alloc _;have hg3:VN ((w2.setCell ⟨w.heap.size,3,none⟩ (.string (BS (j3 s st).tk.str))).alloc (.cells #[.int .i64 4,.int .i64 (j3 s st).place,.int .i64 (j3 s st).after,.string (BS (j3 s st).tk.str),.int .i64 (tkN (j3 s st))] 235)) rb g 3 #[.int .i64 i0]:=(((q9 HG1).kept hk2).setB (by omega) n0 3 _).alloc (by simpa using hr2.lt) _;have hk3:TKept rb w ((w2.setCell ⟨w.heap.size,3,none⟩ (.string (BS (j3 s st).tk.str))).alloc (.cells #[.int .i64 4,.int .i64 (j3 s st).place,.int .i64 (j3 s st).after,.string (BS (j3 s st).tk.str),.int .i64 (tkN (j3 s st))] 235)):=((((q9 HK1).trans hk2).far hlt (p:=⟨w.heap.size,3,none⟩) (Nat.le_refl _) _).alloc hlt _);have hp3:VN ((w2.setCell ⟨w.heap.size,3,none⟩ (.string (BS (j3 s st).tk.str))).alloc (.cells #[.int .i64 4,.int .i64 (j3 s st).place,.int .i64 (j3 s st).after,.string (BS (j3 s st).tk.str),.int .i64 (tkN (j3 s st))] 235)) rb w2.heap.size 235 #[.int .i64 4,.int .i64 (j3 s st).place,.int .i64 (j3 s st).after,.string (BS (j3 s st).tk.str),.int .i64 (tkN (j3 s st))]:=VN.new (hv2.rt (by decide) (by decide) hr2 3 _) _ _ (by simp);have c83:=hr3.c8;have p0:w2.cell? ⟨w.heap.size,0,none⟩=some (.string ⟨#[76,73,75,69]⟩):=hv2.cell 0;have p1:w2.cell? ⟨w.heap.size,1,none⟩=some (.int .i64 st.place):=hv2.cell 1;have p2:w2.cell? ⟨w.heap.size,2,none⟩=some (.slice (some ⟨g,0,none⟩) 1 1):=hv2.cell 2;have p3:w2.cell? ⟨w.heap.size,3,none⟩=some (.string ⟨#[]⟩):=hv2.cell 3;have p4:w2.cell? ⟨w.heap.size,4,none⟩=some (.string ⟨#[]⟩):=hv2.cell 4;have p5:w2.cell? ⟨w.heap.size,5,none⟩=some (.slice none 0 0):=hv2.cell 5;have p6:w2.cell? ⟨w.heap.size,6,none⟩=some (.int .i64 0):=hv2.cell 6;have p7:w2.cell? ⟨w.heap.size,7,none⟩=some (.bool neg):=hv2.cell 7;have p8:w2.cell? ⟨w.heap.size,8,none⟩=some (.int .i64 0):=hv2.cell 8;have pz:∀i,w2.frozen? ⟨w.heap.size,i,none⟩=false:=hv2.frz;have HV3:=j4 hv3;have HR3:=j4 hr3;have HG3:=j4 hg3;have HK3:=j4 hk3;have HP3:=j4 hp3;have hrlt:=hr2.lt;have nr2:¬rb=w2.heap.size:=(by omega);have nr2':¬w2.heap.size=rb:=(by omega);have c82:=hr2.c8;clear hk2 hr2 hv2 hv3 hr3 hg3 hk3 hp3 c83)|(go_at_call 215;refine (qm7 (q9 HR3) 13 (X:=⟨#[69,83,67,65,80,69]⟩) rfl (by decide) (by decide) rfl).mono ?_;rintro e w' ⟨rfl,hw'⟩;subst w';rw [hq13]))
     go_region_with (go_at_call 345;refine (vk0 (BS (j3 s st).tk.str) (by rw [qc4];exact hstr) c _).mono ?_;rintro e w' ⟨rfl,hw'⟩;subst w';rw [qr2,hcut])
     all_goals go_wp2_with (first|(go_at_call 172;refine (qa6 (q9 HR5) hs (by omega) (by omega)).mono ?_;rintro e w6 ⟨rfl,hk6,hr6⟩;have hv6:=(q9 HV5).kept hk6;have f0':w6.cell? ⟨w.heap.size,0,none⟩=some (.string ⟨#[76,73,75,69]⟩):=hv6.cell 0;have f1':w6.cell? ⟨w.heap.size,1,none⟩=some (.int .i64 st.place):=hv6.cell 1;have f2':w6.cell? ⟨w.heap.size,2,none⟩=some (.slice (some ⟨g,0,none⟩) 1 1):=hv6.cell 2;have f3':w6.cell? ⟨w.heap.size,3,none⟩=some (.string (BS (j3 s st).tk.str)):=hv6.cell 3;have f4':w6.cell? ⟨w.heap.size,4,none⟩=some (.string ⟨#[c]⟩):=hv6.cell 4;have f5':w6.cell? ⟨w.heap.size,5,none⟩=some (.slice none 0 0):=hv6.cell 5;have f6':w6.cell? ⟨w.heap.size,6,none⟩=some (.int .i64 0):=hv6.cell 6;have f7':w6.cell? ⟨w.heap.size,7,none⟩=some (.bool neg):=hv6.cell 7;have f8':w6.cell? ⟨w.heap.size,8,none⟩=some (.int .i64 0):=hv6.cell 8;have HG6:=j4 ((q9 HG5).kept hk6);have HK6:=j4 ((q9 HK5).trans hk6);have HR6:=j4 hr6;clear hk6 hr6 hv6)|(go_at_call 216;refine (vu3 (q9 HR6) hs ⟨22,st.place,0,(j3 s st).tk.str,[c],[]⟩ rfl [i0] neg rfl rfl rfl (.inr ⟨g,1,#[.int .i64 i0],(0,0),rfl,(q9 HG6).past,(q9 HG6).blk,(q9 HG6).no,fun j u hu=>by simpa [qy3] using hu⟩) (RowOf.no _ _ _)).mono ?_;rintro e w9 ⟨rfl,hk9,hr9⟩;have HK9:=j4 ((q9 HK6).trans hk9);have HR9:=j4 hr9;clear hk9 hr9))
     all_goals go_ret
     all_goals refine ⟨q9 HK9,new++[qj5 ⟨22,st.place,0,(j3 s st).tk.str,[c],[]⟩ [ns.length+new.length - 1] neg],qg5 (by simp), ?_,ho,by omega, ?_⟩
     all_goals first
      | (
       have:=q9 HR9
       rw [List.append_assoc,q9 HI0] at this
       exact this.less (by omega))
      | (
       cases neg with
       | false=>exact Flat.un _ (q9 HFL)
       | true=>exact Flat.neg1 _ _ (.inr (.inl rfl)) (q9 HFL))
   ·rw [likeR_e1 k4 k13 k44]
    have hcond:¬(rK (j3 s (j3 s (j3 s st))).tk.kind=4∧(BS (tkS (j3 s (j3 s (j3 s st))))).size=1):=by
     rintro ⟨e1,e2⟩
     have e3:(j3 s (j3 s (j3 s st))).tk.kind=4:=by unfold rK at e1;split at e1<;>(try split at e1)<;>omega
     refine k44 ⟨e3, ?_⟩
     rw [qc4] at e2;unfold tkS rS at e2;rwa [if_neg (by omega),if_pos (by omega)] at e2
    by_cases hK:rK (j3 s (j3 s (j3 s st))).tk.kind=4
    ·have hS1:¬((BS (tkS (j3 s (j3 s (j3 s st))))).size:Int)=1:=fun e=>hcond ⟨hK,by omega⟩
     clear hcond k44
     go_enter Tryz.func325,Tryz.ntmps325
     go_wp2_with (first|(go_at_call 172;have _q:=HR3;refine (qa6 (q9 HR3) hs (by omega) (by omega)).mono ?_;rintro e w4 ⟨rfl,hk4,hr4⟩;have hv4:=(q9 HV3).kept hk4;have hg4:=(q9 HG3).kept hk4;have hp4:=(q9 HP3).kept hk4;have hL4:=hv4.lt;have hP4:=hp4.lt;obtain ⟨e2,e3,e4,e5,e6⟩:=hr4.ct;have d0:w4.cell? ⟨w.heap.size,0,none⟩=some (.string ⟨#[76,73,75,69]⟩):=hv4.cell 0;have d1:w4.cell? ⟨w.heap.size,1,none⟩=some (.int .i64 st.place):=hv4.cell 1;have d2:w4.cell? ⟨w.heap.size,2,none⟩=some (.slice (some ⟨g,0,none⟩) 1 1):=hv4.cell 2;have d3:w4.cell? ⟨w.heap.size,3,none⟩=some (.string (BS (j3 s st).tk.str)):=hv4.cell 3;have d4:w4.cell? ⟨w.heap.size,4,none⟩=some (.string ⟨#[]⟩):=hv4.cell 4;have d5:w4.cell? ⟨w.heap.size,5,none⟩=some (.slice none 0 0):=hv4.cell 5;have d6:w4.cell? ⟨w.heap.size,6,none⟩=some (.int .i64 0):=hv4.cell 6;have d7:w4.cell? ⟨w.heap.size,7,none⟩=some (.bool neg):=hv4.cell 7;have d8:w4.cell? ⟨w.heap.size,8,none⟩=some (.int .i64 0):=hv4.cell 8;have dz:∀i,w4.frozen? ⟨w.heap.size,i,none⟩=false:=hv4.frz;have pp1:w4.cell? ⟨w2.heap.size,1,none⟩=some (.int .i64 (j3 s st).place):=hp4.cell 1;have hlt4:=hr4.lt;have m1:¬rb=w4.heap.size:=(by omega);have m2:¬w4.heap.size=rb:=(by omega);have m3:¬w.heap.size=w4.heap.size:=(by omega);have m4:w.heap.size<w4.heap.size:=hL4;have m5:w2.heap.size<w4.heap.size:=hP4;have FL4:=j4 (fun o=>qp9 (hr4.alloc o) hs 2 (j3 s (j3 s (j3 s st))).place (by decide));have HK4:=j4 (fun o=>((q9 HK3).trans hk4).alloc hlt o);clear hk4 hr4 hv4 hg4 hp4)|(go_at_call 172;refine (qa6 (q9 H0) hs (by omega) (by omega)).mono ?_;rintro e w1 ⟨rfl,hk1,hr1⟩;have HV1:=j4 ((q9 HV0).kept hk1);have HG1:=j4 ((q9 HG0).kept hk1);have HK1:=j4 ((q9 HK0).trans hk1);have HR1:=j4 hr1;clear hk1 hr1)|(go_at_call 344;refine (qz6 (q9 HR1) hs k4).mono ?_;rintro e w2 ⟨rfl,hk2,hr2⟩;have hv2:=(q9 HV1).kept hk2;have hL2:=hv2.lt;have hv3:VN ((w2.setCell ⟨w.heap.size,3,none⟩ (.string (BS (j3 s st).tk.str))).alloc (.cells #[.int .i64 4,.int .i64 (j3 s st).place,.int .i64 (j3 s st).after,.string (BS (j3 s st).tk.str),.int .i64 (tkN (j3 s st))] 235)) rb w.heap.size 241 #[.string ⟨#[76,73,75,69]⟩,.int .i64 st.place,.slice (some ⟨g,0,none⟩) 1 1,.string (BS (j3 s st).tk.str),.string ⟨#[]⟩,.slice none 0 0,.int .i64 0,.bool neg,.int .i64 0]:=(hv2.set 3 _).alloc (by simpa using hr2.lt) _;have hr3:RT ((w2.setCell ⟨w.heap.size,3,none⟩ (.string (BS (j3 s st).tk.str))).alloc (.cells #[.int .i64 4,.int .i64 (j3 s st).place,.int .i64 (j3 s st).after,.string (BS (j3 s st).tk.str),.int .i64 (tkN (j3 s st))] 235)) rb s (ns++new) (j+1+1) (j3 s (j3 s st)):=(hv2.rt (by decide) (by decide) hr2 3 _).alloc _;have hg3:VN ((w2.setCell ⟨w.heap.size,3,none⟩ (.string (BS (j3 s st).tk.str))).alloc (.cells #[.int .i64 4,.int .i64 (j3 s st).place,.int .i64 (j3 s st).after,.string (BS (j3 s st).tk.str),.int .i64 (tkN (j3 s st))] 235)) rb g 3 #[.int .i64 i0]:=(((q9 HG1).kept hk2).setB (by omega) n0 3 _).alloc (by simpa using hr2.lt) _;have hk3:TKept rb w ((w2.setCell ⟨w.heap.size,3,none⟩ (.string (BS (j3 s st).tk.str))).alloc (.cells #[.int .i64 4,.int .i64 (j3 s st).place,.int .i64 (j3 s st).after,.string (BS (j3 s st).tk.str),.int .i64 (tkN (j3 s st))] 235)):=((((q9 HK1).trans hk2).far hlt (p:=⟨w.heap.size,3,none⟩) (Nat.le_refl _) _).alloc hlt _);have hp3:VN ((w2.setCell ⟨w.heap.size,3,none⟩ (.string (BS (j3 s st).tk.str))).alloc (.cells #[.int .i64 4,.int .i64 (j3 s st).place,.int .i64 (j3 s st).after,.string (BS (j3 s st).tk.str),.int .i64 (tkN (j3 s st))] 235)) rb w2.heap.size 235 #[.int .i64 4,.int .i64 (j3 s st).place,.int .i64 (j3 s st).after,.string (BS (j3 s st).tk.str),.int .i64 (tkN (j3 s st))]:=VN.new (hv2.rt (by decide) (by decide) hr2 3 _) _ _ (by simp);have c83:=hr3.c8;have p0:w2.cell? ⟨w.heap.size,0,none⟩=some (.string ⟨#[76,73,75,69]⟩):=hv2.cell 0;have p1:w2.cell? ⟨w.heap.size,1,none⟩=some (.int .i64 st.place):=hv2.cell 1;have p2:w2.cell? ⟨w.heap.size,2,none⟩=some (.slice (some ⟨g,0,none⟩) 1 1):=hv2.cell 2;have p3:w2.cell? ⟨w.heap.size,3,none⟩=some (.string ⟨#[]⟩):=hv2.cell 3;have p4:w2.cell? ⟨w.heap.size,4,none⟩=some (.string ⟨#[]⟩):=hv2.cell 4;have p5:w2.cell? ⟨w.heap.size,5,none⟩=some (.slice none 0 0):=hv2.cell 5;have p6:w2.cell? ⟨w.heap.size,6,none⟩=some (.int .i64 0):=hv2.cell 6;have p7:w2.cell? ⟨w.heap.size,7,none⟩=some (.bool neg):=hv2.cell 7;have p8:w2.cell? ⟨w.heap.size,8,none⟩=some (.int .i64 0):=hv2.cell 8;have pz:∀i,w2.frozen? ⟨w.heap.size,i,none⟩=false:=hv2.frz;have HV3:=j4 hv3;have HR3:=j4 hr3;have HG3:=j4 hg3;have HK3:=j4 hk3;have HP3:=j4 hp3;have hrlt:=hr2.lt;have nr2:¬rb=w2.heap.size:=(by omega);have nr2':¬w2.heap.size=rb:=(by omega);have c82:=hr2.c8;clear hk2 hr2 hv2 hv3 hr3 hg3 hk3 hp3 c83)|(go_at_call 215;refine (qm7 (q9 HR3) 13 (X:=⟨#[69,83,67,65,80,69]⟩) rfl (by decide) (by decide) rfl).mono ?_;rintro e w' ⟨rfl,hw'⟩;subst w';rw [hq13])|(go_at_call 174;refine (q9 FL4 _).mono ?_;rintro e w6 ⟨rfl,hk6,hr6⟩;have HK6:=j4 ((q9 HK4 _).trans hk6);have HR6:=j4 hr6;clear hk6 hr6))
     go_ret
     exact ⟨q9 HK6,0,rfl,ho ▸ (q9 HR6).more (by omega)⟩
    ·clear hcond k44
     go_enter Tryz.func325,Tryz.ntmps325
     go_wp2_with (first|(go_at_call 172;have _q:=HR3;refine (qa6 (q9 HR3) hs (by omega) (by omega)).mono ?_;rintro e w4 ⟨rfl,hk4,hr4⟩;have hv4:=(q9 HV3).kept hk4;have hg4:=(q9 HG3).kept hk4;have hp4:=(q9 HP3).kept hk4;have hL4:=hv4.lt;have hP4:=hp4.lt;obtain ⟨e2,e3,e4,e5,e6⟩:=hr4.ct;have d0:w4.cell? ⟨w.heap.size,0,none⟩=some (.string ⟨#[76,73,75,69]⟩):=hv4.cell 0;have d1:w4.cell? ⟨w.heap.size,1,none⟩=some (.int .i64 st.place):=hv4.cell 1;have d2:w4.cell? ⟨w.heap.size,2,none⟩=some (.slice (some ⟨g,0,none⟩) 1 1):=hv4.cell 2;have d3:w4.cell? ⟨w.heap.size,3,none⟩=some (.string (BS (j3 s st).tk.str)):=hv4.cell 3;have d4:w4.cell? ⟨w.heap.size,4,none⟩=some (.string ⟨#[]⟩):=hv4.cell 4;have d5:w4.cell? ⟨w.heap.size,5,none⟩=some (.slice none 0 0):=hv4.cell 5;have d6:w4.cell? ⟨w.heap.size,6,none⟩=some (.int .i64 0):=hv4.cell 6;have d7:w4.cell? ⟨w.heap.size,7,none⟩=some (.bool neg):=hv4.cell 7;have d8:w4.cell? ⟨w.heap.size,8,none⟩=some (.int .i64 0):=hv4.cell 8;have dz:∀i,w4.frozen? ⟨w.heap.size,i,none⟩=false:=hv4.frz;have pp1:w4.cell? ⟨w2.heap.size,1,none⟩=some (.int .i64 (j3 s st).place):=hp4.cell 1;have hlt4:=hr4.lt;have m1:¬rb=w4.heap.size:=(by omega);have m2:¬w4.heap.size=rb:=(by omega);have m3:¬w.heap.size=w4.heap.size:=(by omega);have m4:w.heap.size<w4.heap.size:=hL4;have m5:w2.heap.size<w4.heap.size:=hP4;have FL4:=j4 (fun o=>qp9 (hr4.alloc o) hs 2 (j3 s (j3 s (j3 s st))).place (by decide));have HK4:=j4 (fun o=>((q9 HK3).trans hk4).alloc hlt o);clear hk4 hr4 hv4 hg4 hp4)|(go_at_call 172;refine (qa6 (q9 H0) hs (by omega) (by omega)).mono ?_;rintro e w1 ⟨rfl,hk1,hr1⟩;have HV1:=j4 ((q9 HV0).kept hk1);have HG1:=j4 ((q9 HG0).kept hk1);have HK1:=j4 ((q9 HK0).trans hk1);have HR1:=j4 hr1;clear hk1 hr1)|(go_at_call 344;refine (qz6 (q9 HR1) hs k4).mono ?_;rintro e w2 ⟨rfl,hk2,hr2⟩;have hv2:=(q9 HV1).kept hk2;have hL2:=hv2.lt;have hv3:VN ((w2.setCell ⟨w.heap.size,3,none⟩ (.string (BS (j3 s st).tk.str))).alloc (.cells #[.int .i64 4,.int .i64 (j3 s st).place,.int .i64 (j3 s st).after,.string (BS (j3 s st).tk.str),.int .i64 (tkN (j3 s st))] 235)) rb w.heap.size 241 #[.string ⟨#[76,73,75,69]⟩,.int .i64 st.place,.slice (some ⟨g,0,none⟩) 1 1,.string (BS (j3 s st).tk.str),.string ⟨#[]⟩,.slice none 0 0,.int .i64 0,.bool neg,.int .i64 0]:=(hv2.set 3 _).alloc (by simpa using hr2.lt) _;have hr3:RT ((w2.setCell ⟨w.heap.size,3,none⟩ (.string (BS (j3 s st).tk.str))).alloc (.cells #[.int .i64 4,.int .i64 (j3 s st).place,.int .i64 (j3 s st).after,.string (BS (j3 s st).tk.str),.int .i64 (tkN (j3 s st))] 235)) rb s (ns++new) (j+1+1) (j3 s (j3 s st)):=(hv2.rt (by decide) (by decide) hr2 3 _).alloc _;have hg3:VN ((w2.setCell ⟨w.heap.size,3,none⟩ (.string (BS (j3 s st).tk.str))).alloc (.cells #[.int .i64 4,.int .i64 (j3 s st).place,.int .i64 (j3 s st).after,.string (BS (j3 s st).tk.str),.int .i64 (tkN (j3 s st))] 235)) rb g 3 #[.int .i64 i0]:=(((q9 HG1).kept hk2).setB (by omega) n0 3 _).alloc (by simpa using hr2.lt) _;have hk3:TKept rb w ((w2.setCell ⟨w.heap.size,3,none⟩ (.string (BS (j3 s st).tk.str))).alloc (.cells #[.int .i64 4,.int .i64 (j3 s st).place,.int .i64 (j3 s st).after,.string (BS (j3 s st).tk.str),.int .i64 (tkN (j3 s st))] 235)):=((((q9 HK1).trans hk2).far hlt (p:=⟨w.heap.size,3,none⟩) (Nat.le_refl _) _).alloc hlt _);have hp3:VN ((w2.setCell ⟨w.heap.size,3,none⟩ (.string (BS (j3 s st).tk.str))).alloc (.cells #[.int .i64 4,.int .i64 (j3 s st).place,.int .i64 (j3 s st).after,.string (BS (j3 s st).tk.str),.int .i64 (tkN (j3 s st))] 235)) rb w2.heap.size 235 #[.int .i64 4,.int .i64 (j3 s st).place,.int .i64 (j3 s st).after,.string (BS (j3 s st).tk.str),.int .i64 (tkN (j3 s st))]:=VN.new (hv2.rt (by decide) (by decide) hr2 3 _) _ _ (by simp);have c83:=hr3.c8;have p0:w2.cell? ⟨w.heap.size,0,none⟩=some (.string ⟨#[76,73,75,69]⟩):=hv2.cell 0;have p1:w2.cell? ⟨w.heap.size,1,none⟩=some (.int .i64 st.place):=hv2.cell 1;have p2:w2.cell? ⟨w.heap.size,2,none⟩=some (.slice (some ⟨g,0,none⟩) 1 1):=hv2.cell 2;have p3:w2.cell? ⟨w.heap.size,3,none⟩=some (.string ⟨#[]⟩):=hv2.cell 3;have p4:w2.cell? ⟨w.heap.size,4,none⟩=some (.string ⟨#[]⟩):=hv2.cell 4;have p5:w2.cell? ⟨w.heap.size,5,none⟩=some (.slice none 0 0):=hv2.cell 5;have p6:w2.cell? ⟨w.heap.size,6,none⟩=some (.int .i64 0):=hv2.cell 6;have p7:w2.cell? ⟨w.heap.size,7,none⟩=some (.bool neg):=hv2.cell 7;have p8:w2.cell? ⟨w.heap.size,8,none⟩=some (.int .i64 0):=hv2.cell 8;have pz:∀i,w2.frozen? ⟨w.heap.size,i,none⟩=false:=hv2.frz;have HV3:=j4 hv3;have HR3:=j4 hr3;have HG3:=j4 hg3;have HK3:=j4 hk3;have HP3:=j4 hp3;have hrlt:=hr2.lt;have nr2:¬rb=w2.heap.size:=(by omega);have nr2':¬w2.heap.size=rb:=(by omega);have c82:=hr2.c8;clear hk2 hr2 hv2 hv3 hr3 hg3 hk3 hp3 c83)|(go_at_call 215;refine (qm7 (q9 HR3) 13 (X:=⟨#[69,83,67,65,80,69]⟩) rfl (by decide) (by decide) rfl).mono ?_;rintro e w' ⟨rfl,hw'⟩;subst w';rw [hq13])|(go_at_call 174;refine (q9 FL4 _).mono ?_;rintro e w6 ⟨rfl,hk6,hr6⟩;have HK6:=j4 ((q9 HK4 _).trans hk6);have HR6:=j4 hr6;clear hk6 hr6))
     go_ret
     exact ⟨q9 HK6,0,rfl,ho ▸ (q9 HR6).more (by omega)⟩
  ·rw [ja1 k4 k13]
   have hq13:((j3 s (j3 s st)).tk.kind==13)=false:=beq_eq_false_iff_ne.2 k13
   go_enter Tryz.func325,Tryz.ntmps325
   go_wp2_with (first|(go_at_call 172;refine (qa6 (q9 H0) hs (by omega) (by omega)).mono ?_;rintro e w1 ⟨rfl,hk1,hr1⟩;have HV1:=j4 ((q9 HV0).kept hk1);have HG1:=j4 ((q9 HG0).kept hk1);have HK1:=j4 ((q9 HK0).trans hk1);have HR1:=j4 hr1;clear hk1 hr1)|(go_at_call 344;refine (qz6 (q9 HR1) hs k4).mono ?_;rintro e w2 ⟨rfl,hk2,hr2⟩;have hv2:=(q9 HV1).kept hk2;have hL2:=hv2.lt;have hv3:VN ((w2.setCell ⟨w.heap.size,3,none⟩ (.string (BS (j3 s st).tk.str))).alloc (.cells #[.int .i64 4,.int .i64 (j3 s st).place,.int .i64 (j3 s st).after,.string (BS (j3 s st).tk.str),.int .i64 (tkN (j3 s st))] 235)) rb w.heap.size 241 #[.string ⟨#[76,73,75,69]⟩,.int .i64 st.place,.slice (some ⟨g,0,none⟩) 1 1,.string (BS (j3 s st).tk.str),.string ⟨#[]⟩,.slice none 0 0,.int .i64 0,.bool neg,.int .i64 0]:=(hv2.set 3 _).alloc (by simpa using hr2.lt) _;have hr3:RT ((w2.setCell ⟨w.heap.size,3,none⟩ (.string (BS (j3 s st).tk.str))).alloc (.cells #[.int .i64 4,.int .i64 (j3 s st).place,.int .i64 (j3 s st).after,.string (BS (j3 s st).tk.str),.int .i64 (tkN (j3 s st))] 235)) rb s (ns++new) (j+1+1) (j3 s (j3 s st)):=(hv2.rt (by decide) (by decide) hr2 3 _).alloc _;have hg3:VN ((w2.setCell ⟨w.heap.size,3,none⟩ (.string (BS (j3 s st).tk.str))).alloc (.cells #[.int .i64 4,.int .i64 (j3 s st).place,.int .i64 (j3 s st).after,.string (BS (j3 s st).tk.str),.int .i64 (tkN (j3 s st))] 235)) rb g 3 #[.int .i64 i0]:=(((q9 HG1).kept hk2).setB (by omega) n0 3 _).alloc (by simpa using hr2.lt) _;have hk3:TKept rb w ((w2.setCell ⟨w.heap.size,3,none⟩ (.string (BS (j3 s st).tk.str))).alloc (.cells #[.int .i64 4,.int .i64 (j3 s st).place,.int .i64 (j3 s st).after,.string (BS (j3 s st).tk.str),.int .i64 (tkN (j3 s st))] 235)):=((((q9 HK1).trans hk2).far hlt (p:=⟨w.heap.size,3,none⟩) (Nat.le_refl _) _).alloc hlt _);have hp3:VN ((w2.setCell ⟨w.heap.size,3,none⟩ (.string (BS (j3 s st).tk.str))).alloc (.cells #[.int .i64 4,.int .i64 (j3 s st).place,.int .i64 (j3 s st).after,.string (BS (j3 s st).tk.str),.int .i64 (tkN (j3 s st))] 235)) rb w2.heap.size 235 #[.int .i64 4,.int .i64 (j3 s st).place,.int .i64 (j3 s st).after,.string (BS (j3 s st).tk.str),.int .i64 (tkN (j3 s st))]:=VN.new (hv2.rt (by decide) (by decide) hr2 3 _) _ _ (by simp);have c83:=hr3.c8;have p0:w2.cell? ⟨w.heap.size,0,none⟩=some (.string ⟨#[76,73,75,69]⟩):=hv2.cell 0;have p1:w2.cell? ⟨w.heap.size,1,none⟩=some (.int .i64 st.place):=hv2.cell 1;have p2:w2.cell? ⟨w.heap.size,2,none⟩=some (.slice (some ⟨g,0,none⟩) 1 1):=hv2.cell 2;have p3:w2.cell? ⟨w.heap.size,3,none⟩=some (.string ⟨#[]⟩):=hv2.cell 3;have p4:w2.cell? ⟨w.heap.size,4,none⟩=some (.string ⟨#[]⟩):=hv2.cell 4;have p5:w2.cell? ⟨w.heap.size,5,none⟩=some (.slice none 0 0):=hv2.cell 5;have p6:w2.cell? ⟨w.heap.size,6,none⟩=some (.int .i64 0):=hv2.cell 6;have p7:w2.cell? ⟨w.heap.size,7,none⟩=some (.bool neg):=hv2.cell 7;have p8:w2.cell? ⟨w.heap.size,8,none⟩=some (.int .i64 0):=hv2.cell 8;have pz:∀i,w2.frozen? ⟨w.heap.size,i,none⟩=false:=hv2.frz;have HV3:=j4 hv3;have HR3:=j4 hr3;have HG3:=j4 hg3;have HK3:=j4 hk3;have HP3:=j4 hp3;have hrlt:=hr2.lt;have nr2:¬rb=w2.heap.size:=(by omega);have nr2':¬w2.heap.size=rb:=(by omega);have c82:=hr2.c8;clear hk2 hr2 hv2 hv3 hr3 hg3 hk3 hp3 c83)|(go_at_call 215;refine (qm7 (q9 HR3) 13 (X:=⟨#[69,83,67,65,80,69]⟩) rfl (by decide) (by decide) rfl).mono ?_;rintro e w' ⟨rfl,hw'⟩;subst w';rw [hq13])|(go_at_call 216;refine (vu3 (q9 HR3) hs ⟨22,st.place,0,(j3 s st).tk.str,[],[]⟩ rfl [i0] neg rfl rfl rfl (.inr ⟨g,1,#[.int .i64 i0],(0,0),rfl,(q9 HG3).past,(q9 HG3).blk,(q9 HG3).no,fun j u hu=>by simpa [qy3] using hu⟩) (RowOf.no _ _ _)).mono ?_;rintro e w9 ⟨rfl,hk9,hr9⟩;have HK9:=j4 ((q9 HK3).trans hk9);have HR9:=j4 hr9;clear hk9 hr9))
   go_ret
   refine ⟨q9 HK9,new++[qj5 ⟨22,st.place,0,(j3 s st).tk.str,[],[]⟩ [ns.length+new.length - 1] neg],qg5 (by simp), ?_,ho,by omega, ?_⟩
   ·have:=q9 HR9
    rw [List.append_assoc,q9 HI0] at this
    exact this.less (by omega)
   ·cases neg with
    | false=>exact Flat.un _ (q9 HFL)
    | true=>exact Flat.neg1 _ _ (.inr (.inl rfl)) (q9 HFL)
 ·rw [likeR_no k4]
  go_enter Tryz.func325,Tryz.ntmps325
  go_wp2_with (first|(go_at_call 172;refine (qa6 (q9 H0) hs (by omega) (by omega)).mono ?_;rintro e w1 ⟨rfl,hk1,hr1⟩;have HV1:=j4 ((q9 HV0).kept hk1);have HG1:=j4 ((q9 HG0).kept hk1);have HK1:=j4 ((q9 HK0).trans hk1);have HR1:=j4 hr1;clear hk1 hr1)|(go_at_call 344;refine (rtext_no (q9 HR1) hs k4).mono ?_;rintro e w2 ⟨rfl,hk2,hr2⟩;have hv2:=(q9 HV1).kept hk2;have hL2:=hv2.lt;have hv3:VN ((w2.setCell ⟨w.heap.size,3,none⟩ (.string (BS (tkS (j3 s st))))).alloc (.cells #[.int .i64 (rK (j3 s st).tk.kind),.int .i64 (j3 s st).place,.int .i64 (tkZ (j3 s st)),.string (BS (tkS (j3 s st))),.int .i64 (tkN (j3 s st))] 235)) rb w.heap.size 241 #[.string ⟨#[76,73,75,69]⟩,.int .i64 st.place,.slice (some ⟨g,0,none⟩) 1 1,.string (BS (tkS (j3 s st))),.string ⟨#[]⟩,.slice none 0 0,.int .i64 0,.bool neg,.int .i64 0]:=(hv2.set 3 _).alloc (by simpa using hr2.lt) _;have hr3:RE ((w2.setCell ⟨w.heap.size,3,none⟩ (.string (BS (tkS (j3 s st))))).alloc (.cells #[.int .i64 (rK (j3 s st).tk.kind),.int .i64 (j3 s st).place,.int .i64 (tkZ (j3 s st)),.string (BS (tkS (j3 s st))),.int .i64 (tkN (j3 s st))] 235)) rb s 2 (j3 s st).place (j3 s st).op 200:=(hv2.re (by decide) (by decide) hr2 3 _).alloc _;have hg3:VN ((w2.setCell ⟨w.heap.size,3,none⟩ (.string (BS (tkS (j3 s st))))).alloc (.cells #[.int .i64 (rK (j3 s st).tk.kind),.int .i64 (j3 s st).place,.int .i64 (tkZ (j3 s st)),.string (BS (tkS (j3 s st))),.int .i64 (tkN (j3 s st))] 235)) rb g 3 #[.int .i64 i0]:=(((q9 HG1).kept hk2).setB (by omega) n0 3 _).alloc (by simpa using hr2.lt) _;have hk3:TKept rb w ((w2.setCell ⟨w.heap.size,3,none⟩ (.string (BS (tkS (j3 s st))))).alloc (.cells #[.int .i64 (rK (j3 s st).tk.kind),.int .i64 (j3 s st).place,.int .i64 (tkZ (j3 s st)),.string (BS (tkS (j3 s st))),.int .i64 (tkN (j3 s st))] 235)):=((((q9 HK1).trans hk2).far hlt (p:=⟨w.heap.size,3,none⟩) (Nat.le_refl _) _).alloc hlt _);have hp3:VN ((w2.setCell ⟨w.heap.size,3,none⟩ (.string (BS (tkS (j3 s st))))).alloc (.cells #[.int .i64 (rK (j3 s st).tk.kind),.int .i64 (j3 s st).place,.int .i64 (tkZ (j3 s st)),.string (BS (tkS (j3 s st))),.int .i64 (tkN (j3 s st))] 235)) rb w2.heap.size 235 #[.int .i64 (rK (j3 s st).tk.kind),.int .i64 (j3 s st).place,.int .i64 (tkZ (j3 s st)),.string (BS (tkS (j3 s st))),.int .i64 (tkN (j3 s st))]:=VN.newE (hv2.re (by decide) (by decide) hr2 3 _) _ _ (by simp);have c83:=hr3.c8;obtain ⟨c83,hen⟩:=c83;have p0:w2.cell? ⟨w.heap.size,0,none⟩=some (.string ⟨#[76,73,75,69]⟩):=hv2.cell 0;have p1:w2.cell? ⟨w.heap.size,1,none⟩=some (.int .i64 st.place):=hv2.cell 1;have p2:w2.cell? ⟨w.heap.size,2,none⟩=some (.slice (some ⟨g,0,none⟩) 1 1):=hv2.cell 2;have p3:w2.cell? ⟨w.heap.size,3,none⟩=some (.string ⟨#[]⟩):=hv2.cell 3;have p4:w2.cell? ⟨w.heap.size,4,none⟩=some (.string ⟨#[]⟩):=hv2.cell 4;have p5:w2.cell? ⟨w.heap.size,5,none⟩=some (.slice none 0 0):=hv2.cell 5;have p6:w2.cell? ⟨w.heap.size,6,none⟩=some (.int .i64 0):=hv2.cell 6;have p7:w2.cell? ⟨w.heap.size,7,none⟩=some (.bool neg):=hv2.cell 7;have p8:w2.cell? ⟨w.heap.size,8,none⟩=some (.int .i64 0):=hv2.cell 8;have pz:∀i,w2.frozen? ⟨w.heap.size,i,none⟩=false:=hv2.frz;have HV3:=j4 hv3;have HR3:=j4 hr3;have HG3:=j4 hg3;have HK3:=j4 hk3;have HP3:=j4 hp3;have hrlt:=hr2.lt;have nr2:¬rb=w2.heap.size:=(by omega);have nr2':¬w2.heap.size=rb:=(by omega);have c82:=hr2.c8;obtain ⟨c82,_⟩:=c82;clear hk2 hr2 hv2 hv3 hr3 hg3 hk3 hp3 c83)|(go_at_call 215;refine (ris_re (q9 HR3) (by decide)).mono ?_;rintro e w' ⟨rfl,hw'⟩;subst w')|(go_at_call 216;refine (vb4 (q9 HR3) (by omega) [i0] [] neg (.inr ⟨g,1,#[.int .i64 i0],(0,0),rfl,(q9 HG3).past,(q9 HG3).blk,(q9 HG3).no,fun j u hu=>by simpa [qy3] using hu⟩) (RowOf.no _ _ _)).mono ?_;rintro e w9 ⟨i9,rfl,hk9,hr9⟩;have HK9:=j4 ((q9 HK3).trans hk9);have HR9:=j4 hr9;clear hk9 hr9))
  go_ret
  exact ⟨q9 HK9,i9,rfl,ho ▸ (q9 HR9).more (by omega)⟩
end
section
def RD (w:World) (rb:Nat) (s:ByteArray) (pl:Int) (op m lo:Nat):Prop:=
 ∃(ns:List RN) (nv:Value) (st:St),TrC w rb nv s (rK st.tk.kind) st.place (tkZ st) (BS (tkS st)) (tkN st) op 0 0∧NodesAt w rb nv ns∧(st.tk.kind=11∨st.tk.kind=12)∧(st.place:Int)=pl∧ns.length≤m∧lo≤st.place∧st.place≤s.size
def RX (w:World) (rb:Nat) (s:ByteArray) (en pl:Int) (op m lo:Nat):Prop:=RE w rb s en pl op m∨(en=2∧RD w rb s pl op m lo)
section
variable {w w':World} {rb:Nat} {s:ByteArray} {en pl:Int} {op m lo:Nat}
theorem RX.lt (h:RX w rb s en pl op m lo):rb<w.heap.size:=by
 rcases h with h|⟨_,ns,nv,st,h,_⟩
 ·exact h.lt
 ·exact h.lt
theorem RX.more {m' lo':Nat} (h:RX w rb s en pl op m lo) (hm:m≤m') (hl:lo'≤lo):RX w rb s en pl op m' lo':=by
 rcases h with h|⟨e,ns,nv,st,h1,h2,h3,h4,h5,h6,h7⟩
 ·exact .inl (h.more hm)
 ·exact .inr ⟨e,ns,nv,st,h1,h2,h3,h4,by omega,by omega,h7⟩
theorem RX.alloc (h:RX w rb s en pl op m lo) (o:Obj):RX (w.alloc o) rb s en pl op m lo:=by
 rcases h with h|⟨e,ns,nv,st,h1,h2,h3⟩
 ·exact .inl (h.alloc o)
 ·exact .inr ⟨e,ns,nv,st,h1.alloc o,h2.below h1.lt ((Below.refl _ _).alloc (Nat.le_refl _) o),h3⟩
theorem RX.fresh (h:RX w rb s en pl op m lo) (o:Obj):¬qy2 (w.alloc o) rb w.heap.size:=by
 rcases h with h|⟨e,ns,nv,st,h1,h2,h3⟩
 ·exact h.fresh o
 ·exact h2.fresh h1.c0 h1.lt o
theorem RX.c7 (h:RX w rb s en pl op m lo):w.cell? ⟨rb,7,none⟩=some (.int .i64 op)∧∀i,w.frozen? ⟨rb,i,none⟩=false:=by
 rcases h with h|⟨e,ns,nv,st,h1,_⟩
 ·exact h.c7
 ·exact ⟨h1.c7,h1.fz⟩
theorem RX.setOp (h:RX w rb s en pl op m lo) (n:Nat) (o:Int) (ho:o=n):RX (w.setCell ⟨rb,7,none⟩ (.int .i64 o)) rb s en pl n m lo∧TKept rb w (w.setCell ⟨rb,7,none⟩ (.int .i64 o)):=by
 rcases h with h|⟨e,ns,nv,st,hT,hN,h3⟩
 ·exact ⟨.inl (h.setOp n o ho).1,(h.setOp n o ho).2⟩
 ·subst ho
  have hK:=(Kept.refl rb w).setCell 7 (.int .i64 n)
  have hT':=hT.setOp n
  exact ⟨.inr ⟨e,ns,nv,st,hT',hN.kept (hT.c0.trans hT'.c0.symm) hK,h3⟩,TKept.of_kept hK (hT'.c0.trans hT.c0.symm)⟩
theorem radd_rx (h:RX w rb s en pl op m lo) (hm:m≤1000) (x:RN) {iv lv:Value} (hiv:RowOf w rb 3 iv (qy3 x.ins)) (hlv:RowOf w rb 9 lv (qa0 x.texts)) :
  Calls Tryz.prog 216 #[.pointer (some ⟨rb,0,none⟩),rnV x iv lv] w fun e w'=>∃i:Nat,e=.returned (.int .i64 i)∧TKept rb w w'∧RX w' rb s en pl op (m+1) lo:=by
 rcases h with h|⟨e,ns,nv,st,hT,hN,h3,h4,h5,h6,h7⟩
 ·refine (vp0 h hm x hiv hlv).mono ?_
  rintro e w' ⟨i,rfl,hk,hr⟩
  exact ⟨i,rfl,hk,.inl hr⟩
 ·refine (qz1 hT hN x hiv hlv (by omega)).mono ?_
  rintro e' w' ⟨rfl,hK,nv',hT',hN'⟩
  exact ⟨ns.length,rfl,hK,.inr ⟨e,_,nv',st,hT',hN',h3,h4,by simp;omega,h6,h7⟩⟩
theorem jj4 (h:RX w rb s en pl op m lo) (hm:m≤1000) (N:List UInt8) (a:Int) (i:Nat) {NB:ByteArray} (hN:BS N=NB) {g:Nat} (hg:g=w.heap.size) :
  Calls Tryz.prog 216 #[.pointer (some ⟨rb,0,none⟩),.agg #[.string NB,.int .i64 a,.slice (some ⟨g,0,none⟩) 1 1,.string ⟨#[]⟩,.string ⟨#[]⟩,.slice none 0 0,.int .i64 0,.bool false,.int .i64 0]] (w.alloc (.cells #[.int .i64 i] 3))
   fun e w'=>∃i:Nat,e=.returned (.int .i64 i)∧TKept rb w w'∧RX w' rb s en pl op (m+1) lo:=by
 subst hN hg
 refine (radd_rx (h.alloc (.cells #[.int .i64 i] 3)) hm ⟨N,a,[i],[],[],[],0,false,0⟩ (iv:=.slice (some ⟨w.heap.size,0,none⟩) 1 1) (lv:=.slice none 0 0) (RowOf.made h.lt h.fresh _ _ 1 rfl) (RowOf.no _ _ _)).mono ?_
 rintro e w' ⟨k,rfl,hk,hr⟩
 exact ⟨k,rfl,qf6 h.lt hk,hr⟩
theorem vg9 (h:RX w rb s en pl op m lo) (hm:m≤1000) (N:List UInt8) (a:Int) (i k:Nat) {NB:ByteArray} (hN:BS N=NB) {g:Nat} (hg:g=w.heap.size) :
  Calls Tryz.prog 216 #[.pointer (some ⟨rb,0,none⟩),.agg #[.string NB,.int .i64 a,.slice (some ⟨g,0,none⟩) 2 2,.string ⟨#[]⟩,.string ⟨#[]⟩,.slice none 0 0,.int .i64 0,.bool false,.int .i64 0]] (w.alloc (.cells #[.int .i64 i,.int .i64 k] 3))
   fun e w'=>∃i:Nat,e=.returned (.int .i64 i)∧TKept rb w w'∧RX w' rb s en pl op (m+1) lo:=by
 subst hN hg
 refine (radd_rx (h.alloc (.cells #[.int .i64 i,.int .i64 k] 3)) hm ⟨N,a,[i,k],[],[],[],0,false,0⟩ (iv:=.slice (some ⟨w.heap.size,0,none⟩) 2 2) (lv:=.slice none 0 0) (RowOf.made h.lt h.fresh _ _ 2 rfl) (RowOf.no _ _ _)).mono ?_
 rintro e w' ⟨k,rfl,hk,hr⟩
 exact ⟨k,rfl,qf6 h.lt hk,hr⟩
theorem rmust_rx (h:RX w rb s en pl op m lo) (c:Int) {kind:Int} {X:ByteArray} (hX:kwT c=X.data.toList) (h5:5≤c) (h28:c≤28) (hk:rK c=kind) (h11:c≠11) (h12:c≠12) :
  Calls Tryz.prog 343 #[.pointer (some ⟨rb,0,none⟩),.int .i64 kind,.string X] w fun e w'=>e=.returned (.tuple #[])∧TKept rb w w'∧RE w' rb s en pl op m:=by
 rcases h with h|⟨e,ns,nv,st,hT,hN,h3,h4,h5',h6,h7⟩
 ·exact vp7 h (by rw [←hk];unfold rK;rw [if_neg (by omega)];split<;>decide)
 ·have hi:=isK (st:=st) hX h5 h28 kind hk
  rw [show (st.tk.kind==c)=false from beq_eq_false_iff_ne.2 (by omega)] at hi
  subst e h4
  refine (vp6 hT kind X hi).mono ?_
  rintro e w' ⟨rfl,hT',hK⟩
  exact ⟨rfl,TKept.of_kept hK (hT'.c0.trans hT.c0.symm),nv,_,ns,hT',by decide,hN.kept (hT.c0.trans hT'.c0.symm) hK,h5'⟩
theorem RD.is (h:RD w rb s pl op m lo) (c:Int) {kind:Int} {X:ByteArray} (hX:kwT c=X.data.toList) (h5:5≤c) (h28:c≤28) (hk:rK c=kind) (h11:c≠11) (h12:c≠12) :
  Calls Tryz.prog 215 #[.pointer (some ⟨rb,0,none⟩),.int .i64 kind,.string X] w fun e w'=>e=.returned (.bool false)∧w'=w:=by
 obtain ⟨ns,nv,st,hT,hN,h3,_⟩:=h
 have:=qu9 hT kind X
 rwa [isK hX h5 h28 kind hk,show (st.tk.kind==c)=false from beq_eq_false_iff_ne.2 (by omega)] at this
theorem RD.c8 (h:RD w rb s pl op m lo):w.cell? ⟨rb,8,none⟩=some (.int .i64 0):=by obtain ⟨ns,nv,st,hT,_⟩:=h;exact hT.c8
theorem meT_rx {n:Nat} (h:RX w rb s en pl op m lo) (hn:n<lo) (hs:n≤s.size):meT s w rb<s.size+2 - n:=by
 rcases h with h|⟨e,ns,nv,st,hT,hN,h3,h4,h5,h6,h7⟩
 ·rw [vt1 h];omega
 ·have h3:=hT.c3
  have h8:=hT.c8
  unfold meT plT;rw [h8,h3];simp;omega
end
def DEnds (rb:Nat) (s:ByteArray) (w:World) (op m:Nat) (ns:List RN) (j lo:Nat) (r:Res) (e:Ending) (w':World):Prop:=
 TKept rb w w'∧match r with
 | .ok t st=>∃new,e=.returned (.int .i64 ((ns.length+new.length - 1:Nat):Int))∧RT w' rb s (ns++new) j st∧st.op=op∧lo≤st.place∧Flat t ns.length new
 | .err en pl=>∃i:Nat,e=.returned (.int .i64 i)∧RX w' rb s en pl op m lo
def DReads (K:Nat) (rb:Nat) (s:ByteArray) (op m:Nat) (f:St→Res):Prop:=
 ∀(w:World) (st:St) (ns:List RN) (j:Nat),RT w rb s ns j st→st.op=op→Calls Tryz.prog K #[.pointer (some ⟨rb,0,none⟩)] w (DEnds rb s w op m ns j st.place (f st))
theorem DEnds.more {rb:Nat} {s:ByteArray} {w w':World} {op m m':Nat} {ns:List RN} {j lo lo':Nat} {r:Res} {e:Ending} (h:DEnds rb s w op m ns j lo r e w') (hm:m≤m') (hl:lo'≤lo):DEnds rb s w op m' ns j lo' r e w':=by
 obtain ⟨hk,h⟩:=h
 refine ⟨hk, ?_⟩
 cases r with
 | ok t st=>obtain ⟨new,h1,h2,h3,h4,h5⟩:=h;exact ⟨new,h1,h2,h3,by omega,h5⟩
 | err en pl=>obtain ⟨i,h1,h2⟩:=h;exact ⟨i,h1,h2.more hm hl⟩
theorem DReads.more {K rb:Nat} {s:ByteArray} {op m m':Nat} {f:St→Res} (h:DReads K rb s op m f) (hm:m≤m'):DReads K rb s op m' f:=fun w st ns j hr ho=>(h w st ns j hr ho).mono fun _ _ hE=>hE.more hm (Nat.le_refl _)
theorem REnds.d {rb:Nat} {s:ByteArray} {w w':World} {op m:Nat} {ns:List RN} {j lo:Nat} {r:Res} {e:Ending} (h:REnds rb s w op m ns j lo r e w'):DEnds rb s w op m ns j lo r e w':=by
 obtain ⟨hk,h⟩:=h
 refine ⟨hk, ?_⟩
 cases r with
 | ok t st=>exact h
 | err en pl=>obtain ⟨i,h1,h2⟩:=h;exact ⟨i,h1,.inl h2⟩
theorem qc3 (k a z:Int) (S:ByteArray) (n:Int) (w:World) :
  Calls Tryz.prog 321 #[.agg #[.int .i64 k,.int .i64 a,.int .i64 z,.string S,.int .i64 n]] w fun e w'=>e=.returned (.bool (k==5&&(S.toList==[61]||S.toList==[60,62]||S.toList==[60]||S.toList==[60,61]||S.toList==[62]||S.toList==[62,61])))∧Below w.heap.size w w':=by
 have hb:∀o,Below w.heap.size w (w.alloc o):=fun o=>(Below.refl _ _).alloc (Nat.le_refl _) o
 by_cases hk:k=5
 ·subst hk
  go_enter Tryz.func321,Tryz.ntmps321
  go_wp2_with fail
  all_goals (go_ret;refine ⟨qn7 ?_,hb _⟩;simp_all)
 ·have hk':(k==5)=false:=beq_eq_false_iff_ne.2 hk
  go_enter Tryz.func321,Tryz.ntmps321
  go_wp2_with fail
  all_goals (go_ret;exact ⟨by rw [hk'];rfl,hb _⟩)
theorem qd4 (st:St):(rK st.tk.kind==5&&((BS (tkS st)).toList==[61]||(BS (tkS st)).toList==[60,62]||(BS (tkS st)).toList==[60]||(BS (tkS st)).toList==[60,61]||(BS (tkS st)).toList==[62]||(BS (tkS st)).toList==[62,61]))=decide (16≤st.tk.kind∧st.tk.kind≤21):=by
 have i (c:Int) (X:List UInt8) (hX:kwT c=X) (h5:16≤c) (h28:c≤28):(rK st.tk.kind==5&&((BS (tkS st)).toList==X))=(st.tk.kind==c):=by
  have:=isK (st:=st) (c:=c) (X:=BS X) (by rw [qr2];exact hX) (by omega) h28 5 (by unfold rK;rw [if_neg (by omega),if_neg (by omega)])
  rwa [qe0 X] at this
 rw [Bool.and_or_distrib_left,Bool.and_or_distrib_left,Bool.and_or_distrib_left,Bool.and_or_distrib_left,Bool.and_or_distrib_left,i 16 [61] rfl (by decide) (by decide),i 17 [60,62] rfl (by decide) (by decide),i 18 [60] rfl (by decide) (by decide),i 19 [60,61] rfl (by decide) (by decide),i 20 [62] rfl (by decide) (by decide),i 21 [62,61] rfl (by decide) (by decide)]
 rw [Bool.eq_iff_iff]
 simp only [Bool.or_eq_true,beq_iff_eq,decide_eq_true_eq]
 omega
end
end Go.Proofs.YtfkcaldjphakpaaGreatDoor
