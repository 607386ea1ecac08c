/- The document's answer: IN. The document's answer: is it a whole pattern? -/
import Derived.Test.YtfkcaldjphakpaaGreatDoorE16
import Derived.Test.YtfkcaldjphakpaaGreatDoorE06
set_option maxHeartbeats 4000000
set_option maxRecDepth 100000
namespace Go.Proofs.YtfkcaldjphakpaaGreatDoor
open Go.RowKit
section
attribute [local go_sem ↓] qv7
theorem TrC.blk {w w':World} {rb:Nat} {nv:Value} {s:ByteArray} {k a z:Int} {S:ByteArray} {n op er at':Int} (h:TrC w rb nv s k a z S n op er at') (hb:w'.heap[rb]?=w.heap[rb]?):TrC w' rb nv s k a z S n op er at':=by
 have hc:∀j,w'.cell? ⟨rb,j,none⟩=w.cell? ⟨rb,j,none⟩:=fun j=>World.cell?_of_block (w:=w) (w':=w') (a:=⟨rb,j,none⟩) hb
 have hf:∀j,w'.frozen? ⟨rb,j,none⟩=w.frozen? ⟨rb,j,none⟩:=fun j=>World.frozen?_of_block (w:=w) (w':=w') (a:=⟨rb,j,none⟩) hb
 exact ⟨World.block_lt_of_cell? w' ⟨rb,0,none⟩ ((hc 0).trans h.c0),(hc _).trans h.c0,(hc _).trans h.c1,(hc _).trans h.c2,(hc _).trans h.c3,(hc _).trans h.c4,(hc _).trans h.c5,(hc _).trans h.c6,(hc _).trans h.c7,(hc _).trans h.c8,(hc _).trans h.c9,fun j=>(hf j).trans (h.fz j)⟩
theorem AT.blk {w w':World} {rb:Nat} {nv:Value} {s:ByteArray} {op:Nat} {x:PS} (h:AT w rb nv s op x) (hb:w'.heap[rb]?=w.heap[rb]?):AT w' rb nv s op x:=by
 cases x with
 | st x=>exact ⟨h.1.blk hb,h.2⟩
 | er en pl=>obtain ⟨he,a,h⟩:=h;exact ⟨he,a,h.blk hb⟩
theorem meT_st {w:World} {rb:Nat} {nv:Value} {s:ByteArray} {op:Nat} {y:St} (h:AT w rb nv s op (.st y)):meT s w rb=s.size+2 - y.place:=by
 have h3:=h.1.c3
 have h8:=h.1.c8
 unfold meT plT;rw [h8,h3];simp
theorem meT_er {w:World} {rb:Nat} {nv:Value} {s:ByteArray} {op:Nat} {en pl:Int} (h:AT w rb nv s op (.er en pl)):meT s w rb=0:=by
 obtain ⟨he,a,h⟩:=h
 unfold meT;rw [h.c8];simp only;rw [if_neg he]
theorem tis {w:World} {rb:Nat} {nv:Value} {s:ByteArray} {op:Nat} {y:St} (h:AT w rb nv s op (.st y)) (c:Int) {kind:Int} {X:ByteArray} (hX:kwT c=X.data.toList) (h5:5≤c) (h28:c≤28) (hk:rK c=kind) :
  Calls Tryz.prog 215 #[.pointer (some ⟨rb,0,none⟩),.int .i64 kind,.string X] w fun e w'=>e=.returned (.bool (y.tk.kind==c))∧w'=w:=by
 have:=qt3 h.1 kind X
 rwa [isK hX h5 h28 kind hk] at this
def vm0 (s:ByteArray) (l:Ast) (pl lo:Nat) (R:Res) (ts:List (List UInt8)) (n:Nat):PS→Prop
 | .st sl=>R=qg1 s l pl n ts sl∧s.size<n+sl.place∧ts.length≤sl.place∧lo<sl.place
 | .er en p=>R=.err en p∧ts.length≤300
def InAt (W:World) (rb L Tb:Nat) (cs:Value→Array Value) (nv:Value) (s:ByteArray) (op:Nat) (l:Ast) (pl:Nat) (R:Res) (wr:World):Prop:=
 ∃x lv ts n,AmV W rb L Tb cs lv ts wr∧AT wr rb nv s op x∧vm0 s l pl pl R ts n x
theorem In_len {s:ByteArray} {l:Ast} {pl lo:Nat} {R:Res} {ts:List (List UInt8)} {n:Nat} {x:PS} {w:World} {rb:Nat} {nv:Value} {op:Nat} (hs:s.size≤200) (h:AT w rb nv s op x) (hr:vm0 s l pl lo R ts n x):ts.length≤300:=by
 cases x with
 | st y=>have:=h.2.1.place;have:=hr.2.2.1;omega
 | er en p=>exact hr.2
theorem In_first {s:ByteArray} {l:Ast} {st:St} (hF:Fine s st) (hk:st.tk.kind=11) {S:ByteArray} (hS:strP (vp6 s 26 (.st (v6 s st))) S):vm0 s l st.place st.place (qh7 s l st) ([]++[S.data.toList]) (s.size+1) (vk0 s (vp6 s 26 (.st (v6 s st)))):=by
 have h1:=x8 s st hF.after
 have p1:=hF.step_place (by omega)
 unfold qh7
 by_cases k26:(v6 s st).tk.kind=26
 ·rw [vh6 k26] at hS ⊢
  rw [if_pos k26]
  have h2:=x8 s _ h1.after
  have p2:=h1.step_place (by omega)
  by_cases k4:(v6 s (v6 s st)).tk.kind=4
  ·rw [va9 k4,if_pos k4]
   have p3:=h2.step_place (by omega)
   have e:S.data.toList=(v6 s (v6 s st)).tk.str:=by
    rw [show S=BS (tkS (v6 s (v6 s st))) from hS,qm6]
    unfold tkS rS;rw [if_neg (by omega),if_pos (by omega)]
   rw [List.nil_append,e]
   exact ⟨rfl,by omega,by simp;omega,by omega⟩
  ·rw [va8 k4,if_neg k4];exact ⟨rfl,by simp⟩
 ·rw [vh5 k26,if_neg k26];exact ⟨rfl,by simp⟩
theorem In_next {s:ByteArray} {l:Ast} {pl lo:Nat} {R:Res} {ts:List (List UInt8)} {n:Nat} {sl:St} (hs:s.size≤200) (hF:Fine s sl) (hk:sl.tk.kind=28) (h:vm0 s l pl lo R ts n (.st sl)) {S:ByteArray} (hS:strP (.st (v6 s sl)) S):∃n',vm0 s l pl lo R (ts++[S.data.toList]) n' (vk0 s (.st (v6 s sl))):=by
 obtain ⟨hR,hn,ht,hlo⟩:=h
 have hp:=hF.place
 obtain ⟨n',rfl⟩:∃n',n=n'+1:=⟨n - 1,by omega⟩
 have h1:=x8 s sl hF.after
 have p1:=hF.step_place (by omega)
 by_cases k4:(v6 s sl).tk.kind=4
 ·have p2:=h1.step_place (by omega)
  have e:S.data.toList=(v6 s sl).tk.str:=by
   rw [show S=BS (tkS (v6 s sl)) from hS,qm6]
   unfold tkS rS;rw [if_neg (by omega),if_pos (by omega)]
  rw [va9 k4,e]
  exact ⟨n',by rw [hR,vb2 hk k4],by omega,by simp;omega,by omega⟩
 ·rw [va8 k4];exact ⟨0,by rw [hR,ve7 hk k4],by simp;omega⟩
theorem In_end {rb:Nat} {s:ByteArray} {op m:Nat} {l:Ast} {pl:Nat} {R:Res} {ts:List (List UInt8)} {n:Nat} {x:PS} (hs:s.size≤200) (hm:201≤m) {w w' wx:World} {nv nv':Value} {ns new:List RN} {j:Nat} {neg:Bool} {pl0:Int} {i0:Nat} (hi0:i0=ns.length+new.length - 1) (hfl:Flat l ns.length new) (hfew:(ns++new).length+j≤pl) (hpl:pl≤200)
  (hx:AT wx rb nv' s op x) (hr:vm0 s l pl pl R ts n x) (h28:∀y,x=.st y→¬y.tk.kind=28) (hk:TKept rb w w') (ha:AT w' rb nv s op (vp6 s 27 x)) (hN:NodesAt w' rb nv ((ns++new)++[qi3 ⟨21,pl,0,[],[],ts⟩ [i0] neg])) {v:Int} (hv:v=((ns++new).length:Nat)) :
  REnds rb s w op m ns j pl (negR neg pl0 R) (.returned (.int .i64 v)) w':=by
 subst hv
 refine ⟨hk, ?_⟩
 cases x with
 | er en p=>
  rw [show R=.err en p from hr.1]
  obtain ⟨he,a,hT⟩:=ha
  exact ⟨_,rfl,nv,a,_,hT,he,hN,by simp at hfew ⊢;omega⟩
 | st sl=>
  obtain ⟨hR,hn,ht,hlo⟩:=hr
  have hF:=hx.2.1
  have hp:=hF.place
  obtain ⟨n',rfl⟩:∃n',n=n'+1:=⟨n - 1,by omega⟩
  by_cases k27:sl.tk.kind=27
  ·rw [vh6 k27] at ha
   have p1:=hF.step_place (by omega)
   rw [show R=.ok (.un ⟨21,pl,0,[],[],ts⟩ l) (v6 s sl) by rw [hR,ve8 (h28 sl rfl) k27]]
   obtain ⟨hT,hF',ho⟩:=ha
   rw [List.append_assoc] at hN
   refine ⟨new++[qi3 ⟨21,pl,0,[],[],ts⟩ [i0] neg],qf7 (by simp),⟨nv, ?_,hN,hF',by simp at hfew ⊢;omega⟩,ho,by omega, ?_⟩
   ·rw [ho];exact hT
   ·subst hi0
    cases neg with
    | false=>exact Flat.un _ hfl
    | true=>exact Flat.neg1 _ _ (.inl rfl) hfl
  ·rw [vh5 k27] at ha
   rw [show R=.err 2 sl.place by rw [hR,vb3 (h28 sl rfl) k27]]
   obtain ⟨he,a,hT⟩:=ha
   exact ⟨_,rfl,nv,a,_,hT,he,hN,by simp at hfew ⊢;omega⟩
theorem In_meas {s:ByteArray} {sl:St} (hF:Fine s (v6 s sl)) (hsp:sl.place<(v6 s sl).place) (hfp:(v6 s sl).place≤s.size) {w:World} {rb:Nat} {nv:Value} {op:Nat} (h:AT w rb nv s op (vk0 s (.st (v6 s sl)))):meT s w rb<s.size+2 - sl.place:=by
 by_cases k4:(v6 s sl).tk.kind=4
 ·rw [va9 k4] at h
  rw [meT_st h]
  have h2:=qf2 s (v6 s sl)
  have h3:=hF.long (by omega)
  have hf:=h.2.1.place
  omega
 ·rw [va8 k4] at h;rw [meT_er h];omega
theorem vr0 {w:World} {B rb n:Nat} {lv:Value} {ts:List (List UInt8)} (ho:w.ownsRow B 9 1 lv n (x9 ts)) (hB:rb<B) (hn:∀k,B≤k→¬qv5 w rb k):RowOf w rb 9 lv (x9 ts):=by
 have ho':=ho
 obtain ⟨hl,hx|⟨g,cap,cur,rfl,hbg,_⟩⟩:=ho
 ·obtain ⟨rfl,rfl⟩:=hx
  rw [List.eq_nil_of_length_eq_zero (by omega:(x9 ts).length=0)]
  exact RowOf.no _ _ _
 ·exact own_row ho' hB (hn g hbg)
theorem vf1 (rb:Nat) (s:ByteArray) (hs:s.size≤200) (op m:Nat) (hm:201≤m) (w:World) (st:St) (ns new:List RN) (j:Nat) (l:Ast) (h:RT w rb s (ns++new) j st) (ho:st.op=op) (hk:st.tk.kind=11) (hfl:Flat l ns.length new) (i0:Nat) (hi0:i0=ns.length+new.length - 1) (g:Nat) (hg:VN w rb g 3 #[.int .i64 i0]) (neg:Bool) (pl0:Int) :
  Calls Tryz.prog 324 #[.pointer (some ⟨rb,0,none⟩),.agg #[.string ⟨#[]⟩,.int .i64 st.place,.slice (some ⟨g,0,none⟩) 1 1,.string ⟨#[]⟩,.string ⟨#[]⟩,.slice none 0 0,.int .i64 0,.bool neg,.int .i64 0]] w (REnds rb s w op m ns j st.place (negR neg pl0 (qh7 s l st))):=by
 have hlt:=h.lt
 have n0:¬w.heap.size=rb:=by omega
 have n1:¬rb=w.heap.size:=by omega
 have hglt:=hg.lt
 have hV0:VN (w.alloc (.cells #[.string ⟨#[73,78]⟩,.int .i64 st.place,.slice (some ⟨g,0,none⟩) 1 1,.string ⟨#[]⟩,.string ⟨#[]⟩,.slice none 0 0,.int .i64 0,.bool neg,.int .i64 0] 241)) rb w.heap.size 241 #[.string ⟨#[73,78]⟩,.int .i64 st.place,.slice (some ⟨g,0,none⟩) 1 1,.string ⟨#[]⟩,.string ⟨#[]⟩,.slice none 0 0,.int .i64 0,.bool neg,.int .i64 0]:=VN.new h _ _ rfl
 have hK0:TKept rb w (w.alloc (.cells #[.string ⟨#[73,78]⟩,.int .i64 st.place,.slice (some ⟨g,0,none⟩) 1 1,.string ⟨#[]⟩,.string ⟨#[]⟩,.slice none 0 0,.int .i64 0,.bool neg,.int .i64 0] 241)):=(TKept.refl rb w).alloc hlt _
 have hG0:VN (w.alloc (.cells #[.string ⟨#[73,78]⟩,.int .i64 st.place,.slice (some ⟨g,0,none⟩) 1 1,.string ⟨#[]⟩,.string ⟨#[]⟩,.slice none 0 0,.int .i64 0,.bool neg,.int .i64 0] 241)) rb g 3 #[.int .i64 i0]:=hg.alloc hlt _
 have hR0:RowOf (w.alloc (.cells #[.string ⟨#[73,78]⟩,.int .i64 st.place,.slice (some ⟨g,0,none⟩) 1 1,.string ⟨#[]⟩,.string ⟨#[]⟩,.slice none 0 0,.int .i64 0,.bool neg,.int .i64 0] 241)) rb 3 (.slice (some ⟨g,0,none⟩) 1 1) (qv6 [i0]):=.inr ⟨g,1,#[.int .i64 i0],(0,0),rfl,hG0.past,hG0.blk,hG0.no,fun j u hu=>by simpa [qv6] using hu⟩
 have hfew:=h.few
 have hfine:=h.fine
 have hfp:=hfine.place
 have h0:=h.alloc (.cells #[.string ⟨#[73,78]⟩,.int .i64 st.place,.slice (some ⟨g,0,none⟩) 1 1,.string ⟨#[]⟩,.string ⟨#[]⟩,.slice none 0 0,.int .i64 0,.bool neg,.int .i64 0] 241)
 have how:=h0.own_lt
 obtain ⟨nv,hT0,hN0,_,_⟩:=h0
 have hA0:AT (w.alloc (.cells #[.string ⟨#[73,78]⟩,.int .i64 st.place,.slice (some ⟨g,0,none⟩) 1 1,.string ⟨#[]⟩,.string ⟨#[]⟩,.slice none 0 0,.int .i64 0,.bool neg,.int .i64 0] 241)) rb nv s op (.st st):=⟨by rw [←ho];exact hT0,hfine,ho⟩
 have hc0:=hT0.c0
 have hW:(w.alloc (.cells #[.string ⟨#[73,78]⟩,.int .i64 st.place,.slice (some ⟨g,0,none⟩) 1 1,.string ⟨#[]⟩,.string ⟨#[]⟩,.slice none 0 0,.int .i64 0,.bool neg,.int .i64 0] 241)).heap.size=w.heap.size+1:=by simp
 have EXT:∃W:World,W=(w.alloc (.cells #[.string ⟨#[73,78]⟩,.int .i64 st.place,.slice (some ⟨g,0,none⟩) 1 1,.string ⟨#[]⟩,.string ⟨#[]⟩,.slice none 0 0,.int .i64 0,.bool neg,.int .i64 0] 241)):=⟨_,rfl⟩
 obtain ⟨W,hWe⟩:=EXT
 rw [←hWe] at hV0 hK0 hR0 how hN0 hA0 hc0 hW
 have HWe:=v7 hWe
 have ST0:=v7 (tstep hA0 hs (by omega))
 rw [hWe] at ST0
 have HV0:=v7 hV0
 have HK0:=v7 hK0
 have HR0:=v7 hR0
 have HN0:=v7 hN0
 have HC0:=v7 hc0
 have HOW:=v7 how
 have HFL:=v7 hfl
 have HI0:=v7 hi0
 have HFN:=v7 hfine
 obtain ⟨R,hR⟩:∃r,qh7 s l st=r:=⟨_,rfl⟩
 have HRR:Hid (∀S,strP (vp6 s 26 (.st (v6 s st))) S→vm0 s l st.place st.place R ([]++[S.data.toList]) (s.size+1) (vk0 s (vp6 s 26 (.st (v6 s st))))):=v7 fun S hS=>hR ▸ In_first hfine hk hS
 rw [hR]
 obtain ⟨CSX,hCSX⟩:∃f:Value→Array Value,f=fun lv=>#[.string ⟨#[73,78]⟩,.int .i64 st.place,.slice (some ⟨g,0,none⟩) 1 1,.string ⟨#[]⟩,.string ⟨#[]⟩,lv,.int .i64 0,.bool neg,.int .i64 0]:=⟨_,rfl⟩
 have HCS:=v7 hCSX
 have hcs5:∀u v,(CSX u).setIfInBounds 5 v=CSX v:=by rw [hCSX];intro u v;rfl
 have HC5:=v7 hcs5
 clear h hT0 hV0 hK0 hG0 hR0 hg hN0 hA0 hc0 how hfl hi0 hfine hR hWe hCSX hcs5
 go_enter Tryz.func324,Tryz.ntmps324
 go_wp2_with (first|(go_at_call 172;refine (q9 ST0).mono ?_;rintro e w1 ⟨rfl,hk1,ha1⟩;have HK1:=v7 (by rw [←q9 HWe] at hk1;exact hk1:Kept rb W w1);have HA1:=v7 ha1;clear hk1 ha1)|(go_at_call 343;refine (tmust (q9 HA1) hs 26 rfl (by decide) (by decide) rfl).mono ?_;rintro e w2 ⟨rfl,hk2,ha2⟩;have HK2:=v7 ((q9 HK1).trans hk2);have HA2:=v7 ha2;clear hk2 ha2)|(go_at_call 344;refine (ttext (q9 HA2) hs).mono ?_;rintro e w3 ⟨tk,ta,tz,tS,tn,rfl,hk3,ha3,hS3⟩;have hK3:=(q9 HK2).trans hk3;have hz3:=hK3.size;have hB:=But.alloc (But.refl w.heap.size w3) (.cells #[.int .i64 tk,.int .i64 ta,.int .i64 tz,.string tS,.int .i64 tn] 235);have hAm:AmV W rb w.heap.size w3.heap.size CSX (.slice none 0 0) [] (w3.alloc (.cells #[.int .i64 tk,.int .i64 ta,.int .i64 tz,.string tS,.int .i64 tn] 235)):=⟨((Mid.refl rb w.heap.size W).kept hK3).but hB,(((Below.refl w3.heap.size w3).alloc (Nat.le_refl _) _).block _ (by omega)).trans ((hK3.block _ (by omega) n0).trans ((q9 HV0).blk.trans (by rw [q9 HCS]))),⟨tk,ta,tz,tS,tn,heap_alloc_new w3 _⟩,hz3,World.ownsRow_nil _ _ _ _⟩;have hAT:=ha3.blk (hB.block rb (by omega) n1);obtain ⟨g6,cap6,w6,hap6,hL6,hr6,hz6,hA6⟩:=hAm.app (by omega) (by omega) (q9 HC5) (by simp) tS;have hap6':(appR #[62,62] 62 #[.slice none 0 0,.slice (some ⟨w3.heap.size+1,0,none⟩) 1 1]).run Tryz.prog ((w3.alloc (.cells #[.int .i64 tk,.int .i64 ta,.int .i64 tz,.string tS,.int .i64 tn] 235)).alloc (.cells #[.string tS] 9))=.ok (.slice (some ⟨g6,0,none⟩) 1 cap6) w6:=(by have:=hap6;rw [World.size_alloc] at this;exact this);have p5:w3.cell? ⟨w.heap.size,5,none⟩=some (.slice none 0 0):=(World.cell?_of_block (w:=W) (w':=w3) (a:=⟨w.heap.size,5,none⟩) (hK3.block w.heap.size (by omega) n0)).trans ((q9 HV0).cell 5);have q5:w6.cell? ⟨w.heap.size,5,none⟩=some (.slice none 0 0):=((qr1 hL6).1 5).trans (by rw [q9 HCS];rfl);have qz:∀i,w6.frozen? ⟨w.heap.size,i,none⟩=false:=(qr1 hL6).2;have nLT:w.heap.size<w3.heap.size:=(by omega);have hHT6:=(hAT.blk (w':=w6) hr6).tr ((But.refl w.heap.size w6).set 5 (.slice (some ⟨g6,0,none⟩) 1 cap6)) n1;have HA6:=v7 hA6;have HT6:=v7 hHT6;have HSt:=v7 hS3;have hTbW:W.heap.size≤w3.heap.size:=hz3;clear hap6 hk3 ha3 hK3 hB hAm hAT hL6 hr6 hA6 hHT6 hS3))
 go_loopw [20] (fun _ wr=>Hid (InAt W rb w.heap.size w3.heap.size CSX nv s op l st.place R wr)) (fun _ wr=>meT s wr rb)
 case atStart=>exact v7 ⟨_,_,_,_,q9 HA6,q9 HT6,q9 HRR _ (q9 HSt)⟩
 case round=>
  obtain ⟨x,lv,ts,n,hav,hat,hrel'⟩:=q9 hrel
  have hlen:=In_len hs hat hrel'
  have hzw:=hav.mid.size
  have HAV:=v7 hav
  have HAT:=v7 hat
  have HRL:=v7 hrel'
  cases x with
  | er en pl=>
   have c8:wr.cell? ⟨rb,8,none⟩=some (.int .i64 en):=by obtain ⟨_,a,hT⟩:=hat;exact hT.c8
   have hen:(en==0)=false:=beq_eq_false_iff_ne.2 hat.1
   have H28:Hid (∀y,(PS.er en pl)=.st y→¬y.tk.kind=28):=v7 fun y e=>by cases e
   clear hav hat hrel' hrel HA6 HT6 HRR HSt
   go_wp2_with (first|(go_at_call 343;refine (tmust (q9 HAT) hs 27 rfl (by decide) (by decide) rfl).mono ?_;rintro e w7 ⟨rfl,hk7,ha7⟩;have hv7:=(q9 HAV).kept (by omega) (by omega) hk7;have hm7:=hv7.mid;have hr7:=hv7.row;obtain ⟨x7,z7⟩:=qr1 hv7.nb;rw [q9 HCS] at x7;have r0:w7.cell? ⟨w.heap.size,0,none⟩=some (.string ⟨#[73,78]⟩):=x7 0;have r1:w7.cell? ⟨w.heap.size,1,none⟩=some (.int .i64 st.place):=x7 1;have r2:w7.cell? ⟨w.heap.size,2,none⟩=some (.slice (some ⟨g,0,none⟩) 1 1):=x7 2;have r3:w7.cell? ⟨w.heap.size,3,none⟩=some (.string ⟨#[]⟩):=x7 3;have r4:w7.cell? ⟨w.heap.size,4,none⟩=some (.string ⟨#[]⟩):=x7 4;have r5:w7.cell? ⟨w.heap.size,5,none⟩=some (lv):=x7 5;have r6:w7.cell? ⟨w.heap.size,6,none⟩=some (.int .i64 0):=x7 6;have r7:w7.cell? ⟨w.heap.size,7,none⟩=some (.bool neg):=x7 7;have r8:w7.cell? ⟨w.heap.size,8,none⟩=some (.int .i64 0):=x7 8;have HM7:=v7 hm7;have HW7:=v7 hr7;have HA7:=v7 ha7;clear hk7 ha7 hv7 x7 z7 hm7 hr7)|(go_at_call 216;refine (tadd (q9 HA7) ((q9 HM7).nodes (q9 HC0) (q9 HA7).c0 (q9 HV0) (by decide) (by decide) (q9 HN0)) (by omega) ⟨21,st.place,0,[],[],ts⟩ rfl [i0] neg rfl rfl rfl ((q9 HM7).row (q9 HC0) (q9 HA7).c0 (q9 HV0) (by decide) (q9 HR0)) (vr0 (q9 HW7) (by omega) (fun k hk' ho'=>by have:=q9 HOW k ((vz7 (q9 HC0) (q9 HA7).c0 k).1 ho');omega))).mono ?_;rintro e w8 ⟨rfl,hk8,nv8,ha8,hn8⟩;have HK8:=v7 (((q9 HK0).mid (q9 HM7) (q9 HC0) (q9 HA7).c0 (Nat.le_refl _)).trans hk8);have HA8:=v7 ha8;have HN8:=v7 hn8;clear hk8 ha8 hn8))
   go_ret
   exact In_end (new:=new) hs hm (q9 HI0) (q9 HFL) hfew (by omega) (q9 HAT) (q9 HRL) (q9 H28) (q9 HK8) (q9 HA8) (q9 HN8) (by simp)
  | st sl=>
   have c8:wr.cell? ⟨rb,8,none⟩=some (.int .i64 0):=hat.1.c8
   by_cases k28:sl.tk.kind=28
   ·have hq28:(sl.tk.kind==28)=true:=by rw [k28];rfl
    have hmu:=meT_st hat
    have hfs:=hat.2.1
    have hsp:=hfs.step_place (by omega)
    have HMU:=v7 hmu
    have hfp1:=(x8 s sl hfs.after).place
    have HFS1:=v7 (x8 s sl hfs.after)
    have HNX:Hid (∀S,strP (.st (v6 s sl)) S→∃n',vm0 s l st.place st.place R (ts++[S.data.toList]) n' (vk0 s (.st (v6 s sl)))):=v7 fun S hS=>In_next hs hfs k28 hrel' hS
    have hsp1:=hfs.place
    clear hav hat hrel' hrel HA6 HT6 HRR HSt hmu
    go_wp2_with (first|(go_at_call 215;refine (tis (q9 HAT) 28 (X:=⟨#[44]⟩) rfl (by decide) (by decide) rfl).mono ?_;rintro e w' ⟨rfl,hw'⟩;subst w';rw [hq28])|(go_at_call 172;refine (tstep (q9 HAT) hs (by omega)).mono ?_;rintro e w2x ⟨rfl,hk2,ha2⟩;have HAV2:=v7 ((q9 HAV).kept (by omega) (by omega) hk2);have HAT2:=v7 ha2;clear hk2 ha2)|(go_at_call 344;refine (ttext (q9 HAT2) hs).mono ?_;rintro e w3x ⟨tk,ta,tz,tS,tn,rfl,hk3,ha3,hS3⟩;have hv3:=(q9 HAV2).kept (by omega) (by omega) hk3;obtain ⟨k0,a0,z0,S0,m0,htb⟩:=hv3.tb;obtain ⟨y3,yz⟩:=qr1 htb;have y0:w3x.cell? ⟨w3.heap.size,0,none⟩=some (.int .i64 k0):=y3 0;have y1:w3x.cell? ⟨w3.heap.size,1,none⟩=some (.int .i64 a0):=y3 1;have y2:w3x.cell? ⟨w3.heap.size,2,none⟩=some (.int .i64 z0):=y3 2;have y4:w3x.cell? ⟨w3.heap.size,3,none⟩=some (.string S0):=y3 3;have y5:w3x.cell? ⟨w3.heap.size,4,none⟩=some (.int .i64 m0):=y3 4;have l5:w3x.cell? ⟨w.heap.size,5,none⟩=some lv:=((qr1 hv3.nb).1 5).trans (by rw [q9 HCS];rfl);have hv4:=hv3.tok (by omega) tk ta tz tS tn;obtain ⟨g6x,cap6x,w6x,hap6x,hL6,hr6,hz6x,hA6⟩:=hv4.app (by omega) (by omega) (q9 HC5) (by omega) tS;simp only [qa8] at hap6x;have q5x:w6x.cell? ⟨w.heap.size,5,none⟩=some lv:=((qr1 hL6).1 5).trans (by rw [q9 HCS];rfl);have qzx:∀i,w6x.frozen? ⟨w.heap.size,i,none⟩=false:=(qr1 hL6).2;have hTbr:¬rb=w3.heap.size:=(by omega);have hAT4:AT (((((w3x.setCell ⟨w3.heap.size,0,none⟩ (.int .i64 tk)).setCell ⟨w3.heap.size,1,none⟩ (.int .i64 ta)).setCell ⟨w3.heap.size,2,none⟩ (.int .i64 tz)).setCell ⟨w3.heap.size,3,none⟩ (.string tS)).setCell ⟨w3.heap.size,4,none⟩ (.int .i64 tn)) rb nv s op (vk0 s (.st (v6 s sl))):=((((ha3.tr ((But.refl w3.heap.size _).set 0 _) hTbr).tr ((But.refl w3.heap.size _).set 1 _) hTbr).tr ((But.refl w3.heap.size _).set 2 _) hTbr).tr ((But.refl w3.heap.size _).set 3 _) hTbr).tr ((But.refl w3.heap.size _).set 4 _) hTbr;have hAT6:=(hAT4.blk (w':=w6x) hr6).tr ((But.refl w.heap.size w6x).set 5 (.slice (some ⟨g6x,0,none⟩) (ts.length+1) cap6x)) n1;have HM6:=v7 (In_meas (q9 HFS1) hsp hfp1 hAT6);have nLTb:¬w.heap.size=w3.heap.size:=(by omega);have nLTb':¬w3.heap.size=w.heap.size:=(by omega);have HA6x:=v7 hA6;have HT6x:=v7 hAT6;have HS3:=v7 hS3;clear hk3 ha3 hS3 hv3 htb y3 hv4 hL6 hr6 hA6 hAT4 hAT6))
    go_roundw
    case rel=>
     obtain ⟨n',hn'⟩:=q9 HNX _ (q9 HS3)
     exact v7 ⟨_,_,_,n',q9 HA6x,q9 HT6x,hn'⟩
    case measure=>rw [q9 HMU];have:=q9 HM6;omega
   ·have hq28:(sl.tk.kind==28)=false:=beq_eq_false_iff_ne.2 k28
    have H28:Hid (∀y,(PS.st sl)=.st y→¬y.tk.kind=28):=v7 fun y e=>by injection e with e;subst e;exact k28
    clear hav hat hrel' hrel HA6 HT6 HRR HSt
    go_wp2_with (first|(go_at_call 215;refine (tis (q9 HAT) 28 (X:=⟨#[44]⟩) rfl (by decide) (by decide) rfl).mono ?_;rintro e w' ⟨rfl,hw'⟩;subst w';rw [hq28])|(go_at_call 343;refine (tmust (q9 HAT) hs 27 rfl (by decide) (by decide) rfl).mono ?_;rintro e w7 ⟨rfl,hk7,ha7⟩;have hv7:=(q9 HAV).kept (by omega) (by omega) hk7;have hm7:=hv7.mid;have hr7:=hv7.row;obtain ⟨x7,z7⟩:=qr1 hv7.nb;rw [q9 HCS] at x7;have r0:w7.cell? ⟨w.heap.size,0,none⟩=some (.string ⟨#[73,78]⟩):=x7 0;have r1:w7.cell? ⟨w.heap.size,1,none⟩=some (.int .i64 st.place):=x7 1;have r2:w7.cell? ⟨w.heap.size,2,none⟩=some (.slice (some ⟨g,0,none⟩) 1 1):=x7 2;have r3:w7.cell? ⟨w.heap.size,3,none⟩=some (.string ⟨#[]⟩):=x7 3;have r4:w7.cell? ⟨w.heap.size,4,none⟩=some (.string ⟨#[]⟩):=x7 4;have r5:w7.cell? ⟨w.heap.size,5,none⟩=some (lv):=x7 5;have r6:w7.cell? ⟨w.heap.size,6,none⟩=some (.int .i64 0):=x7 6;have r7:w7.cell? ⟨w.heap.size,7,none⟩=some (.bool neg):=x7 7;have r8:w7.cell? ⟨w.heap.size,8,none⟩=some (.int .i64 0):=x7 8;have HM7:=v7 hm7;have HW7:=v7 hr7;have HA7:=v7 ha7;clear hk7 ha7 hv7 x7 z7 hm7 hr7)|(go_at_call 216;refine (tadd (q9 HA7) ((q9 HM7).nodes (q9 HC0) (q9 HA7).c0 (q9 HV0) (by decide) (by decide) (q9 HN0)) (by omega) ⟨21,st.place,0,[],[],ts⟩ rfl [i0] neg rfl rfl rfl ((q9 HM7).row (q9 HC0) (q9 HA7).c0 (q9 HV0) (by decide) (q9 HR0)) (vr0 (q9 HW7) (by omega) (fun k hk' ho'=>by have:=q9 HOW k ((vz7 (q9 HC0) (q9 HA7).c0 k).1 ho');omega))).mono ?_;rintro e w8 ⟨rfl,hk8,nv8,ha8,hn8⟩;have HK8:=v7 (((q9 HK0).mid (q9 HM7) (q9 HC0) (q9 HA7).c0 (Nat.le_refl _)).trans hk8);have HA8:=v7 ha8;have HN8:=v7 hn8;clear hk8 ha8 hn8))
    go_ret
    exact In_end (new:=new) hs hm (q9 HI0) (q9 HFL) hfew (by omega) (q9 HAT) (q9 HRL) (q9 H28) (q9 HK8) (q9 HA8) (q9 HN8) (by simp)
end
section
theorem vf4 (p:ByteArray) (hp:p.size≤200) (e:UInt8) (w:World) :
  Calls Tryz.prog 345 #[.string p,.int .u8 e.toNat] w fun en w'=>en=.returned (.bool (qk3 [e] p.data.toList).isSome)∧w'=w:=by
 obtain ⟨R,hR⟩:∃r,(qk3 [e] p.data.toList).isSome=r:=⟨_,rfl⟩
 rw [hR]
 have HR:=v7 hR
 clear hR
 go_enter Tryz.func345,Tryz.ntmps345
 go_wp2_with fail
 go_loop [5] (fun iv=>∃k:Nat,k≤p.size∧iv=.int .i64 k∧Hid (R=(qk3 [e] (p.data.toList.drop k)).isSome)) (fun iv=>p.size - (intOf iv).toNat)
 case atStart=>exact ⟨0,Nat.zero_le _,rfl,v7 (by rw [List.drop_zero,q9 HR])⟩
 case round=>
  obtain ⟨k,hk,rfl,hh⟩:=hrel
  by_cases hlt:k<p.size
  ·have hpe:p.data.toList[k]?=some p[k]:=by rw [List.getElem?_eq_getElem (by rw [j4];exact hlt),j9 p k hlt]
   by_cases hx:p[k]=e
   ·have hx':(p[k].toNat:Int)=(e.toNat:Int):=by rw [hx]
    have hxb:((p[k].toNat:Int)==(e.toNat:Int))=true:=by rw [hx',beq_self_eq_true]
    by_cases hl:k+1=p.size
    ·have HT:Hid (R=false):=v7 (by rw [q9 hh,vb1 hpe (by rw [hx];rfl) (by rw [j4];omega)];rfl)
     have hlb:(((k:Int)+1)==(p.size:Int))=true:=by rw [beq_iff_eq];omega
     have hpe':=v7 hpe
     clear hh hpe hx
     go_wp2_with fail
     go_ret
     exact ⟨qc0 (by rw [q9 HT]),rfl⟩
    ·have h2:k+1<p.size:=by omega
     have hpe2:p.data.toList[k+1]?=some p[k+1]:=by rw [List.getElem?_eq_getElem (by rw [j4];exact h2),j9 p (k+1) h2]
     have HT:Hid (R=(qk3 [e] (p.data.toList.drop (k+2))).isSome):=v7 (by rw [q9 hh,vg4 hpe (by rw [hx];rfl) hpe2];cases qk3 [e] (p.data.toList.drop (k+2))<;>rfl)
     have hlb:(((k:Int)+1)==(p.size:Int))=false:=by rw [beq_eq_false_iff_ne];omega
     clear hh hpe hpe2 hx
     go_wp2_with fail
     go_round
     case rel=>exact ⟨k+2,by omega,by go_num,HT⟩
     case measure=>simp [intOf];omega
   ·have hxb:((p[k].toNat:Int)==(e.toNat:Int))=false:=by
     rw [beq_eq_false_iff_ne];intro h;exact hx (UInt8.toNat_inj.1 (by omega))
    have HT:Hid (R=(qk3 [e] (p.data.toList.drop (k+1))).isSome):=v7 (by rw [q9 hh,qy0 hpe (fun h=>hx (by injection h with h;exact h.symm))];cases qk3 [e] (p.data.toList.drop (k+1))<;>rfl)
    clear hh hpe hx
    go_wp2_with fail
    go_round
    case rel=>exact ⟨k+1,by omega,by go_num,HT⟩
    case measure=>simp [intOf];omega
  ·have HT:Hid (R=true):=v7 (by rw [q9 hh,vg3 (by rw [j4];omega)];rfl)
   clear hh
   go_wp2_with fail
   go_ret
   exact ⟨qc0 (by rw [q9 HT]),rfl⟩
end
end Go.Proofs.YtfkcaldjphakpaaGreatDoor
