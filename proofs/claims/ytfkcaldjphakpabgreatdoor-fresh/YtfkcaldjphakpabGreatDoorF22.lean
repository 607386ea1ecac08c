/- Cores: terms of the one form, their texts, and how they lie in memory. A text that has these tokens reads so. The texts of Ranges, by their tokens. is, truth, sum. What is read of tokens is read of them too where a closing parenthesis follows, some things open more, or it is too deep. The tokens of a text behind which another one stands. No bad token is read: the tokens of a selector. The shapes of terms that are read, and how many there are. The escapes and the texts of what is read are short. An error's number is never 0. -/
import Derived.Test.YtfkcaldjphakpabGreatDoorF10
import Derived.Lib.AppendIntMem
import Derived.Lib.ItoaNum
import Derived.Lib.SlicesCompact
import Derived.Test.YtfkcaldjphakpabGreatDoorF09
import Derived.Test.YtfkcaldjphakpabGreatDoorF16
import Derived.Test.YtfkcaldjphakpabGreatDoorWOf2
import Derived.Test.YtfkcaldjphakpabGreatDoorShelf
import Derived.Test.YtfkcaldjphakpabGreatDoorF03
namespace Go.Proofs.YtfkcaldjphakpabGreatDoor
open Go.RowKit
section
structure LibOk (w:World):Prop where
 err:ErrOk w
 max:4<w.heap.size∧∃m,w.cell? ⟨4,0,none⟩=some (.int .i64 m)
 pow : Lib.TabIs Tryz.prog w "internal/strconv.uint64pow10" .u64 Lib.pow10Tab
theorem LibOk.below {w w':World} {B:Nat} (h:LibOk w) (hb:Below B w w') (hB:w.heap.size≤B):LibOk w':=by
 obtain ⟨hz,m,hm⟩:=h.max
 exact ⟨h.err.below hb hB,⟨Nat.lt_of_lt_of_le hz (by have:=hb.size;omega),m,(hb.cell (p:=⟨4,0,none⟩) (Nat.lt_of_lt_of_le hz hB)).trans hm⟩,(Lib.tabBelow_of_tabIs h.pow) w' (hb.mono hB)⟩
theorem LibOk.alloc {w:World} (h:LibOk w) (o:Obj):LibOk (w.alloc o):=h.below ((Below.refl _ _).alloc (Nat.le_refl _) o) (Nat.le_refl _)
structure CP where
 op:Int
 num:Int
 str:List UInt8
 esc:List UInt8
inductive Co where
 | leaf (p:CP)
 | un (p:CP) (x:Co)
 | bin (p:CP) (x y:Co)
def qL (s:List UInt8):List UInt8:=39::(zc8 s++[39])
def qm6 (op:Int):List UInt8:=
 if op==6 then [65,78,68] else if op==7 then [79,82] else if op==8 then [61] else if op==10 then [60] else if op==11 then [60,61]
 else if op==16 then [43] else if op==17 then [45] else if op==18 then [42] else [47]
def escT (e:List UInt8):List UInt8:=if e.isEmpty then [] else [32,69,83,67,65,80,69,32]++qL e
def y7 (p:CP) (l r:List UInt8):List UInt8:=
 if p.op==0 then p.str else if p.op==1 then Lib.itoa p.num else if p.op==2 then qL p.str else if p.op==3 then [84,82,85,69] else if p.op==4 then [70,65,76,83,69]
 else if p.op==5 then [40,78,79,84,32]++l++[41] else if p.op==23 then [40]++l++[32,73,83,32,78,85,76,76,41]
 else if p.op==22 then [40]++l++[32,76,73,75,69,32]++qL p.str++escT p.esc++[41]
 else [40]++l++[32]++qm6 p.op++[32]++r++[41]
def z9:Co→List UInt8
 | .leaf p=>y7 p [] []
 | .un p x=>y7 p (z9 x) []
 | .bin p x y=>y7 p (z9 x) (z9 y)
def opC:Co→Int
 | .leaf p=>p.op
 | .un p _=>p.op
 | .bin p _ _=>p.op
def qb1 (op:Int):CP:=⟨op,0,[],[]⟩
def vv6 (op:Int):Bool:=op==6||op==7||op==8||op==16||op==18
def z8 (op:Int) (x y:Co):Co:=if vv6 op&&Op.bytesLess (z9 y) (z9 x) then .bin (qb1 op) y x else .bin (qb1 op) x y
def qh4:Co→Co
 | .leaf p=>if p.op==3 then .leaf (qb1 4) else if p.op==4 then .leaf (qb1 3) else .un (qb1 5) (.leaf p)
 | .un p x=>if p.op==5&&opC x != 0 then x else .un (qb1 5) (.un p x)
 | .bin p x y=>if p.op==6 then z8 7 (qh4 x) (qh4 y) else if p.op==7 then z8 6 (qh4 x) (qh4 y)
   else if p.op==10 then z8 11 y x else if p.op==11 then z8 10 y x else .un (qb1 5) (.bin p x y)
def qq6 (s:List UInt8):Co:=.leaf ⟨2,0,s,[]⟩
def vq4 (n:Int):Co:=.leaf ⟨1,n,[],[]⟩
def qx3 (x:Co):Co→List (List UInt8)→Co
 | f,[]=>f
 | f,t::r=>qx3 x (z8 7 f (z8 8 x (qq6 t))) r
def qs1 (ts:List (List UInt8)):List (List UInt8):=Lib.compact (ts.mergeSort fun x y=>decide (x≤y))
def qs6 (x:Co) (ts:List (List UInt8)):Co:=match qs1 ts with
 | []=>x
 | t::r=>qx3 x (z8 8 x (qq6 t)) r
def vb4 (p:Pay):CP:=⟨p.op,p.num,p.str,p.esc⟩
def j7:Ast→Co
 | .leaf p=>.leaf (vb4 p)
 | .un p x=>if p.op==14 then z8 16 (vq4 0) (j7 x) else if p.op==15 then z8 17 (vq4 0) (j7 x) else if p.op==5 then qh4 (j7 x)
   else if p.op==21 then qs6 (j7 x) p.texts else .un (vb4 p) (j7 x)
 | .bin p x y=>if p.op==12 then z8 10 (j7 y) (j7 x) else if p.op==13 then z8 11 (j7 y) (j7 x) else if p.op==9 then qh4 (z8 8 (j7 x) (j7 y)) else z8 p.op (j7 x) (j7 y)
 | .tri _ x y z=>z8 6 (z8 11 (j7 y) (j7 x)) (z8 11 (j7 x) (j7 z))
structure CellsC (B E:Nat) (w:World) (b:Nat) (p:CP) (l r:Value) (t:List UInt8):Prop where
 lo:B≤b
 hi:b<E
 within:b<w.heap.size
 c0:w.cell? ⟨b,0,none⟩=some (.int .i64 p.op)
 c1:w.cell? ⟨b,1,none⟩=some l
 c2:w.cell? ⟨b,2,none⟩=some r
 c3:w.cell? ⟨b,3,none⟩=some (.int .i64 p.num)
 c4:w.cell? ⟨b,4,none⟩=some (.string (BS p.str))
 c5:w.cell? ⟨b,5,none⟩=some (.string (BS p.esc))
 c6:w.cell? ⟨b,6,none⟩=some (.string (BS t))
def nilP:Value:=.pointer none
def at0 (b:Nat):Value:=.pointer (some ⟨b,0,none⟩)
def CoAt (B E:Nat) (w:World) (v:Value):Co→Prop
 | .leaf p=>∃b,v=at0 b∧CellsC B E w b p nilP nilP (z9 (.leaf p))
 | .un p x=>∃b vx,v=at0 b∧CellsC B E w b p vx nilP (z9 (.un p x))∧CoAt B E w vx x
 | .bin p x y=>∃b vx vy,v=at0 b∧CellsC B E w b p vx vy (z9 (.bin p x y))∧CoAt B E w vx x∧CoAt B E w vy y
theorem CellsC.keep {B E E':Nat} {w w':World} {b:Nat} {p:CP} {l r:Value} {t:List UInt8} (h:CellsC B E w b p l r t) (hE:E≤E') (hk:∀k,B≤k→k<E→w'.heap[k]?=w.heap[k]?) (hz:w.heap.size≤w'.heap.size):CellsC B E' w' b p l r t:=by
 have hc:∀j,w'.cell? ⟨b,j,none⟩=w.cell? ⟨b,j,none⟩:=fun j=>World.cell?_of_block (w:=w) (w':=w') (a:=⟨b,j,none⟩) (hk b h.lo h.hi)
 exact ⟨h.lo,Nat.lt_of_lt_of_le h.hi hE,Nat.lt_of_lt_of_le h.within hz,(hc 0).trans h.c0,(hc 1).trans h.c1,(hc 2).trans h.c2,(hc 3).trans h.c3,(hc 4).trans h.c4,(hc 5).trans h.c5,(hc 6).trans h.c6⟩
theorem CoAt.keep {B E E':Nat} {w w':World} (hE:E≤E') (hk:∀k,B≤k→k<E→w'.heap[k]?=w.heap[k]?) (hz:w.heap.size≤w'.heap.size):∀{c:Co} {v:Value},CoAt B E w v c→CoAt B E' w' v c:=by
 intro c
 induction c with
 | leaf p=>rintro v ⟨b,rfl,h⟩;exact ⟨b,rfl,h.keep hE hk hz⟩
 | un p x ih=>rintro v ⟨b,vx,rfl,h,hx⟩;exact ⟨b,vx,rfl,h.keep hE hk hz,ih hx⟩
 | bin p x y ihx ihy=>rintro v ⟨b,vx,vy,rfl,h,hx,hy⟩;exact ⟨b,vx,vy,rfl,h.keep hE hk hz,ihx hx,ihy hy⟩
theorem CoAt.below {B:Nat} {w w':World} (hb:Below w.heap.size w w') {c:Co} {v:Value} (h:CoAt B w.heap.size w v c):CoAt B w'.heap.size w' v c:=
 h.keep hb.size (fun k _ hk=>hb.block k hk) hb.size
theorem CoAt.head {B E:Nat} {w:World} {v:Value} {c:Co} (h:CoAt B E w v c):∃b p l r,v=at0 b∧p.op=opC c∧CellsC B E w b p l r (z9 c):=by
 cases c with
 | leaf p=>obtain ⟨b,rfl,h⟩:=h;exact ⟨b,p,_,_,rfl,rfl,h⟩
 | un p x=>obtain ⟨b,vx,rfl,h,_⟩:=h;exact ⟨b,p,_,_,rfl,rfl,h⟩
 | bin p x y=>obtain ⟨b,vx,vy,rfl,h,_⟩:=h;exact ⟨b,p,_,_,rfl,rfl,h⟩
def TextAt (w:World) (v:Value) (t:List UInt8):Prop:=∃b,v=at0 b∧b<w.heap.size∧w.cell? ⟨b,6,none⟩=some (.string (BS t))
theorem CoAt.text {B E:Nat} {w:World} {v:Value} {c:Co} (h:CoAt B E w v c):TextAt w v (z9 c):=by
 obtain ⟨b,p,l,r,rfl,_,h⟩:=h.head
 exact ⟨b,rfl,h.within,h.c6⟩
end
section
inductive Lx:List UInt8→List Tk→Prop where
 | nil {r:List UInt8} (h:qi7 r 0=qd8 0):Lx r []
 | cons {r:List UInt8} {k:Tk} {L:List Tk} (e:qi7 r 0=k) (h:k.kind≠0) (t:Lx (r.drop (qm0 r 0)) L):Lx r (k::L)
theorem vk8 (l:List UInt8) (k:Nat):qf8 l k=k+qf8 (l.drop k) 0:=by
 unfold qf8;rw [List.drop_zero,Nat.zero_add]
theorem vk9 (l:List UInt8) (k:Nat):qi7 l k=qi7 (l.drop k) 0:=by
 unfold qi7
 rw [vk8 l k,←List.drop_drop,List.length_drop]
 by_cases h:k+qf8 (l.drop k) 0<l.length
 ·rw [if_pos h,if_pos (by omega)]
 ·rw [if_neg h,if_neg (by omega)]
theorem jk4 (l:List UInt8) (k:Nat) (hk:k≤l.length):qm0 l k=k+qm0 (l.drop k) 0:=by
 unfold qm0
 rw [vk8 l k,←List.drop_drop,List.length_drop]
 by_cases h:k+qf8 (l.drop k) 0<l.length
 ·rw [if_pos h,if_pos (by omega)];omega
 ·rw [if_neg h,if_neg (by omega)];omega
theorem je3 {s:ByteArray} {r:List UInt8} {L:List Tk} (h:Lx r L):∀st:St,st.after≤s.size→s.data.toList.drop st.after=r→Str s (v9 s st) L:=by
 induction h with
 | nil h=>
  intro st _ hr
  refine .nil ?_
  show qi7 s.data.toList st.after=_
  rw [vk9,hr,h]
 | cons e h t ih=>
  intro st ha hr
  rename_i r k L
  have hk:(v9 s st).tk=k:=by
   show qi7 s.data.toList st.after=_
   rw [vk9,hr,e]
  rw [←hk]
  refine .cons (by rw [hk];exact h) (ih _ (qm7 s st ha).after ?_)
  show s.data.toList.drop (qm0 s.data.toList st.after)=_
  rw [jk4 _ _ (by rw [qb0];exact ha),←List.drop_drop,hr]
inductive CRel:CRes→CRes→Prop where
 | ok (c:Int):CRel (.ok c) (.ok c)
 | err (p q:Int):CRel (.err p) (.err q)
inductive CRels:List CRes→List CRes→Prop where
 | nil:CRels [] []
 | cons {a b:CRes} {r r':List CRes} (h:CRel a b) (t:CRels r r'):CRels (a::r) (b::r')
theorem dem_rel (want p q:Int):∀rs rs':List CRes,CRels rs rs'→∀fit,(dem want p rs fit).isNone=(dem want q rs' fit).isNone:=by
 intro rs rs' h
 induction h with
 | nil=>intro fit;cases fit<;>rfl
 | cons h _ ih=>
  intro fit
  cases h with
  | ok c=>exact ih _
  | err a b=>rfl
theorem vv5 (want p q c:Int) {rs rs':List CRes} (h:CRels rs rs'):CRel (vg0 want p c rs) (vg0 want q c rs'):=by
 have:=dem_rel want p q rs rs' h true
 unfold vg0
 cases h1:dem want p rs true<;>cases h2:dem want q rs' true<;>rw [h1,h2] at this
 ·exact .ok _
 ·cases this
 ·cases this
 ·exact .err _ _
theorem alike_rel (p q:Int) {a a' b b':CRes} (ha:CRel a a') (hb:CRel b b'):CRel (qk4 p a b) (qk4 q a' b'):=by
 cases ha with
 | err x y=>exact .err _ _
 | ok c=>
  cases hb with
  | err x y=>exact .err _ _
  | ok d=>
   show CRel (if (c != d&&c != 0&&d != 0)=true then CRes.err p else CRes.ok 3) (if (c != d&&c != 0&&d != 0)=true then CRes.err q else CRes.ok 3)
   by_cases h:(c != d&&c != 0&&d != 0)=true
   ·rw [if_pos h,if_pos h];exact .err _ _
   ·rw [if_neg h,if_neg h];exact .ok _
theorem vb8 (op p q:Int) {rs rs':List CRes} (h:CRels rs rs'):CRel (qt3 op p rs) (qt3 op q rs'):=by
 unfold qt3
 by_cases c0:(op==0)=true
 ·rw [if_pos c0,if_pos c0];exact .ok _
 rw [if_neg c0,if_neg c0]
 by_cases c1:(op==1)=true
 ·rw [if_pos c1,if_pos c1];exact .ok _
 rw [if_neg c1,if_neg c1]
 by_cases c2:(op==2)=true
 ·rw [if_pos c2,if_pos c2];exact .ok _
 rw [if_neg c2,if_neg c2]
 by_cases c3:(op==5||op==6||op==7)=true
 ·rw [if_pos c3,if_pos c3];exact vv5 _ _ _ _ h
 rw [if_neg c3,if_neg c3]
 by_cases c4:(op==10||op==11||op==12||op==13||op==20)=true
 ·rw [if_pos c4,if_pos c4];exact vv5 _ _ _ _ h
 rw [if_neg c4,if_neg c4]
 by_cases c5:(op==14||op==15||op==16||op==17||op==18||op==19)=true
 ·rw [if_pos c5,if_pos c5];exact vv5 _ _ _ _ h
 rw [if_neg c5,if_neg c5]
 by_cases c6:(op==8||op==9)=true
 ·rw [if_pos c6,if_pos c6]
  cases h with
  | nil=>exact .ok _
  | cons ha t1=>
   cases t1 with
   | nil=>exact .ok _
   | cons hb t2=>
    cases t2 with
    | nil=>exact alike_rel p q ha hb
    | cons _ _=>exact .ok _
 rw [if_neg c6,if_neg c6]
 exact .ok _
theorem cls_erase (t:Ast):CRel (qa1 t) (qa1 (qj5 t)):=by
 induction t with
 | leaf p=>exact vb8 _ _ _ .nil
 | un p x ih=>exact vb8 _ _ _ (.cons ih .nil)
 | bin p x y ihx ihy=>exact vb8 _ _ _ (.cons ihx (.cons ihy .nil))
 | tri p x y z ihx ihy ihz=>exact vb8 _ _ _ (.cons ihx (.cons ihy (.cons ihz .nil)))
end
section
theorem lx_end:Lx [] []:=.nil rfl
end
section
set_option maxHeartbeats 400000 in
theorem jf0 (b:Bool) (w:World) :
  Calls Tryz.prog 82 #[.bool b] w fun e w'=>e=.returned (vV (bV b))∧Below w.heap.size w w':=by
 cases b
 all_goals
  go_enter Tryz.func82,Tryz.ntmps82
  go_wp2_with fail
  refine bodyPost_ret (by simp [results,Tryz.results82,go_sem]<;>rfl) rfl ⟨rfl, ?_⟩
  exact qh0 _ _ _
set_option maxHeartbeats 400000 in
theorem is_any (s:ByteArray) (ev:Value) (r want:V) (hev:∃a n c,ev=.slice a n c) (w:World) (hEV:∀w1,Below w.heap.size w w1→w.heap.size<w1.heap.size→Calls Tryz.prog 112 #[.string s,ev] w1 fun e w'=>e=.returned (.tuple #[vV r,.int .i64 0,.int .i64 0])∧Below w1.heap.size w1 w') :
  Calls Tryz.prog 81 #[.string s,ev,vV want] w fun e w'=>e=.returned (.bool (decide (r=want)))∧Below w.heap.size w w':=by
 have he:=fun w=>vj6 r want w
 have EV:=v7 hEV
 obtain ⟨a,n,c,rfl⟩:=hev
 obtain ⟨d,hd⟩:∃d,decide (r=want)=d:=⟨_,rfl⟩
 rw [hd] at he ⊢
 clear hEV hd
 simp only [vV] at he
 conv=>arg 3;simp only [vV]
 go_enter Tryz.func81,Tryz.ntmps81
 go_wp2_with (go_at_call 112;refine (q9 EV _ ((Below.refl _ _).alloc (Nat.le_refl _) _) (by simp)).mono ?_;rintro e w1 ⟨rfl,hb1⟩;have hz1:w.heap.size<w1.heap.size:=(by have:=hb1.size;simp at this;omega);have g0:w1.cell? ⟨w.heap.size,0,none⟩=some (.int .i64 want.kind):=((j6 hb1).1 _ 0 (by simp)).trans (by simp);have g1:w1.cell? ⟨w.heap.size,1,none⟩=some (.int .i64 want.num):=((j6 hb1).1 _ 1 (by simp)).trans (by simp);have g2:w1.cell? ⟨w.heap.size,2,none⟩=some (.string (BS want.str)):=((j6 hb1).1 _ 2 (by simp)).trans (by simp);have hB1:=v7 (qc4 hb1);clear hb1;simp only [vV])
 go_ret
 exact ⟨rfl,x3 (q9 hB1) _⟩
end
section
def Clo (X:List Tk):Prop:=(hd X).kind=27
def sh (X:List Tk) (k:Nat) (ts:TS):TS:=⟨ts.toks++X,ts.op+k⟩
def ExtR (X:List Tk) (k o:Nat) (r r':TRes):Prop:=∀t ts,r=.ok t ts→ts.op=o∧(r'=.err 3∨r'=.ok t (sh X k ts))
def Ext (X:List Tk) (k o:Nat) (f f':TS→TRes):Prop:=∀ts,ts.op=o→ExtR X k o (f ts) (f' (sh X k ts))
theorem ExtR.err {X:List Tk} {k o:Nat} {en:Int} {r:TRes}:ExtR X k o (.err en) r:=by
 intro t ts h;cases h
theorem ExtR.deep {X:List Tk} {k o:Nat} {r:TRes} (h:∀t ts,r=.ok t ts→ts.op=o):ExtR X k o r (.err 3):=fun t ts he=>⟨h t ts he,.inl rfl⟩
theorem ExtR.ok {X:List Tk} {k o:Nat} {t:Ast} {ts:TS} (h:ts.op=o):ExtR X k o (.ok t ts) (.ok t (sh X k ts)):=by
 intro t' ts' he
 injection he with h1 h2
 subst h1 h2
 exact ⟨h,.inr rfl⟩
theorem ExtR.cases {X:List Tk} {k o:Nat} {r r':TRes} (h:ExtR X k o r r'):(∃en,r=.err en)∨(∃t ts,r=.ok t ts∧ts.op=o∧r'=.err 3)∨∃t ts,r=.ok t ts∧ts.op=o∧r'=.ok t (sh X k ts):=by
 cases hr:r with
 | err en=>exact .inl ⟨en,rfl⟩
 | ok t ts=>
  obtain ⟨h1,h2|h2⟩:=h t ts hr
  ·exact .inr (.inl ⟨t,ts,rfl,h1,h2⟩)
  ·exact .inr (.inr ⟨t,ts,rfl,h1,h2⟩)
theorem j9 {ts:TS} {c:Int} (hc:c≠0) (h:ts.tk.kind=c):ts.toks≠[]:=by
 intro e
 unfold TS.tk at h
 rw [e] at h
 exact hc h.symm
theorem za9 {X:List Tk} {k:Nat} {ts:TS} (h:ts.toks≠[]):(sh X k ts).tk=ts.tk:=by
 unfold sh TS.tk
 cases ht:ts.toks with
 | nil=>exact absurd ht h
 | cons a r=>rfl
theorem vm9 {X:List Tk} {k:Nat} {ts:TS} (h:ts.toks≠[]):(sh X k ts).next=sh X k ts.next:=by
 unfold sh TS.next
 cases ht:ts.toks with
 | nil=>exact absurd ht h
 | cons a r=>rfl
theorem sh_in {X:List Tk} {k:Nat} {ts:TS} (h:ts.toks≠[]):tIn (sh X k ts)=sh X k (tIn ts):=by
 unfold sh tIn
 cases ht:ts.toks with
 | nil=>exact absurd ht h
 | cons a r=>
  show TS.mk (r++X) (ts.op+k+1)=TS.mk (r++X) (ts.op+1+k)
  rw [Nat.add_right_comm]
theorem sh_end {X:List Tk} (hX:Clo X) {k:Nat} {ts:TS} (h:ts.toks=[]):(sh X k ts).tk.kind=27:=by
 unfold sh TS.tk
 rw [h]
 exact hX
theorem qa6 {X:List Tk} (hX:Clo X) {k:Nat} {ts:TS} {c:Int} (h0:c≠0) (h27:c≠27):(sh X k ts).tk.kind=c↔ts.tk.kind=c:=by
 by_cases h:ts.toks=[]
 ·have h1:=sh_end hX (k:=k) h
  have h2:ts.tk.kind=0:=by unfold TS.tk;rw [h];rfl
  rw [h1,h2]
  exact ⟨fun e=>absurd e.symm h27,fun e=>absurd e.symm h0⟩
 ·rw [za9 h]
theorem qf9 {X:List Tk} {k:Nat} {ts:TS} {c:Int} (hc:c≠0) (h:ts.tk.kind=c):(sh X k ts).tk=ts.tk∧(sh X k ts).next=sh X k ts.next:=⟨za9 (j9 hc h),vm9 (j9 hc h)⟩
theorem jn2 {X:List Tk} (hX:Clo X) {k:Nat} {ts:TS} {ks:List Int} (h0:ks.contains 0=false) (h27:ks.contains 27=false):ks.contains (sh X k ts).tk.kind=ks.contains ts.tk.kind:=by
 by_cases h:ts.toks=[]
 ·have h1:=sh_end hX (k:=k) h
  have h2:ts.tk.kind=0:=by unfold TS.tk;rw [h];rfl
  rw [h1,h2,h0,h27]
 ·rw [za9 h]
section
variable {X:List Tk} {k o:Nat} {f f':TS→TRes}
theorem Ext.join (h:Ext X k o f f') (ts:TS) (l:Ast) (ho:ts.op=o) (hne:ts.toks≠[]):ExtR X k o (qy4 f ts l) (qy4 f' (sh X k ts) l):=by
 unfold qy4
 rw [vm9 hne,za9 hne]
 rcases (h ts.next ho).cases with ⟨en,e⟩|⟨t,ts',e,eo,e'⟩|⟨t,ts',e,eo,e'⟩
 ·rw [e];exact ExtR.err
 ·rw [e,e'];exact ExtR.deep (fun t ts h=>by injection h with _ h2;rw [←h2];exact eo)
 ·rw [e,e'];exact ExtR.ok eo
theorem Ext.loop (hX:Clo X) (h:Ext X k o f f') (hs:Shr f) (ks:List Int) (h0:ks.contains 0=false) (h27:ks.contains 27=false):∀n n' l ts,ts.op=o→ts.toks.length<n→ts.toks.length+X.length<n'→ExtR X k o (qt9 f ks n l ts) (qt9 f' ks n' l (sh X k ts)):=by
 intro n
 induction n with
 | zero=>intro n' l ts _ h1;omega
 | succ n ih=>
  intro n' l ts ho h1 h2
  obtain ⟨m,rfl⟩:∃m,n'=m+1:=⟨n' - 1,by omega⟩
  rw [qt9,qt9,jn2 hX h0 h27]
  by_cases hc:ks.contains ts.tk.kind=true
  ·have hne:ts.toks≠[]:=by
    intro e
    have:ts.tk.kind=0:=by unfold TS.tk;rw [e];rfl
    rw [this,h0] at hc
    cases hc
   rw [if_pos hc,if_pos hc]
   have hlt:ts.next.toks.length<ts.toks.length:=by
    cases ht:ts.toks with
    | nil=>exact absurd ht hne
    | cons a r=>show (ts.toks.tail).length<_;rw [ht];simp
   rcases (h.join ts l ho hne).cases with ⟨en,e⟩|⟨t,ts',e,eo,e'⟩|⟨t,ts',e,eo,e'⟩
   ·rw [e];exact ExtR.err
   ·rw [e,e']
    have hl:=hs.join _ _ _ _ e
    refine ExtR.deep (fun t2 ts2 he=>?_)
    obtain ⟨hh,_⟩:=ih (ts'.toks.length+X.length+1) t ts' eo (by omega) (by omega) t2 ts2 he
    exact hh
   ·rw [e,e']
    have hl:=hs.join _ _ _ _ e
    exact ih m t ts' eo (by omega) (by omega)
  ·rw [if_neg hc,if_neg hc]
   exact ExtR.ok ho
theorem Ext.row (hX:Clo X) (h:Ext X k o f f') (hs:Shr f) (ks:List Int) (h0:ks.contains 0=false) (h27:ks.contains 27=false):Ext X k o (vr0 f ks) (vr0 f' ks):=by
 intro ts ho
 unfold vr0
 rcases (h ts ho).cases with ⟨en,e⟩|⟨t,ts',e,eo,e'⟩|⟨t,ts',e,eo,e'⟩
 ·rw [e];exact ExtR.err
 ·rw [e,e']
  refine ExtR.deep (fun t2 ts2 he=>?_)
  exact (h.loop hX hs ks h0 h27 _ (ts'.toks.length+X.length+1) t ts' eo (Nat.lt_succ_self _) (Nat.lt_succ_self _) t2 ts2 he).1
 ·rw [e,e']
  exact h.loop hX hs ks h0 h27 _ _ t ts' eo (Nat.lt_succ_self _) (by show _<(ts'.toks++X).length+1;rw [List.length_append];omega)
theorem Ext.sign (hk:o+k≤12) (h:o+k<12→Ext X k (o+1) f f') (n:Int) (ts:TS) (ho:ts.op=o) (hne:ts.toks≠[]):ExtR X k o (qy5 f n ts) (qy5 f' n (sh X k ts)):=by
 unfold qy5
 show ExtR X k o _ (if ts.op+k=12 then _ else _)
 by_cases h12:ts.op+k=12
 ·rw [if_pos h12]
  refine ExtR.deep (fun t2 ts2 he=>?_)
  split at he
  ·cases he
  ·split at he
   ·injection he with _ h2;rw [←h2];exact ho
   ·cases he
 ·rw [if_neg h12,if_neg (by omega),sh_in hne]
  rcases (h (by omega) (tIn ts) (by show ts.op+1=_;omega)).cases with ⟨en,e⟩|⟨t,ts',e,eo,e'⟩|⟨t,ts',e,eo,e'⟩
  ·rw [e];exact ExtR.err
  ·rw [e,e'];exact ExtR.deep (fun t ts h=>by injection h with _ h2;rw [←h2];exact ho)
  ·rw [e,e'];exact ExtR.ok ho
theorem Ext.group (hk:o+k≤12) (h:o+k<12→Ext X k (o+1) f f') (ts:TS) (ho:ts.op=o) (hne:ts.toks≠[]):ExtR X k o (qs2 f ts) (qs2 f' (sh X k ts)):=by
 unfold qs2
 show ExtR X k o _ (if ts.op+k=12 then _ else _)
 by_cases h12:ts.op+k=12
 ·rw [if_pos h12]
  refine ExtR.deep (fun t2 ts2 he=>?_)
  split at he
  ·cases he
  ·split at he
   ·split at he
    ·injection he with _ h2;rw [←h2];exact ho
    ·cases he
   ·cases he
 ·rw [if_neg h12,if_neg (by omega),sh_in hne]
  rcases (h (by omega) (tIn ts) (by show ts.op+1=_;omega)).cases with ⟨en,e⟩|⟨t,ts',e,eo,e'⟩|⟨t,ts',e,eo,e'⟩
  ·rw [e];exact ExtR.err
  ·rw [e,e']
   refine ExtR.deep (fun t2 ts2 he=>?_)
   simp only at he
   split at he
   ·injection he with _ h2;rw [←h2];exact ho
   ·cases he
  ·rw [e,e']
   show ExtR X k o (if ts'.tk.kind=27 then _ else _) (if (sh X k ts').tk.kind=27 then _ else _)
   by_cases h27:ts'.tk.kind=27
   ·have hne':=j9 (by decide) h27
    rw [if_pos h27,if_pos (by rw [za9 hne'];exact h27)]
    have:(⟨(sh X k ts').toks.tail,(sh X k ts).op⟩:TS)=sh X k ⟨ts'.toks.tail,ts.op⟩:=by
     unfold sh
     cases ht:ts'.toks with
     | nil=>exact absurd ht hne'
     | cons a r=>rfl
    rw [this]
    exact ExtR.ok ho
   ·rw [if_neg h27];exact ExtR.err
theorem Ext.signed (hX:Clo X) {g g':TS→TRes} (hk:o+k≤12) (hS:o+k<12→Ext X k (o+1) f f') (hE:o+k<12→Ext X k (o+1) g g'):Ext X k o (qh5 f g) (qh5 f' g'):=by
 intro ts ho
 unfold qh5
 by_cases h22:ts.tk.kind=22
 ·rw [if_pos h22,if_pos ((qa6 hX (by decide) (by decide)).2 h22)]
  exact Ext.sign hk hS 14 ts ho (j9 (by decide) h22)
 rw [if_neg h22,if_neg (fun e=>h22 ((qa6 hX (by decide) (by decide)).1 e))]
 by_cases h23:ts.tk.kind=23
 ·rw [if_pos h23,if_pos ((qa6 hX (by decide) (by decide)).2 h23)]
  exact Ext.sign hk hS 15 ts ho (j9 (by decide) h23)
 rw [if_neg h23,if_neg (fun e=>h23 ((qa6 hX (by decide) (by decide)).1 e))]
 by_cases h26:ts.tk.kind=26
 ·rw [if_pos h26,if_pos ((qa6 hX (by decide) (by decide)).2 h26)]
  exact Ext.group hk hE ts ho (j9 (by decide) h26)
 rw [if_neg h26,if_neg (fun e=>h26 ((qa6 hX (by decide) (by decide)).1 e))]
 by_cases h2:ts.tk.kind=2
 ·rw [if_pos h2,if_pos ((qa6 hX (by decide) (by decide)).2 h2),(qf9 (by decide) h2).1,(qf9 (by decide) h2).2]
  exact ExtR.ok ho
 rw [if_neg h2,if_neg (fun e=>h2 ((qa6 hX (by decide) (by decide)).1 e))]
 by_cases h3:ts.tk.kind=3
 ·rw [if_pos h3,if_pos ((qa6 hX (by decide) (by decide)).2 h3),(qf9 (by decide) h3).1,(qf9 (by decide) h3).2]
  exact ExtR.ok ho
 rw [if_neg h3,if_neg (fun e=>h3 ((qa6 hX (by decide) (by decide)).1 e))]
 by_cases h4:ts.tk.kind=4
 ·rw [if_pos h4,if_pos ((qa6 hX (by decide) (by decide)).2 h4),(qf9 (by decide) h4).1,(qf9 (by decide) h4).2]
  exact ExtR.ok ho
 rw [if_neg h4,if_neg (fun e=>h4 ((qa6 hX (by decide) (by decide)).1 e))]
 by_cases h8:ts.tk.kind=8
 ·rw [if_pos h8,if_pos ((qa6 hX (by decide) (by decide)).2 h8),(qf9 (by decide) h8).2]
  exact ExtR.ok ho
 rw [if_neg h8,if_neg (fun e=>h8 ((qa6 hX (by decide) (by decide)).1 e))]
 by_cases h9:ts.tk.kind=9
 ·rw [if_pos h9,if_pos ((qa6 hX (by decide) (by decide)).2 h9),(qf9 (by decide) h9).2]
  exact ExtR.ok ho
 rw [if_neg h9]
 exact ExtR.err
theorem jw2 (hX:Clo X) (l:Ast) (ts:TS) (ho:ts.op=o) (hne:ts.toks≠[]):ExtR X k o (tIsNull l ts) (tIsNull l (sh X k ts)):=by
 unfold tIsNull
 rw [vm9 hne]
 by_cases h7:ts.next.tk.kind=7
 ·rw [if_pos h7,if_pos ((qa6 hX (by decide) (by decide)).2 h7),(qf9 (by decide) h7).2]
  by_cases h15:ts.next.next.tk.kind=15
  ·rw [if_pos h15,if_pos ((qa6 hX (by decide) (by decide)).2 h15),(qf9 (by decide) h15).2]
   exact ExtR.ok ho
  ·rw [if_neg h15];exact ExtR.err
 ·rw [if_neg h7,if_neg (fun e=>h7 ((qa6 hX (by decide) (by decide)).1 e))]
  by_cases h15:ts.next.tk.kind=15
  ·rw [if_pos h15,if_pos ((qa6 hX (by decide) (by decide)).2 h15),(qf9 (by decide) h15).2]
   exact ExtR.ok ho
  ·rw [if_neg h15];exact ExtR.err
theorem Ext.between (hX:Clo X) (h:Ext X k o f f') (l:Ast) (ts:TS) (ho:ts.op=o):ExtR X k o (qg8 f l ts) (qg8 f' l (sh X k ts)):=by
 unfold qg8
 by_cases h10:ts.tk.kind=10
 ·rw [if_pos h10,if_pos ((qa6 hX (by decide) (by decide)).2 h10),(qf9 (by decide) h10).2]
  rcases (h ts.next ho).cases with ⟨en,e⟩|⟨t,ts',e,eo,e'⟩|⟨t,ts',e,eo,e'⟩
  ·rw [e];exact ExtR.err
  ·rw [e,e']
   refine ExtR.deep (fun t2 ts2 he=>?_)
   simp only at he
   split at he
   ·split at he
    ·rename_i hf
     injection he with _ h2
     rw [←h2]
     exact (h ts'.next eo _ _ hf).1
    ·cases he
   ·cases he
  ·rw [e,e']
   show ExtR X k o (if ts'.tk.kind=5 then _ else _) (if (sh X k ts').tk.kind=5 then _ else _)
   by_cases h5:ts'.tk.kind=5
   ·rw [if_pos h5,if_pos ((qa6 hX (by decide) (by decide)).2 h5),(qf9 (by decide) h5).2]
    rcases (h ts'.next eo).cases with ⟨en,e⟩|⟨t,ts',e,eo,e'⟩|⟨t,ts',e,eo,e'⟩
    ·rw [e];exact ExtR.err
    ·rw [e,e'];exact ExtR.deep (fun t ts h=>by injection h with _ h2;rw [←h2];exact eo)
    ·rw [e,e'];exact ExtR.ok eo
   ·rw [if_neg h5];exact ExtR.err
 ·rw [if_neg h10];exact ExtR.err
theorem jw1 (hX:Clo X) (l:Ast):∀n n' xs ts,ts.op=o→ts.toks.length<n→ts.toks.length+X.length<n'→ExtR X k o (qg0 l n xs ts) (qg0 l n' xs (sh X k ts)):=by
 intro n
 induction n with
 | zero=>intro n' xs ts _ h1;omega
 | succ n ih=>
  intro n' xs ts ho h1 h2
  obtain ⟨m,rfl⟩:∃m,n'=m+1:=⟨n' - 1,by omega⟩
  rw [qg0,qg0]
  by_cases h28:ts.tk.kind=28
  ·rw [if_pos h28,if_pos ((qa6 hX (by decide) (by decide)).2 h28),(qf9 (by decide) h28).2]
   have hne:=j9 (by decide) h28
   have hlt:ts.next.toks.length<ts.toks.length:=by
    cases ht:ts.toks with
    | nil=>exact absurd ht hne
    | cons a r=>show (ts.toks.tail).length<_;rw [ht];simp
   by_cases h4:ts.next.tk.kind=4
   ·rw [if_pos h4,if_pos ((qa6 hX (by decide) (by decide)).2 h4),(qf9 (by decide) h4).2,(qf9 (by decide) h4).1]
    have:=y4 ts.next
    exact ih m _ ts.next.next ho (by omega) (by omega)
   ·rw [if_neg h4];exact ExtR.err
  ·rw [if_neg h28,if_neg (fun e=>h28 ((qa6 hX (by decide) (by decide)).1 e))]
   by_cases h27:ts.tk.kind=27
   ·rw [if_pos h27,if_pos (by rw [(qf9 (by decide) h27).1];exact h27),(qf9 (by decide) h27).2]
    exact ExtR.ok ho
   ·rw [if_neg h27];exact ExtR.err
theorem ext_in (hX:Clo X) (l:Ast) (ts:TS) (ho:ts.op=o) (hne:ts.toks≠[]):ExtR X k o (tInRes l ts) (tInRes l (sh X k ts)):=by
 unfold tInRes
 rw [vm9 hne]
 by_cases h26:ts.next.tk.kind=26
 ·rw [if_pos h26,if_pos ((qa6 hX (by decide) (by decide)).2 h26),(qf9 (by decide) h26).2]
  by_cases h4:ts.next.next.tk.kind=4
  ·rw [if_pos h4,if_pos ((qa6 hX (by decide) (by decide)).2 h4),(qf9 (by decide) h4).2,(qf9 (by decide) h4).1]
   have l1:=y4 ts
   have l2:=y4 ts.next
   have l3:=y4 ts.next.next
   have hl:(sh X k ts).toks.length=ts.toks.length+X.length:=by show (ts.toks++X).length=_;rw [List.length_append]
   exact jw1 hX l _ _ _ ts.next.next.next ho (by omega) (by rw [hl];omega)
  ·rw [if_neg h4];exact ExtR.err
 ·rw [if_neg h26];exact ExtR.err
theorem ext_like (hX:Clo X) (l:Ast) (ts:TS) (ho:ts.op=o) (hne:ts.toks≠[]):ExtR X k o (tLike l ts) (tLike l (sh X k ts)):=by
 unfold tLike
 rw [vm9 hne]
 by_cases h4:ts.next.tk.kind=4
 ·rw [if_pos h4,if_pos ((qa6 hX (by decide) (by decide)).2 h4),(qf9 (by decide) h4).2,(qf9 (by decide) h4).1]
  by_cases h13:ts.next.next.tk.kind=13
  ·rw [if_pos h13,if_pos ((qa6 hX (by decide) (by decide)).2 h13),(qf9 (by decide) h13).2]
   by_cases g:ts.next.next.next.tk.kind=4∧ts.next.next.next.tk.str.length=1∧(qx4 ts.next.next.next.tk.str ts.next.tk.str).isSome=true
   ·rw [if_pos g,(qf9 (by decide) g.1).1,if_pos g,(qf9 (by decide) g.1).2]
    exact ExtR.ok ho
   ·rw [if_neg g];exact ExtR.err
  ·rw [if_neg h13,if_neg (fun e=>h13 ((qa6 hX (by decide) (by decide)).1 e))]
   exact ExtR.ok ho
 ·rw [if_neg h4];exact ExtR.err
theorem Ext.keyword (hX:Clo X) (h:Ext X k o f f') (bare:Bool) (l:Ast) (ts:TS) (ho:ts.op=o):ExtR X k o (qf1 f bare l ts) (qf1 f' bare l (sh X k ts)):=by
 unfold qf1
 by_cases h11:ts.tk.kind=11∧bare=true
 ·rw [if_pos h11,if_pos ⟨(qa6 hX (by decide) (by decide)).2 h11.1,h11.2⟩]
  exact ext_in hX l ts ho (j9 (by decide) h11.1)
 rw [if_neg h11,if_neg (show ¬((sh X k ts).tk.kind=11∧bare=true) from fun e=>h11 ⟨(qa6 hX (by decide) (by decide)).1 e.1,e.2⟩)]
 by_cases h12:ts.tk.kind=12∧bare=true
 ·rw [if_pos h12,if_pos ⟨(qa6 hX (by decide) (by decide)).2 h12.1,h12.2⟩]
  exact ext_like hX l ts ho (j9 (by decide) h12.1)
 rw [if_neg h12,if_neg (show ¬((sh X k ts).tk.kind=12∧bare=true) from fun e=>h12 ⟨(qa6 hX (by decide) (by decide)).1 e.1,e.2⟩)]
 exact h.between hX l ts ho
theorem Ext.tail (hX:Clo X) (h:Ext X k o f f') (bare:Bool) (l:Ast) (ts:TS) (ho:ts.op=o):ExtR X k o (vd5 f bare l ts) (vd5 f' bare l (sh X k ts)):=by
 have hk:∀c:Int,c≠0→c≠27→((sh X k ts).tk.kind=c↔ts.tk.kind=c):=fun c a b=>qa6 hX a b
 have h6:((sh X k ts).tk.kind=16∨(sh X k ts).tk.kind=17∨(sh X k ts).tk.kind=18∨(sh X k ts).tk.kind=19∨(sh X k ts).tk.kind=20∨(sh X k ts).tk.kind=21)↔(ts.tk.kind=16∨ts.tk.kind=17∨ts.tk.kind=18∨ts.tk.kind=19∨ts.tk.kind=20∨ts.tk.kind=21):=by
  rw [hk 16 (by decide) (by decide),hk 17 (by decide) (by decide),hk 18 (by decide) (by decide),hk 19 (by decide) (by decide),hk 20 (by decide) (by decide),hk 21 (by decide) (by decide)]
 have h3:((sh X k ts).tk.kind=10∨(sh X k ts).tk.kind=11∨(sh X k ts).tk.kind=12)↔(ts.tk.kind=10∨ts.tk.kind=11∨ts.tk.kind=12):=by
  rw [hk 10 (by decide) (by decide),hk 11 (by decide) (by decide),hk 12 (by decide) (by decide)]
 unfold vd5
 by_cases h16:ts.tk.kind=16∨ts.tk.kind=17∨ts.tk.kind=18∨ts.tk.kind=19∨ts.tk.kind=20∨ts.tk.kind=21
 ·rw [if_pos h16,if_pos (h6.2 h16)]
  refine h.join ts l ho ?_
  rcases h16 with e|e|e|e|e|e<;>exact j9 (by decide) e
 rw [if_neg h16,if_neg (fun e=>h16 (h6.1 e))]
 by_cases h14:ts.tk.kind=14
 ·rw [if_pos h14,if_pos ((hk 14 (by decide) (by decide)).2 h14)]
  cases bare
  ·exact ExtR.ok ho
  ·exact jw2 hX l ts ho (j9 (by decide) h14)
 rw [if_neg h14,if_neg (fun e=>h14 ((hk 14 (by decide) (by decide)).1 e))]
 by_cases h7:ts.tk.kind=7
 ·rw [if_pos h7,if_pos ((hk 7 (by decide) (by decide)).2 h7),(qf9 (by decide) h7).2]
  rcases (h.keyword hX bare l ts.next ho).cases with ⟨en,e⟩|⟨t,ts',e,eo,e'⟩|⟨t,ts',e,eo,e'⟩
  ·rw [e];exact ExtR.err
  ·rw [e,e'];exact ExtR.deep (fun t ts h=>by injection h with _ h2;rw [←h2];exact eo)
  ·rw [e,e'];exact ExtR.ok eo
 rw [if_neg h7,if_neg (fun e=>h7 ((hk 7 (by decide) (by decide)).1 e))]
 by_cases h10:ts.tk.kind=10∨ts.tk.kind=11∨ts.tk.kind=12
 ·rw [if_pos h10,if_pos (h3.2 h10)];exact h.keyword hX bare l ts ho
 ·rw [if_neg h10,if_neg (fun e=>h10 (h3.1 e))];exact ExtR.ok ho
theorem Ext.test (hX:Clo X) (h:Ext X k o f f') (hf:∀ts t ts',f ts=.ok t ts'→ts.toks≠[]):Ext X k o (vb3 f) (vb3 f'):=by
 intro ts ho
 unfold vb3
 rcases (h ts ho).cases with ⟨en,e⟩|⟨t,ts',e,eo,e'⟩|⟨t,ts',e,eo,e'⟩
 ·rw [e];exact ExtR.err
 ·rw [e,e']
  refine ExtR.deep (fun t2 ts2 he=>?_)
  exact (h.tail hX _ t ts' eo t2 ts2 he).1
 ·rw [e,e',za9 (hf _ _ _ e)]
  exact h.tail hX _ t ts' eo
theorem Ext.denied (hX:Clo X) {g g':TS→TRes} (hk:o+k≤12) (hD:o+k<12→Ext X k (o+1) f f') (hT:Ext X k o g g'):Ext X k o (qj9 f g) (qj9 f' g'):=by
 intro ts ho
 unfold qj9
 by_cases h7:ts.tk.kind=7
 ·rw [if_pos h7,if_pos ((qa6 hX (by decide) (by decide)).2 h7)]
  exact Ext.sign hk hD 5 ts ho (j9 (by decide) h7)
 ·rw [if_neg h7,if_neg (fun e=>h7 ((qa6 hX (by decide) (by decide)).1 e))]
  exact hT ts ho
end
def Some' (f:TS→TRes):Prop:=∀ts t ts',f ts=.ok t ts'→ts.toks≠[]
theorem jn3 (f g:TS→TRes):Some' (qh5 f g):=by
 intro ts t ts' he e
 unfold qh5 at he
 have h0:ts.tk.kind=0:=by unfold TS.tk;rw [e];rfl
 rw [h0] at he
 cases he
theorem Some'.row {f:TS→TRes} (h:Some' f) (ks:List Int):Some' (vr0 f ks):=by
 intro ts t ts' he
 unfold vr0 at he
 split at he
 ·rename_i hf;exact h _ _ _ hf
 ·cases he
structure Ext3 (X:List Tk) (k o:Nat) (L L':T3):Prop where
 S:Ext X k o L.S L'.S
 D:Ext X k o L.D L'.D
 E:Ext X k o L.E L'.E
structure Shr3 (L:T3):Prop where
 S:Shr L.S
 D:Shr L.D
 E:Shr L.E
theorem ext_up {X:List Tk} (hX:Clo X) {k o:Nat} (hk:o+k≤12) {L L':T3} (hs:Shr3 L) (h:o+k<12→Ext3 X k (o+1) L L'):Ext3 X k o (tUp L) (tUp L'):=by
 have hS:=Ext.signed hX hk (fun e=>(h e).S) (fun e=>(h e).E)
 have zS:=Shr.signed hs.S hs.E
 have hP:=hS.row hX zS [24,25] rfl rfl
 have zP:=zS.row [24,25]
 have hU:=hP.row hX zP [22,23] rfl rfl
 have zU:=zP.row [22,23]
 have hT:=hU.test hX (((jn3 _ _).row _).row _)
 have zT:=zU.test
 have hD:=Ext.denied hX hk (fun e=>(h e).D) hT
 have zD:=Shr.denied hs.D zT
 have hB:=hD.row hX zD [5] rfl rfl
 have zB:=zD.row [5]
 exact ⟨hS,hD,hB.row hX zB [6] rfl rfl⟩
theorem shr_lvl (d:Nat):Shr3 (tLvl d):=⟨(vn2 ⟨#[]⟩ d).s',(vn2 ⟨#[]⟩ d).d',(vn2 ⟨#[]⟩ d).e'⟩
theorem lvl_up (d:Nat):∃L,tLvl d=tUp L∧Shr3 L:=by
 cases d with
 | zero=>exact ⟨_,rfl,⟨(fun _ _ _ h=>by cases h),(fun _ _ _ h=>by cases h),(fun _ _ _ h=>by cases h)⟩⟩
 | succ d=>exact ⟨_,rfl,shr_lvl d⟩
theorem ext_lvl {X:List Tk} (hX:Clo X) (k:Nat):∀d o,o+k+d=12→Ext3 X k o (tLvl (d+k)) (tLvl d):=by
 intro d
 induction d with
 | zero=>
  intro o h
  obtain ⟨L,e,z⟩:=lvl_up (0+k)
  rw [e]
  exact ext_up hX (by omega) z (fun e=>absurd e (by omega))
 | succ d ih=>
  intro o h
  rw [show d+1+k=(d+k)+1 by omega]
  exact ext_up hX (by omega) (shr_lvl _) (fun e=>ih (o+1) (by omega))
end
section
structure Stop (d:UInt8):Prop where
 goe:jb6 d=false
 dig:qz4 d=false
 quo:(d==39)=false
 eq:(d==61)=false
 gt:(d==62)=false
theorem ite_ne {c:Prop} [Decidable c] {a b:Int} (ha:a≠0) (hb:b≠0):(if c then a else b)≠0:=by
 by_cases h:c
 ·rw [if_pos h];exact ha
 ·rw [if_neg h];exact hb
theorem kwK_ne (l:List UInt8):kwK l≠0:=by
 unfold kwK
 repeat refine ite_ne (by decide) ?_
 decide
theorem markK_ne (l:List UInt8):markK l≠0:=by
 unfold markK
 repeat refine ite_ne (by decide) ?_
 decide
theorem word_ne (l:List UInt8):(ve1 l).kind≠0:=by
 unfold ve1
 by_cases h:vp6 (l.take (qb5 l))=2
 ·rw [if_pos h];show (2:Int)≠0;decide
 ·rw [if_neg h];exact kwK_ne _
theorem num_ne (l:List UInt8):(vw8 l).kind≠0:=by
 unfold vw8
 by_cases h:qn4 0 (l.take (qb9 qz4 l))≤9223372036854775807
 ·rw [if_pos h];show (3:Int)≠0;decide
 ·rw [if_neg h];show (1:Int)≠0;decide
theorem quot_ne (l:List UInt8):(qu5 l).kind≠0:=by
 unfold qu5
 cases qi0 (l.drop 1) with
 | none=>show (1:Int)≠0;decide
 | some r=>show (4:Int)≠0;decide
theorem mark_ne (l:List UInt8):jc2 l≠0:=by
 unfold jc2
 exact ite_ne (by decide) (markK_ne _)
theorem first_ne (l:List UInt8):(qt4 l).kind≠0:=by
 cases l with
 | nil=>show (1:Int)≠0;decide
 | cons c t=>
  show (if ju1 c then ve1 (c::t) else if qz4 c then vw8 (c::t) else if c==39 then qu5 (c::t) else qd8 (jc2 (c::t))).kind≠0
  by_cases hb:ju1 c=true
  ·rw [if_pos hb];exact word_ne _
  rw [if_neg hb]
  by_cases hg:qz4 c=true
  ·rw [if_pos hg];exact num_ne _
  rw [if_neg hg]
  by_cases hq:(c==39)=true
  ·rw [if_pos hq];exact quot_ne _
  rw [if_neg hq]
  exact mark_ne _
theorem next_in {l:List UInt8} (h:(qi7 l 0).kind≠0):qf8 l 0<l.length:=by
 apply Decidable.byContradiction
 intro hn
 unfold qi7 at h
 rw [if_neg hn] at h
 exact h rfl
theorem jr7:∀(n:Nat) (l:List UInt8),l.length≤n→∃L,Lx l L:=by
 intro n
 induction n with
 | zero=>
  intro l hl
  have:l=[]:=List.eq_nil_of_length_eq_zero (by omega)
  subst this
  exact ⟨[],lx_end⟩
 | succ n ih=>
  intro l hl
  by_cases h:qf8 l 0<l.length
  ·have hk:qi7 l 0=qt4 (l.drop (qf8 l 0)):=by unfold qi7;rw [if_pos h]
   have hz:0<qm0 l 0:=by
    unfold qm0
    rw [if_pos h]
    have:=ve7 (l.drop (qf8 l 0)) (by rw [List.length_drop];omega)
    omega
   obtain ⟨L,hL⟩:=ih (l.drop (qm0 l 0)) (by rw [List.length_drop];omega)
   exact ⟨_,.cons rfl (by rw [hk];exact first_ne _) hL⟩
  ·exact ⟨[],.nil (by unfold qi7;rw [if_neg h])⟩
end
section
def Ate (ts ts':TS):Prop:=∃A,ts.toks=A++ts'.toks∧∀k∈A,k.kind≠1
theorem Ate.refl (ts:TS):Ate ts ts:=⟨[],rfl,fun _ h=>by cases h⟩
theorem Ate.trans {a b c:TS} (h:Ate a b) (g:Ate b c):Ate a c:=by
 obtain ⟨A,e1,h1⟩:=h
 obtain ⟨B,e2,h2⟩:=g
 refine ⟨A++B,by rw [e1,e2,List.append_assoc],fun k hk=>?_⟩
 rcases List.mem_append.1 hk with h|h
 ·exact h1 k h
 ·exact h2 k h
theorem Ate.tail {ts:TS} {n:Nat} (h:ts.tk.kind≠1):Ate ts ⟨ts.toks.tail,n⟩:=by
 cases ht:ts.toks with
 | nil=>exact ⟨[],by rw [ht];rfl,fun _ h=>by cases h⟩
 | cons a r=>
  refine ⟨[a],by rw [ht];rfl,fun k hk=>?_⟩
  simp at hk
  subst hk
  unfold TS.tk at h
  rw [ht] at h
  exact h
theorem Ate.next {ts:TS} (h:ts.tk.kind≠1):Ate ts ts.next:=Ate.tail h
theorem Ate.of {ts:TS} {c:Int} (h:ts.tk.kind=c) (hc:c≠1):Ate ts ts.next:=Ate.next (by rw [h];exact hc)
theorem Ate.op {a b:TS} (h:Ate a b) (n:Nat):Ate a ⟨b.toks,n⟩:=h
def Eats (f:TS→TRes):Prop:=∀ts t ts',f ts=.ok t ts'→Ate ts ts'
theorem Eats.join {f:TS→TRes} (h:Eats f) (ts:TS) (l t:Ast) (ts':TS) (hk:ts.tk.kind≠1) (he:qy4 f ts l=.ok t ts'):Ate ts ts':=by
 unfold qy4 at he
 split at he
 ·rename_i hr;injection he with _ h2;subst h2;exact (Ate.next hk).trans (h _ _ _ hr)
 ·cases he
theorem Eats.loop {f:TS→TRes} (h:Eats f) (ks:List Int) (h1:ks.contains 1=false):∀n l ts t ts',qt9 f ks n l ts=.ok t ts'→Ate ts ts':=by
 intro n
 induction n with
 | zero=>intro l ts t ts' he;rw [qt9] at he;injection he with _ h2;subst h2;exact Ate.refl _
 | succ n ih=>
  intro l ts t ts' he
  rw [qt9] at he
  by_cases hc:ks.contains ts.tk.kind=true
  ·rw [if_pos hc] at he
   have hk:ts.tk.kind≠1:=fun e=>by rw [e,h1] at hc;cases hc
   split at he
   ·rename_i hj;exact (h.join _ _ _ _ hk hj).trans (ih _ _ _ _ he)
   ·cases he
  ·rw [if_neg hc] at he
   injection he with _ h2;subst h2;exact Ate.refl _
theorem Eats.row {f:TS→TRes} (h:Eats f) (ks:List Int) (h1:ks.contains 1=false):Eats (vr0 f ks):=by
 intro ts t ts' he
 unfold vr0 at he
 split at he
 ·rename_i hr;exact (h _ _ _ hr).trans (h.loop ks h1 _ _ _ _ _ he)
 ·cases he
theorem Eats.sign {f:TS→TRes} (h:Eats f) (o:Int) (ts:TS) (t:Ast) (ts':TS) (hk:ts.tk.kind≠1) (he:qy5 f o ts=.ok t ts'):Ate ts ts':=by
 unfold qy5 at he
 split at he
 ·cases he
 ·split at he
  ·rename_i hr;injection he with _ h2;subst h2
   exact ((Ate.tail (n:=ts.op+1) hk).trans (h _ _ _ hr)).op _
  ·cases he
theorem Eats.group {f:TS→TRes} (h:Eats f) (ts:TS) (t:Ast) (ts':TS) (hk:ts.tk.kind≠1) (he:qs2 f ts=.ok t ts'):Ate ts ts':=by
 unfold qs2 at he
 split at he
 ·cases he
 ·split at he
  ·rename_i hr
   split at he
   ·rename_i h27
    injection he with _ h2;subst h2
    exact ((Ate.tail (n:=ts.op+1) hk).trans (h _ _ _ hr)).trans (Ate.tail (by rw [h27];decide))
   ·cases he
  ·cases he
theorem Eats.signed {f g:TS→TRes} (hS:Eats f) (hE:Eats g):Eats (qh5 f g):=by
 intro ts t ts' he
 unfold qh5 at he
 by_cases h22:ts.tk.kind=22
 ·rw [if_pos h22] at he;exact hS.sign 14 _ _ _ (by rw [h22];decide) he
 rw [if_neg h22] at he
 by_cases h23:ts.tk.kind=23
 ·rw [if_pos h23] at he;exact hS.sign 15 _ _ _ (by rw [h23];decide) he
 rw [if_neg h23] at he
 by_cases h26:ts.tk.kind=26
 ·rw [if_pos h26] at he;exact hE.group _ _ _ (by rw [h26];decide) he
 rw [if_neg h26] at he
 by_cases h2:ts.tk.kind=2
 ·rw [if_pos h2] at he;injection he with _ e;subst e;exact Ate.of h2 (by decide)
 rw [if_neg h2] at he
 by_cases h3:ts.tk.kind=3
 ·rw [if_pos h3] at he;injection he with _ e;subst e;exact Ate.of h3 (by decide)
 rw [if_neg h3] at he
 by_cases h4:ts.tk.kind=4
 ·rw [if_pos h4] at he;injection he with _ e;subst e;exact Ate.of h4 (by decide)
 rw [if_neg h4] at he
 by_cases h8:ts.tk.kind=8
 ·rw [if_pos h8] at he;injection he with _ e;subst e;exact Ate.of h8 (by decide)
 rw [if_neg h8] at he
 by_cases h9:ts.tk.kind=9
 ·rw [if_pos h9] at he;injection he with _ e;subst e;exact Ate.of h9 (by decide)
 rw [if_neg h9] at he
 cases he
theorem jg9 (l:Ast) (ts:TS) (t:Ast) (ts':TS) (hk:ts.tk.kind≠1) (he:tIsNull l ts=.ok t ts'):Ate ts ts':=by
 unfold tIsNull at he
 by_cases h7:ts.next.tk.kind=7
 ·rw [if_pos h7] at he
  by_cases h15:ts.next.next.tk.kind=15
  ·rw [if_pos h15] at he;injection he with _ e;subst e
   exact ((Ate.next hk).trans (Ate.of h7 (by decide))).trans (Ate.of h15 (by decide))
  ·rw [if_neg h15] at he;cases he
 ·rw [if_neg h7] at he
  by_cases h15:ts.next.tk.kind=15
  ·rw [if_pos h15] at he;injection he with _ e;subst e
   exact (Ate.next hk).trans (Ate.of h15 (by decide))
  ·rw [if_neg h15] at he;cases he
theorem jg8 (l:Ast):∀n xs ts t ts',qg0 l n xs ts=.ok t ts'→Ate ts ts':=by
 intro n
 induction n with
 | zero=>intro xs ts t ts' he;rw [qg0] at he;cases he
 | succ n ih=>
  intro xs ts t ts' he
  rw [qg0] at he
  by_cases h28:ts.tk.kind=28
  ·rw [if_pos h28] at he
   by_cases h4:ts.next.tk.kind=4
   ·rw [if_pos h4] at he
    exact ((Ate.of h28 (by decide)).trans (Ate.of h4 (by decide))).trans (ih _ _ _ _ he)
   ·rw [if_neg h4] at he;cases he
  ·rw [if_neg h28] at he
   by_cases h27:ts.tk.kind=27
   ·rw [if_pos h27] at he;injection he with _ e;subst e;exact Ate.of h27 (by decide)
   ·rw [if_neg h27] at he;cases he
theorem eats_in (l:Ast) (ts:TS) (t:Ast) (ts':TS) (hk:ts.tk.kind≠1) (he:tInRes l ts=.ok t ts'):Ate ts ts':=by
 unfold tInRes at he
 by_cases h26:ts.next.tk.kind=26
 ·rw [if_pos h26] at he
  by_cases h4:ts.next.next.tk.kind=4
  ·rw [if_pos h4] at he
   exact (((Ate.next hk).trans (Ate.of h26 (by decide))).trans (Ate.of h4 (by decide))).trans (jg8 l _ _ _ _ _ he)
  ·rw [if_neg h4] at he;cases he
 ·rw [if_neg h26] at he;cases he
theorem eats_like (l:Ast) (ts:TS) (t:Ast) (ts':TS) (hk:ts.tk.kind≠1) (he:tLike l ts=.ok t ts'):Ate ts ts':=by
 unfold tLike at he
 by_cases h4:ts.next.tk.kind=4
 ·rw [if_pos h4] at he
  have a:=(Ate.next hk).trans (Ate.of h4 (by decide))
  by_cases h13:ts.next.next.tk.kind=13
  ·rw [if_pos h13] at he
   split at he
   ·rename_i g
    injection he with _ e;subst e
    exact (a.trans (Ate.of h13 (by decide))).trans (Ate.of g.1 (by decide))
   ·cases he
  ·rw [if_neg h13] at he
   injection he with _ e;subst e;exact a
 ·rw [if_neg h4] at he;cases he
theorem Eats.between {f:TS→TRes} (h:Eats f) (l:Ast) (ts:TS) (t:Ast) (ts':TS) (he:qg8 f l ts=.ok t ts'):Ate ts ts':=by
 unfold qg8 at he
 by_cases h10:ts.tk.kind=10
 ·rw [if_pos h10] at he
  split at he
  ·rename_i ts1 e1
   split at he
   ·rename_i h5
    split at he
    ·rename_i e2
     injection he with _ e;subst e
     exact (((Ate.of h10 (by decide)).trans (h _ _ _ e1)).trans (Ate.of h5 (by decide))).trans (h _ _ _ e2)
    ·cases he
   ·cases he
  ·cases he
 ·rw [if_neg h10] at he;cases he
theorem Eats.keyword {f:TS→TRes} (h:Eats f) (bare:Bool) (l:Ast) (ts:TS) (t:Ast) (ts':TS) (he:qf1 f bare l ts=.ok t ts'):Ate ts ts':=by
 unfold qf1 at he
 split at he
 ·rename_i g;exact eats_in _ _ _ _ (by rw [g.1];decide) he
 split at he
 ·rename_i g;exact eats_like _ _ _ _ (by rw [g.1];decide) he
 ·exact h.between _ _ _ _ he
theorem Eats.test {f:TS→TRes} (h:Eats f):Eats (vb3 f):=by
 intro ts t ts' he
 unfold vb3 at he
 split at he
 ·rename_i hr
  refine (h _ _ _ hr).trans ?_
  unfold vd5 at he
  split at he
  ·rename_i g
   exact h.join _ _ _ _ (by rcases g with e|e|e|e|e|e<;>rw [e]<;>decide) he
  split at he
  ·rename_i g
   split at he
   ·exact jg9 _ _ _ _ (by rw [g];decide) he
   ·injection he with _ h2;subst h2;exact Ate.refl _
  split at he
  ·rename_i g
   split at he
   ·rename_i hk;injection he with _ h2;subst h2;exact (Ate.of g (by decide)).trans (h.keyword _ _ _ _ _ hk)
   ·cases he
  split at he
  ·exact h.keyword _ _ _ _ _ he
  ·injection he with _ h2;subst h2;exact Ate.refl _
 ·cases he
theorem Eats.denied {fD fT:TS→TRes} (hD:Eats fD) (hT:Eats fT):Eats (qj9 fD fT):=by
 intro ts t ts' he
 unfold qj9 at he
 split at he
 ·rename_i g;exact hD.sign 5 _ _ _ (by rw [g];decide) he
 ·exact hT _ _ _ he
structure Eats3 (L:T3):Prop where
 S:Eats L.S
 D:Eats L.D
 E:Eats L.E
theorem eats_up {L:T3} (h:Eats3 L):Eats3 (tUp L):=by
 have hS:=Eats.signed h.S h.E
 have hT:=((hS.row [24,25] rfl).row [22,23] rfl).test
 have hD:=Eats.denied h.D hT
 exact ⟨hS,hD,(hD.row [5] rfl).row [6] rfl⟩
theorem eats_lvl:∀d,Eats3 (tLvl d):=by
 intro d
 induction d with
 | zero=>exact eats_up ⟨(fun _ _ _ h=>by cases h),(fun _ _ _ h=>by cases h),(fun _ _ _ h=>by cases h)⟩
 | succ d ih=>exact eats_up ih
theorem ja4 {t:Ast} (h:chkR (qa1 t)=none):chkR (qa1 (qj5 t))=none:=by
 have hr:=cls_erase t
 cases h1:qa1 t with
 | ok c=>
  rw [h1] at hr h
  cases h2:qa1 (qj5 t) with
  | ok d=>rw [h2] at hr;cases hr;exact h
  | err q=>rw [h2] at hr;cases hr
 | err p=>rw [h1] at h;cases h
theorem vr1 {s:ByteArray} {t:Ast} (h:qj8 s=.ok t):s.size≤200∧∃L,Lx s.data.toList L∧(∀k∈L,k.kind≠1)∧(tLvl 12).E ⟨L,0⟩=.ok (qj5 t) ⟨[],0⟩∧chkR (qa1 (qj5 t))=none:=by
 unfold qj8 at h
 by_cases hs:s.size≤200
 ·rw [if_pos hs] at h
  refine ⟨hs, ?_⟩
  obtain ⟨L,hL⟩:=jr7 _ s.data.toList (Nat.le_refl _)
  have hst:Str s (v9 s st0) L:=je3 hL st0 (Nat.zero_le _) (List.drop_zero)
  have hfi:=qm7 s st0 (Nat.zero_le _)
  have hsim:=(vn2 s 12).E (v9 s st0) ⟨L,0⟩ hfi hst rfl
  rcases hsim.cases with ⟨t1,st,ts,e1,e2,e3,e4,e5⟩|⟨en,pl,e1,e2⟩
  ·rw [e1] at h
   change endR t1 st=_ at h
   unfold endR at h
   by_cases hk:st.tk.kind=0
   ·rw [if_pos hk] at h
    cases hc:chkR (qa1 t1) with
    | some q=>rw [hc] at h;cases h
    | none=>
     rw [hc] at h
     injection h with h
     subst h
     have hnil:ts.toks=[]:=by
      cases hl:ts.toks with
      | nil=>rfl
      | cons a r=>
       rw [hl] at e3
       cases e3 with
       | cons g _=>exact absurd hk g
     have hop:ts.op=0:=((ext_lvl (X:=[qd8 27]) rfl 0 12 0 rfl).E ⟨L,0⟩ rfl _ _ e2).1
     have hts:ts=⟨[],0⟩:=by cases ts;simp at hnil hop;rw [hnil,hop]
     rw [hts] at e2
     obtain ⟨A,ea,hA⟩:=(eats_lvl 12).E _ _ _ e2
     refine ⟨L,hL,fun k hk=>hA k ?_,e2,ja4 hc⟩
     have:L=A:=by simpa using ea
     rw [←this];exact hk
   ·rw [if_neg hk] at h;cases h
  ·rw [e1] at h;cases h
 ·rw [if_neg hs] at h;cases h
end
section
def ShA:Ast→Prop
 | .leaf p=>0≤p.op∧p.op≤4
 | .un p x=>(p.op=5∨p.op=14∨p.op=15∨p.op=21∨p.op=22∨p.op=23)∧(p.op=21→p.texts≠[])∧(p.op=21∨p.op=22∨p.op=23→opA x=0)∧ShA x
 | .bin p x y=>(6≤p.op∧p.op≤13∨16≤p.op∧p.op≤19)∧ShA x∧ShA y
 | .tri p x y z=>p.op=20∧ShA x∧ShA y∧ShA z
def ndA:Ast→Nat
 | .leaf _=>1
 | .un p x=>1+p.texts.length+ndA x
 | .bin _ x y=>1+ndA x+ndA y
 | .tri _ x y z=>1+ndA x+ndA y+ndA z
theorem opOf_rng (k:Int):6≤js3 k∧js3 k≤13∨16≤js3 k∧js3 k≤19:=by
 unfold js3
 have ite':∀{c:Prop} [Decidable c] {a b:Int},(6≤a∧a≤13∨16≤a∧a≤19)→(6≤b∧b≤13∨16≤b∧b≤19)→(6≤(if c then a else b)∧(if c then a else b)≤13∨16≤(if c then a else b)∧(if c then a else b)≤19):=by
  intro c _ a b ha hb
  by_cases h:c
  ·rw [if_pos h];exact ha
  ·rw [if_neg h];exact hb
 repeat refine ite' (by decide) ?_
 decide
def Nd (f:TS→TRes):Prop:=∀ts t ts',f ts=.ok t ts'→ShA t∧ndA t+ts'.toks.length≤ts.toks.length
def NdT (l:Ast) (ts:TS) (t:Ast) (ts':TS):Prop:=ShA l→ShA t∧ndA t+ts'.toks.length≤ndA l+ts.toks.length
theorem qi8 {ts:TS} (h:ts.toks≠[]):ts.next.toks.length+1=ts.toks.length:=by
 cases ht:ts.toks with
 | nil=>exact absurd ht h
 | cons a r=>show (ts.toks.tail).length+1=_;rw [ht];rfl
theorem Nd.join {f:TS→TRes} (h:Nd f) (ts:TS) (l t:Ast) (ts':TS) (hne:ts.toks≠[]) (he:qy4 f ts l=.ok t ts'):NdT l ts t ts':=by
 intro hl
 unfold qy4 at he
 split at he
 ·rename_i hr
  injection he with h1 h2
  subst h1 h2
  obtain ⟨a,b⟩:=h _ _ _ hr
  have:=qi8 hne
  refine ⟨⟨opOf_rng _,hl,a⟩, ?_⟩
  show 1+ndA l+_+_≤_
  omega
 ·cases he
theorem Nd.loop {f:TS→TRes} (h:Nd f) (ks:List Int) (h0:ks.contains 0=false):∀n l ts t ts',qt9 f ks n l ts=.ok t ts'→NdT l ts t ts':=by
 intro n
 induction n with
 | zero=>intro l ts t ts' he hl;rw [qt9] at he;injection he with h1 h2;subst h1 h2;exact ⟨hl,Nat.le_refl _⟩
 | succ n ih=>
  intro l ts t ts' he hl
  rw [qt9] at he
  by_cases hc:ks.contains ts.tk.kind=true
  ·rw [if_pos hc] at he
   have hne:ts.toks≠[]:=by
    intro e
    have:ts.tk.kind=0:=by unfold TS.tk;rw [e];rfl
    rw [this,h0] at hc
    cases hc
   split at he
   ·rename_i hj
    obtain ⟨a,b⟩:=h.join _ _ _ _ hne hj hl
    obtain ⟨c,d⟩:=ih _ _ _ _ he a
    exact ⟨c,by omega⟩
   ·cases he
  ·rw [if_neg hc] at he
   injection he with h1 h2;subst h1 h2;exact ⟨hl,Nat.le_refl _⟩
theorem Nd.row {f:TS→TRes} (h:Nd f) (ks:List Int) (h0:ks.contains 0=false):Nd (vr0 f ks):=by
 intro ts t ts' he
 unfold vr0 at he
 split at he
 ·rename_i hr
  obtain ⟨a,b⟩:=h _ _ _ hr
  obtain ⟨c,d⟩:=h.loop ks h0 _ _ _ _ _ he a
  exact ⟨c,by omega⟩
 ·cases he
theorem Nd.sign {f:TS→TRes} (h:Nd f) (o:Int) (ho:o=5∨o=14∨o=15) (ts:TS) (t:Ast) (ts':TS) (hne:ts.toks≠[]) (he:qy5 f o ts=.ok t ts'):ShA t∧ndA t+ts'.toks.length≤ts.toks.length:=by
 unfold qy5 at he
 split at he
 ·cases he
 ·split at he
  ·rename_i ts1 hr
   injection he with h1 h2
   subst h1 h2
   obtain ⟨a,b⟩:=h _ _ _ hr
   have:=qi8 hne
   refine ⟨⟨by simp only;omega,fun e=>?_,fun e=>?_,a⟩, ?_⟩
   ·simp only at e;omega
   ·simp only at e;omega
   ·show 1+0+_+ts1.toks.length≤_
    have e:(tIn ts).toks.length=ts.next.toks.length:=rfl
    omega
  ·cases he
theorem Nd.group {f:TS→TRes} (h:Nd f) (ts:TS) (t:Ast) (ts':TS) (he:qs2 f ts=.ok t ts'):ShA t∧ndA t+ts'.toks.length≤ts.toks.length:=by
 unfold qs2 at he
 split at he
 ·cases he
 ·split at he
  ·rename_i ts1 hr
   split at he
   ·injection he with h1 h2
    subst h1 h2
    obtain ⟨a,b⟩:=h _ _ _ hr
    have e:(tIn ts).toks.length≤ts.toks.length:=vf8 _
    have e2:=vf8 ts1.toks
    refine ⟨a, ?_⟩
    show _+ts1.toks.tail.length≤_
    omega
   ·cases he
  ·cases he
theorem vk7 {o n:Int} {s:List UInt8} (ho:0≤o∧o≤4) {ts:TS} (hne:ts.toks≠[]):ShA (jn5 o n s)∧ndA (jn5 o n s)+ts.next.toks.length≤ts.toks.length:=by
 have:=qi8 hne
 exact ⟨ho,by show 1+_≤_;omega⟩
theorem Nd.signed {f g:TS→TRes} (hS:Nd f) (hE:Nd g):Nd (qh5 f g):=by
 intro ts t ts' he
 unfold qh5 at he
 by_cases h22:ts.tk.kind=22
 ·rw [if_pos h22] at he;exact hS.sign 14 (by omega) _ _ _ (j9 (by decide) h22) he
 rw [if_neg h22] at he
 by_cases h23:ts.tk.kind=23
 ·rw [if_pos h23] at he;exact hS.sign 15 (by omega) _ _ _ (j9 (by decide) h23) he
 rw [if_neg h23] at he
 by_cases h26:ts.tk.kind=26
 ·rw [if_pos h26] at he;exact hE.group _ _ _ he
 rw [if_neg h26] at he
 by_cases h2:ts.tk.kind=2
 ·rw [if_pos h2] at he;injection he with e1 e2;subst e1 e2;exact vk7 (by decide) (j9 (by decide) h2)
 rw [if_neg h2] at he
 by_cases h3:ts.tk.kind=3
 ·rw [if_pos h3] at he;injection he with e1 e2;subst e1 e2;exact vk7 (by decide) (j9 (by decide) h3)
 rw [if_neg h3] at he
 by_cases h4:ts.tk.kind=4
 ·rw [if_pos h4] at he;injection he with e1 e2;subst e1 e2;exact vk7 (by decide) (j9 (by decide) h4)
 rw [if_neg h4] at he
 by_cases h8:ts.tk.kind=8
 ·rw [if_pos h8] at he;injection he with e1 e2;subst e1 e2;exact vk7 (by decide) (j9 (by decide) h8)
 rw [if_neg h8] at he
 by_cases h9:ts.tk.kind=9
 ·rw [if_pos h9] at he;injection he with e1 e2;subst e1 e2;exact vk7 (by decide) (j9 (by decide) h9)
 rw [if_neg h9] at he
 cases he
theorem nd_isNull (l:Ast) (h0:opA l=0) (ts:TS) (t:Ast) (ts':TS) (hne:ts.toks≠[]) (he:tIsNull l ts=.ok t ts'):NdT l ts t ts':=by
 intro hl
 have n0:=qi8 hne
 unfold tIsNull at he
 by_cases h7:ts.next.tk.kind=7
 ·rw [if_pos h7] at he
  have n1:=qi8 (j9 (by decide) h7)
  by_cases h15:ts.next.next.tk.kind=15
  ·rw [if_pos h15] at he;injection he with e1 e2;subst e1 e2
   have n2:=qi8 (j9 (by decide) h15)
   exact ⟨⟨by simp,fun e=>by simp at e,fun e=>by simp at e,⟨by simp,fun e=>by simp at e,fun _=>h0,hl⟩⟩,by show 1+0+(1+0+ndA l)+_≤_;omega⟩
  ·rw [if_neg h15] at he;cases he
 ·rw [if_neg h7] at he
  by_cases h15:ts.next.tk.kind=15
  ·rw [if_pos h15] at he;injection he with e1 e2;subst e1 e2
   have n1:=qi8 (j9 (by decide) h15)
   exact ⟨⟨by simp,fun e=>by simp at e,fun _=>h0,hl⟩,by show 1+0+ndA l+_≤_;omega⟩
  ·rw [if_neg h15] at he;cases he
theorem nd_inLoop (l:Ast) (h0:opA l=0):∀n xs ts t ts',xs≠[]→ShA l→qg0 l n xs ts=.ok t ts'→ShA t∧ndA t+ts'.toks.length≤1+xs.length+ndA l+ts.toks.length:=by
 intro n
 induction n with
 | zero=>intro xs ts t ts' _ _ he;rw [qg0] at he;cases he
 | succ n ih=>
  intro xs ts t ts' hx hl he
  rw [qg0] at he
  by_cases h28:ts.tk.kind=28
  ·rw [if_pos h28] at he
   have n1:=qi8 (j9 (by decide) h28)
   by_cases h4:ts.next.tk.kind=4
   ·rw [if_pos h4] at he
    have n2:=qi8 (j9 (by decide) h4)
    obtain ⟨a,b⟩:=ih _ _ _ _ (by simp) hl he
    refine ⟨a, ?_⟩
    rw [List.length_append] at b
    simp only [List.length_singleton] at b
    omega
   ·rw [if_neg h4] at he;cases he
  ·rw [if_neg h28] at he
   by_cases h27:ts.tk.kind=27
   ·rw [if_pos h27] at he;injection he with e1 e2;subst e1 e2
    have n1:=qi8 (j9 (by decide) h27)
    exact ⟨⟨by simp,fun _=>hx,fun _=>h0,hl⟩,by show 1+xs.length+ndA l+_≤_;omega⟩
   ·rw [if_neg h27] at he;cases he
theorem nd_in (l:Ast) (h0:opA l=0) (ts:TS) (t:Ast) (ts':TS) (hne:ts.toks≠[]) (he:tInRes l ts=.ok t ts'):NdT l ts t ts':=by
 intro hl
 have n0:=qi8 hne
 unfold tInRes at he
 by_cases h26:ts.next.tk.kind=26
 ·rw [if_pos h26] at he
  have n1:=qi8 (j9 (by decide) h26)
  by_cases h4:ts.next.next.tk.kind=4
  ·rw [if_pos h4] at he
   have n2:=qi8 (j9 (by decide) h4)
   obtain ⟨a,b⟩:=nd_inLoop l h0 _ _ _ _ _ (by simp) hl he
   simp only [List.length_singleton] at b
   exact ⟨a,by omega⟩
  ·rw [if_neg h4] at he;cases he
 ·rw [if_neg h26] at he;cases he
theorem nd_like (l:Ast) (h0:opA l=0) (ts:TS) (t:Ast) (ts':TS) (hne:ts.toks≠[]) (he:tLike l ts=.ok t ts'):NdT l ts t ts':=by
 intro hl
 have n0:=qi8 hne
 have n1:=y4 ts.next
 have n2:=y4 ts.next.next
 have n3:=y4 ts.next.next.next
 unfold tLike at he
 split at he
 ·split at he
  ·split at he
   ·injection he with e1 e2;subst e1 e2
    exact ⟨⟨by simp,fun e=>by simp at e,fun _=>h0,hl⟩,by show 1+0+ndA l+_≤_;omega⟩
   ·cases he
  ·injection he with e1 e2;subst e1 e2
   exact ⟨⟨by simp,fun e=>by simp at e,fun _=>h0,hl⟩,by show 1+0+ndA l+_≤_;omega⟩
 ·cases he
theorem Nd.between {f:TS→TRes} (h:Nd f) (l:Ast) (ts:TS) (t:Ast) (ts':TS) (he:qg8 f l ts=.ok t ts'):NdT l ts t ts':=by
 intro hl
 unfold qg8 at he
 by_cases h10:ts.tk.kind=10
 ·rw [if_pos h10] at he
  have n0:=qi8 (j9 (by decide) h10)
  split at he
  ·rename_i ts1 e1
   obtain ⟨a,b⟩:=h _ _ _ e1
   split at he
   ·split at he
    ·rename_i e2
     obtain ⟨c,d⟩:=h _ _ _ e2
     have n1:=y4 ts1
     injection he with e3 e4
     subst e3 e4
     exact ⟨⟨rfl,hl,a,c⟩,by show 1+ndA l+_+_+_≤_;omega⟩
    ·cases he
   ·cases he
  ·cases he
 ·rw [if_neg h10] at he;cases he
theorem Nd.keyword {f:TS→TRes} (h:Nd f) (bare:Bool) (l:Ast) (hb:bare=true→opA l=0) (ts:TS) (t:Ast) (ts':TS) (he:qf1 f bare l ts=.ok t ts'):NdT l ts t ts':=by
 unfold qf1 at he
 split at he
 ·rename_i g;exact nd_in _ (hb g.2) _ _ _ (j9 (by decide) g.1) he
 split at he
 ·rename_i g;exact nd_like _ (hb g.2) _ _ _ (j9 (by decide) g.1) he
 ·exact h.between _ _ _ _ he
theorem Nd.test {f:TS→TRes} (h:Nd f):Nd (vb3 f):=by
 intro ts t ts' he
 unfold vb3 at he
 split at he
 ·rename_i ts1 hr
  obtain ⟨a,b⟩:=h _ _ _ hr
  suffices hs:∀l,ShA l→vd5 f (ts.tk.kind==2&&opA l==0) l ts1=.ok t ts'→NdT l ts1 t ts' by
   obtain ⟨c,d⟩:=hs _ a he a
   exact ⟨c,by omega⟩
  intro l hl he
  have hbare:(ts.tk.kind==2&&opA l==0)=true→opA l=0:=fun e=>by simp only [Bool.and_eq_true,beq_iff_eq] at e;exact e.2
  unfold vd5 at he
  split at he
  ·rename_i g
   refine h.join _ _ _ _ ?_ he
   rcases g with e|e|e|e|e|e<;>exact j9 (by decide) e
  split at he
  ·rename_i g
   split at he
   ·rename_i gb;exact nd_isNull _ (hbare gb) _ _ _ (j9 (by decide) g) he
   ·injection he with e1 e2;subst e1 e2;exact fun _=>⟨hl,Nat.le_refl _⟩
  split at he
  ·rename_i g
   have n0:=qi8 (j9 (by decide) g)
   split at he
   ·rename_i hk
    injection he with e1 e2;subst e1 e2
    intro hl
    obtain ⟨c,d⟩:=h.keyword _ _ hbare _ _ _ hk hl
    exact ⟨⟨by simp,fun e=>by simp at e,fun e=>by simp at e,c⟩,by show 1+0+_+_≤_;omega⟩
   ·cases he
  split at he
  ·exact h.keyword _ _ hbare _ _ _ he
  ·injection he with e1 e2;subst e1 e2;exact fun _=>⟨hl,Nat.le_refl _⟩
 ·cases he
theorem Nd.denied {fD fT:TS→TRes} (hD:Nd fD) (hT:Nd fT):Nd (qj9 fD fT):=by
 intro ts t ts' he
 unfold qj9 at he
 split at he
 ·rename_i g;exact hD.sign 5 (by omega) _ _ _ (j9 (by decide) g) he
 ·exact hT _ _ _ he
structure Nd3 (L:T3):Prop where
 S:Nd L.S
 D:Nd L.D
 E:Nd L.E
theorem nd_up {L:T3} (h:Nd3 L):Nd3 (tUp L):=by
 have hS:=Nd.signed h.S h.E
 have hT:=((hS.row [24,25] rfl).row [22,23] rfl).test
 have hD:=Nd.denied h.D hT
 exact ⟨hS,hD,(hD.row [5] rfl).row [6] rfl⟩
theorem nd_lvl:∀d,Nd3 (tLvl d):=by
 intro d
 induction d with
 | zero=>exact nd_up ⟨(fun _ _ _ h=>by cases h),(fun _ _ _ h=>by cases h),(fun _ _ _ h=>by cases h)⟩
 | succ d ih=>exact nd_up ih
theorem lx_len {l:List UInt8} {L:List Tk} (h:Lx l L):L.length≤l.length:=by
 induction h with
 | nil _=>exact Nat.zero_le _
 | @cons r k L e h t ih=>
  have hl:=next_in (l:=r) (by rw [e];exact h)
  have hz:0<qm0 r 0:=by
   unfold qm0
   rw [if_pos hl]
   have:=ve7 (r.drop (qf8 r 0)) (by rw [List.length_drop];omega)
   omega
  have:=jc4 r 0
  rw [List.length_drop] at ih
  simp only [List.length_cons]
  omega
theorem sh_erase:∀t,ShA (qj5 t)→ShA t:=by
 intro t
 induction t with
 | leaf p=>exact fun h=>h
 | un p x ih=>exact fun h=>⟨h.1,h.2.1,fun e=>by rw [←jc7];exact h.2.2.1 e,ih h.2.2.2⟩
 | bin p x y ihx ihy=>exact fun h=>⟨h.1,ihx h.2.1,ihy h.2.2⟩
 | tri p x y z ihx ihy ihz=>exact fun h=>⟨h.1,ihx h.2.1,ihy h.2.2.1,ihz h.2.2.2⟩
theorem nd_erase:∀t,ndA (qj5 t)=ndA t:=by
 intro t
 induction t with
 | leaf p=>rfl
 | un p x ih=>show 1+_+ndA (qj5 x)=_;rw [ih];rfl
 | bin p x y ihx ihy=>show 1+ndA (qj5 x)+ndA (qj5 y)=_;rw [ihx,ihy];rfl
 | tri p x y z ihx ihy ihz=>show 1+ndA (qj5 x)+ndA (qj5 y)+ndA (qj5 z)=_;rw [ihx,ihy,ihz];rfl
theorem vx9 {s:ByteArray} {t:Ast} (h:qj8 s=.ok t):ShA t∧ndA t≤200:=by
 obtain ⟨hs,L,hL,_,hr,_⟩:=vr1 h
 obtain ⟨a,b⟩:=(nd_lvl 12).E _ _ _ hr
 have:=lx_len hL
 rw [qb0] at this
 rw [nd_erase] at b
 exact ⟨sh_erase t a,by simp only [List.length_nil] at b;show ndA t≤200;have e:(⟨L,0⟩:TS).toks.length=L.length:=rfl;omega⟩
end
section
def Bq (p:Pay):Prop:=p.esc.length≤1∧∀x∈p.texts,x.length≤200
def BqA:Ast→Prop
 | .leaf p=>Bq p
 | .un p x=>Bq p∧BqA x
 | .bin p x y=>Bq p∧BqA x∧BqA y
 | .tri p x y z=>Bq p∧BqA x∧BqA y∧BqA z
theorem bq0 (op pl num:Int):Bq ⟨op,pl,num,[],[],[]⟩:=⟨by simp,by simp⟩
theorem bq1 {op pl num:Int} {s:List UInt8}:Bq ⟨op,pl,num,s,[],[]⟩:=⟨by simp,by simp⟩
def QGood (f:St→Res):Prop:=∀st t st',vz6 st→f st=.ok t st'→BqA t∧vz6 st'
def vz5 (g:Ast→St→Res):Prop:=∀l st t st',BqA l→vz6 st→g l st=.ok t st'→BqA t∧vz6 st'
theorem QGood.join {s:ByteArray} (H:s.size≤200) {f:St→Res} (h:QGood f):∀st l t st',BqA l→qb4 s f st l=.ok t st'→BqA t∧vz6 st':=by
 intro st l t st' hl he
 unfold qb4 at he
 split at he
 ·rename_i r st2 hr;injection he with h1 h2;subst h1;subst h2
  have:=h _ _ _ (z7 H st) hr
  exact ⟨⟨(bq0 _ _ _),hl,this.1⟩,this.2⟩
 ·cases he
theorem QGood.loop {s:ByteArray} (H:s.size≤200) {f:St→Res} {ks:List Int} (h:QGood f):∀n l st t st',BqA l→vz6 st→qa5 s f ks n l st=.ok t st'→BqA t∧vz6 st':=by
 intro n
 induction n with
 | zero=>intro l st t st' hl hs he;rw [qa5] at he;injection he with h1 h2;subst h1;subst h2;exact ⟨hl,hs⟩
 | succ n ih=>
  intro l st t st' hl hs he
  rw [qa5] at he
  split at he
  ·split at he
   ·rename_i hj;have:=h.join H _ _ _ _ hl hj;exact ih _ _ _ _ this.1 this.2 he
   ·cases he
  ·injection he with h1 h2;subst h1;subst h2;exact ⟨hl,hs⟩
theorem QGood.row {s:ByteArray} (H:s.size≤200) {f:St→Res} {ks:List Int} (h:QGood f):QGood (qg3 s f ks):=by
 intro st t st' hs he
 unfold qg3 at he
 split at he
 ·rename_i hr;have:=h _ _ _ hs hr;exact h.loop H _ _ _ _ _ this.1 this.2 he
 ·cases he
theorem QGood.sign {s:ByteArray} (H:s.size≤200) {f:St→Res} (h:QGood f) (o:Int):QGood (qg7 s f o):=by
 intro st t st' _ he
 unfold qg7 at he
 split at he
 ·cases he
 ·split at he
  ·rename_i hr;injection he with h1 h2;subst h1;subst h2
   have:=h (va3 s st) _ _ (z7 H st) hr
   exact ⟨⟨(bq0 _ _ _),this.1⟩,this.2⟩
  ·cases he
theorem QGood.group {s:ByteArray} (H:s.size≤200) {f:St→Res} (h:QGood f):QGood (qh6 s f):=by
 intro st t st' _ he
 unfold qh6 at he
 split at he
 ·cases he
 ·split at he
  ·rename_i hr;split at he
   ·injection he with h1 h2;subst h1;subst h2
    exact ⟨(h (va3 s st) _ _ (z7 H st) hr).1,z7 H _⟩
   ·cases he
  ·cases he
theorem QGood.signed {s:ByteArray} (H:s.size≤200) {fS fE:St→Res} (hS:QGood fS) (hE:QGood fE):QGood (qa8 s fS fE):=by
 intro st t st' hs he
 unfold qa8 at he
 split at he
 ·exact hS.sign H 14 _ _ _ hs he
 split at he
 ·exact hS.sign H 15 _ _ _ hs he
 split at he
 ·exact hE.group H _ _ _ hs he
 split at he
 ·injection he with h1 h2;subst h1;subst h2;exact ⟨bq1,z7 H st⟩
 split at he
 ·injection he with h1 h2;subst h1;subst h2;exact ⟨(bq0 _ _ _),z7 H st⟩
 split at he
 ·injection he with h1 h2;subst h1;subst h2;exact ⟨bq1,z7 H st⟩
 split at he
 ·injection he with h1 h2;subst h1;subst h2;exact ⟨(bq0 _ _ _),z7 H st⟩
 split at he
 ·injection he with h1 h2;subst h1;subst h2;exact ⟨(bq0 _ _ _),z7 H st⟩
 ·cases he
theorem bq_isNull {s:ByteArray} (H:s.size≤200):vz5 (qc7 s):=by
 intro l st t st' hl _ he
 unfold qc7 at he
 split at he
 ·split at he
  ·injection he with h1 h2;subst h1;subst h2;exact ⟨⟨(bq0 _ _ _),(bq0 _ _ _),hl⟩,z7 H _⟩
  ·cases he
 ·split at he
  ·injection he with h1 h2;subst h1;subst h2;exact ⟨⟨(bq0 _ _ _),hl⟩,z7 H _⟩
  ·cases he
theorem bq_inLoop {s:ByteArray} (H:s.size≤200) {l:Ast} {pl:Nat} (hl:BqA l):∀n ts st t st',(∀x∈ts,x.length≤200)→qf4 s l pl n ts st=.ok t st'→BqA t∧vz6 st':=by
 intro n
 induction n with
 | zero=>intro ts st t st' _ he;rw [qf4] at he;cases he
 | succ n ih=>
  intro ts st t st' hn he
  rw [qf4] at he
  split at he
  ·split at he
   ·refine ih _ _ _ _ (fun x hx=>?_) he
    rcases List.mem_append.1 hx with hx|hx
    ·exact hn x hx
    ·simp at hx;subst hx;exact z7 H st
   ·cases he
  ·split at he
   ·injection he with h1 h2;subst h1;subst h2;exact ⟨⟨⟨by simp,hn⟩,hl⟩,z7 H _⟩
   ·cases he
theorem bq_in {s:ByteArray} (H:s.size≤200):vz5 (qn6 s):=by
 intro l st t st' hl _ he
 unfold qn6 at he
 split at he
 ·split at he
  ·exact bq_inLoop H hl _ _ _ _ _ (fun x hx=>by simp at hx;subst hx;exact z7 H _) he
  ·cases he
 ·cases he
theorem jv9 {s:ByteArray} {ft:Tk} {fp:Nat} {st:St} {str:List UInt8} {st':St} (h:va0 s ft fp st=.ok str st'):str.length≤1:=by
 unfold va0 at h
 split at h
 ·split at h
  ·rename_i h1
   split at h
   ·injection h with e1 _;subst e1;omega
   ·cases h
  ·cases h
 ·cases h
theorem bq_like {s:ByteArray} (H:s.size≤200):vz5 (qd7 s):=by
 intro l st t st' hl _ he
 unfold qd7 at he
 split at he
 ·split at he
  ·split at he
   ·rename_i hk;injection he with h1 h2;subst h1;subst h2;rw [(vb9 hk).2];exact ⟨⟨⟨jv9 hk,by simp⟩,hl⟩,z7 H _⟩
   ·cases he
  ·injection he with h1 h2;subst h1;subst h2;exact ⟨⟨⟨by simp,by simp⟩,hl⟩,z7 H _⟩
 ·cases he
theorem QGood.between {s:ByteArray} (H:s.size≤200) {f:St→Res} (h:QGood f):vz5 (qd2 s f):=by
 intro l st t st' hl _ he
 unfold qd2 at he
 split at he
 ·split at he
  ·rename_i h1;split at he
   ·split at he
    ·rename_i h2;injection he with h3 h4;subst h3;subst h4
     have a:=h _ _ _ (z7 H _) h1
     have b:=h _ _ _ (z7 H _) h2
     exact ⟨⟨(bq0 _ _ _),hl,a.1,b.1⟩,b.2⟩
    ·cases he
   ·cases he
  ·cases he
 ·cases he
theorem QGood.keyword {s:ByteArray} (H:s.size≤200) {f:St→Res} (h:QGood f) (bare:Bool):vz5 (y5 s f (qn6 s) (qd7 s) bare):=by
 intro l st t st' hl hs he
 unfold y5 at he
 split at he
 ·exact bq_in H _ _ _ _ hl hs he
 split at he
 ·exact bq_like H _ _ _ _ hl hs he
 ·exact h.between H _ _ _ _ hl hs he
theorem QGood.test {s:ByteArray} (H:s.size≤200) {f:St→Res} (h:QGood f):QGood (qj0 s f (qn6 s) (qd7 s)):=by
 intro st t st' hs he
 unfold qj0 at he
 split at he
 ·rename_i hr
  obtain ⟨hl,hs1⟩:=h _ _ _ hs hr
  unfold x7 at he
  split at he
  ·exact h.join H _ _ _ _ hl he
  split at he
  ·split at he
   ·exact bq_isNull H _ _ _ _ hl hs1 he
   ·injection he with h1 h2;subst h1;subst h2;exact ⟨hl,hs1⟩
  split at he
  ·split at he
   ·rename_i hk;injection he with h1 h2;subst h1;subst h2
    have:=h.keyword H _ _ _ _ _ hl (z7 H _) hk
    exact ⟨⟨(bq0 _ _ _),this.1⟩,this.2⟩
   ·cases he
  split at he
  ·exact h.keyword H _ _ _ _ _ hl hs1 he
  ·injection he with h1 h2;subst h1;subst h2;exact ⟨hl,hs1⟩
 ·cases he
theorem QGood.denied {s:ByteArray} (H:s.size≤200) {fD fT:St→Res} (hD:QGood fD) (hT:QGood fT):QGood (qe4 s fD fT):=by
 intro st t st' hs he
 unfold qe4 at he
 split at he
 ·exact hD.sign H 5 _ _ _ hs he
 ·exact hT _ _ _ hs he
structure QGood3 (L:L3):Prop where
 S:QGood L.S
 D:QGood L.D
 E:QGood L.E
theorem up3_bq {s:ByteArray} (H:s.size≤200) {L:L3} (h:QGood3 L):QGood3 (up3 s L):=by
 have hS:=QGood.signed (s:=s) H h.S h.E
 have hD:=QGood.denied (s:=s) H h.D (QGood.test (s:=s) H ((hS.row (s:=s) H (ks:=[24,25])).row (s:=s) H (ks:=[22,23])))
 exact ⟨hS,hD,(hD.row (s:=s) H (ks:=[5])).row (s:=s) H (ks:=[6])⟩
theorem lvl_bq (s:ByteArray) (H:s.size≤200):∀d,QGood3 (lvl s d):=by
 intro d
 induction d with
 | zero=>exact up3_bq H ⟨(fun _ _ _ _ h=>by cases h),(fun _ _ _ _ h=>by cases h),(fun _ _ _ _ h=>by cases h)⟩
 | succ d ih=>exact up3_bq H ih
end
section
def En (r:TRes):Prop:=∀en,r=.err en→en=2∨en=3
def Nz (o:Nat) (f:TS→TRes):Prop:=∀ts,ts.op=o→En (f ts)∧∀t ts',f ts=.ok t ts'→ts'.op=o
theorem En.ok {t:Ast} {ts:TS}:En (.ok t ts):=fun _ h=>by cases h
theorem En.two:En (.err 2):=fun _ h=>by injection h with h;exact .inl h.symm
theorem En.three:En (.err 3):=fun _ h=>by injection h with h;exact .inr h.symm
theorem Nz.join {o:Nat} {f:TS→TRes} (h:Nz o f) (ts:TS) (l:Ast) (ho:ts.op=o):En (qy4 f ts l)∧∀t ts',qy4 f ts l=.ok t ts'→ts'.op=o:=by
 obtain ⟨h1,h2⟩:=h ts.next ho
 unfold qy4
 cases hf:f ts.next with
 | err en=>rw [hf] at h1;exact ⟨h1,fun _ _ h=>by cases h⟩
 | ok t ts'=>exact ⟨En.ok,fun _ _ h=>by injection h with _ e;rw [←e];exact h2 _ _ hf⟩
theorem Nz.loop {o:Nat} {f:TS→TRes} (h:Nz o f) (ks:List Int):∀n l ts,ts.op=o→En (qt9 f ks n l ts)∧∀t ts',qt9 f ks n l ts=.ok t ts'→ts'.op=o:=by
 intro n
 induction n with
 | zero=>intro l ts ho;rw [qt9];exact ⟨En.ok,fun _ _ h=>by injection h with _ e;rw [←e];exact ho⟩
 | succ n ih=>
  intro l ts ho
  rw [qt9]
  split
  ·obtain ⟨h1,h2⟩:=h.join ts l ho
   cases hf:qy4 f ts l with
   | err en=>rw [hf] at h1;exact ⟨h1,fun _ _ h=>by cases h⟩
   | ok t ts'=>exact ih t ts' (h2 _ _ hf)
  ·exact ⟨En.ok,fun _ _ h=>by injection h with _ e;rw [←e];exact ho⟩
theorem Nz.row {o:Nat} {f:TS→TRes} (h:Nz o f) (ks:List Int):Nz o (vr0 f ks):=by
 intro ts ho
 obtain ⟨h1,h2⟩:=h ts ho
 unfold vr0
 cases hf:f ts with
 | err en=>rw [hf] at h1;exact ⟨h1,fun _ _ h=>by cases h⟩
 | ok t ts'=>exact h.loop ks _ t ts' (h2 _ _ hf)
theorem Nz.sign {o:Nat} (hk:o≤12) {f:TS→TRes} (h:o<12→Nz (o+1) f) (n:Int) (ts:TS) (ho:ts.op=o):En (qy5 f n ts)∧∀t ts',qy5 f n ts=.ok t ts'→ts'.op=o:=by
 unfold qy5
 by_cases h12:ts.op=12
 ·rw [if_pos h12];exact ⟨En.three,fun _ _ h=>by cases h⟩
 ·rw [if_neg h12]
  obtain ⟨h1,h2⟩:=h (by omega) (tIn ts) (by show ts.op+1=_;omega)
  cases hf:f (tIn ts) with
  | err en=>rw [hf] at h1;exact ⟨h1,fun _ _ h=>by cases h⟩
  | ok t ts'=>exact ⟨En.ok,fun _ _ h=>by injection h with _ e;rw [←e];exact ho⟩
theorem Nz.group {o:Nat} (hk:o≤12) {f:TS→TRes} (h:o<12→Nz (o+1) f) (ts:TS) (ho:ts.op=o):En (qs2 f ts)∧∀t ts',qs2 f ts=.ok t ts'→ts'.op=o:=by
 unfold qs2
 by_cases h12:ts.op=12
 ·rw [if_pos h12];exact ⟨En.three,fun _ _ h=>by cases h⟩
 ·rw [if_neg h12]
  obtain ⟨h1,h2⟩:=h (by omega) (tIn ts) (by show ts.op+1=_;omega)
  cases hf:f (tIn ts) with
  | err en=>rw [hf] at h1;exact ⟨h1,fun _ _ h=>by cases h⟩
  | ok t ts'=>
   show En (if ts'.tk.kind=27 then _ else _)∧∀t2 ts2,(if ts'.tk.kind=27 then _ else _)=TRes.ok t2 ts2→_
   split
   ·exact ⟨En.ok,fun _ _ h=>by injection h with _ e;rw [←e];exact ho⟩
   ·exact ⟨En.two,fun _ _ h=>by cases h⟩
theorem Nz.signed {o:Nat} (hk:o≤12) {f g:TS→TRes} (hS:o<12→Nz (o+1) f) (hE:o<12→Nz (o+1) g):Nz o (qh5 f g):=by
 intro ts ho
 unfold qh5
 split
 ·exact Nz.sign hk hS 14 ts ho
 split
 ·exact Nz.sign hk hS 15 ts ho
 split
 ·exact Nz.group hk hE ts ho
 split
 ·exact ⟨En.ok,fun _ _ h=>by injection h with _ e;rw [←e];exact ho⟩
 split
 ·exact ⟨En.ok,fun _ _ h=>by injection h with _ e;rw [←e];exact ho⟩
 split
 ·exact ⟨En.ok,fun _ _ h=>by injection h with _ e;rw [←e];exact ho⟩
 split
 ·exact ⟨En.ok,fun _ _ h=>by injection h with _ e;rw [←e];exact ho⟩
 split
 ·exact ⟨En.ok,fun _ _ h=>by injection h with _ e;rw [←e];exact ho⟩
 ·exact ⟨En.two,fun _ _ h=>by cases h⟩
theorem nz_isNull {o:Nat} (l:Ast) (ts:TS) (ho:ts.op=o):En (tIsNull l ts)∧∀t ts',tIsNull l ts=.ok t ts'→ts'.op=o:=by
 unfold tIsNull
 split
 ·split
  ·exact ⟨En.ok,fun _ _ h=>by injection h with _ e;rw [←e];exact ho⟩
  ·exact ⟨En.two,fun _ _ h=>by cases h⟩
 ·split
  ·exact ⟨En.ok,fun _ _ h=>by injection h with _ e;rw [←e];exact ho⟩
  ·exact ⟨En.two,fun _ _ h=>by cases h⟩
theorem nz_inLoop {o:Nat} (l:Ast):∀n xs ts,ts.op=o→ts.toks.length<n→En (qg0 l n xs ts)∧∀t ts',qg0 l n xs ts=.ok t ts'→ts'.op=o:=by
 intro n
 induction n with
 | zero=>intro xs ts _ h;omega
 | succ n ih=>
  intro xs ts ho hl
  rw [qg0]
  by_cases h28:ts.tk.kind=28
  ·rw [if_pos h28]
   have hne:=j9 (by decide) h28
   have hlt:ts.next.toks.length<ts.toks.length:=by
    cases ht:ts.toks with
    | nil=>exact absurd ht hne
    | cons a r=>show (ts.toks.tail).length<_;rw [ht];simp
   split
   ·have:=y4 ts.next
    exact ih _ ts.next.next ho (by omega)
   ·exact ⟨En.two,fun _ _ h=>by cases h⟩
  ·rw [if_neg h28]
   split
   ·exact ⟨En.ok,fun _ _ h=>by injection h with _ e;rw [←e];exact ho⟩
   ·exact ⟨En.two,fun _ _ h=>by cases h⟩
theorem nz_in {o:Nat} (l:Ast) (ts:TS) (ho:ts.op=o):En (tInRes l ts)∧∀t ts',tInRes l ts=.ok t ts'→ts'.op=o:=by
 unfold tInRes
 split
 ·split
  ·have l1:=y4 ts
   have l2:=y4 ts.next
   have l3:=y4 ts.next.next
   exact nz_inLoop l _ _ ts.next.next.next ho (by omega)
  ·exact ⟨En.two,fun _ _ h=>by cases h⟩
 ·exact ⟨En.two,fun _ _ h=>by cases h⟩
theorem nz_like {o:Nat} (l:Ast) (ts:TS) (ho:ts.op=o):En (tLike l ts)∧∀t ts',tLike l ts=.ok t ts'→ts'.op=o:=by
 unfold tLike
 split
 ·split
  ·split
   ·exact ⟨En.ok,fun _ _ h=>by injection h with _ e;rw [←e];exact ho⟩
   ·exact ⟨En.two,fun _ _ h=>by cases h⟩
  ·exact ⟨En.ok,fun _ _ h=>by injection h with _ e;rw [←e];exact ho⟩
 ·exact ⟨En.two,fun _ _ h=>by cases h⟩
theorem Nz.between {o:Nat} {f:TS→TRes} (h:Nz o f) (l:Ast) (ts:TS) (ho:ts.op=o):En (qg8 f l ts)∧∀t ts',qg8 f l ts=.ok t ts'→ts'.op=o:=by
 unfold qg8
 split
 ·obtain ⟨h1,h2⟩:=h ts.next ho
  cases hf:f ts.next with
  | err en=>rw [hf] at h1;exact ⟨h1,fun _ _ h=>by cases h⟩
  | ok t ts1=>
   show En (if ts1.tk.kind=5 then _ else _)∧∀t2 ts2,(if ts1.tk.kind=5 then _ else _)=TRes.ok t2 ts2→_
   split
   ·have ho1:ts1.op=o:=h2 _ _ hf
    obtain ⟨h3,h4⟩:=h ts1.next ho1
    cases hg:f ts1.next with
    | err en=>rw [hg] at h3;exact ⟨h3,fun _ _ h=>by cases h⟩
    | ok t2 ts2=>exact ⟨En.ok,fun _ _ h=>by injection h with _ e;rw [←e];exact h4 _ _ hg⟩
   ·exact ⟨En.two,fun _ _ h=>by cases h⟩
 ·exact ⟨En.two,fun _ _ h=>by cases h⟩
theorem Nz.keyword {o:Nat} {f:TS→TRes} (h:Nz o f) (bare:Bool) (l:Ast) (ts:TS) (ho:ts.op=o):En (qf1 f bare l ts)∧∀t ts',qf1 f bare l ts=.ok t ts'→ts'.op=o:=by
 unfold qf1
 split
 ·exact nz_in l ts ho
 split
 ·exact nz_like l ts ho
 ·exact h.between l ts ho
theorem Nz.test {o:Nat} {f:TS→TRes} (h:Nz o f):Nz o (vb3 f):=by
 intro ts ho
 obtain ⟨h1,h2⟩:=h ts ho
 unfold vb3
 cases hf:f ts with
 | err en=>rw [hf] at h1;exact ⟨h1,fun _ _ h=>by cases h⟩
 | ok l ts1=>
  have ho1:=h2 _ _ hf
  show En (vd5 f _ l ts1)∧∀t2 ts2,vd5 f _ l ts1=TRes.ok t2 ts2→_
  unfold vd5
  split
  ·exact h.join ts1 l ho1
  split
  ·split
   ·exact nz_isNull l ts1 ho1
   ·exact ⟨En.ok,fun _ _ h=>by injection h with _ e;rw [←e];exact ho1⟩
  split
  ·obtain ⟨h3,h4⟩:=h.keyword (ts.tk.kind==2&&opA l==0) l ts1.next ho1
   cases hg:qf1 f (ts.tk.kind==2&&opA l==0) l ts1.next with
   | err en=>rw [hg] at h3;exact ⟨h3,fun _ _ h=>by cases h⟩
   | ok t2 ts2=>exact ⟨En.ok,fun _ _ h=>by injection h with _ e;rw [←e];exact h4 _ _ hg⟩
  split
  ·exact h.keyword _ l ts1 ho1
  ·exact ⟨En.ok,fun _ _ h=>by injection h with _ e;rw [←e];exact ho1⟩
theorem Nz.denied {o:Nat} (hk:o≤12) {f g:TS→TRes} (hD:o<12→Nz (o+1) f) (hT:Nz o g):Nz o (qj9 f g):=by
 intro ts ho
 unfold qj9
 split
 ·exact Nz.sign hk hD 5 ts ho
 ·exact hT ts ho
structure Nz3 (o:Nat) (L:T3):Prop where
 S:Nz o L.S
 D:Nz o L.D
 E:Nz o L.E
theorem nz_up {o:Nat} (hk:o≤12) {L:T3} (h:o<12→Nz3 (o+1) L):Nz3 o (tUp L):=by
 have hS:=Nz.signed hk (fun e=>(h e).S) (fun e=>(h e).E)
 have hT:=((hS.row [24,25]).row [22,23]).test
 have hD:=Nz.denied hk (fun e=>(h e).D) hT
 exact ⟨hS,hD,(hD.row [5]).row [6]⟩
theorem nz_lvl:∀d o,o+d=12→Nz3 o (tLvl d):=by
 intro d
 induction d with
 | zero=>intro o h;exact nz_up (by omega) (fun e=>absurd e (by omega))
 | succ d ih=>intro o h;exact nz_up (by omega) (fun e=>ih (o+1) (by omega))
theorem qs8 {s:ByteArray} {en pl:Int} (h:qj8 s=.err en pl):en=1∨en=2∨en=3∨en=4:=by
 unfold qj8 at h
 by_cases hs:s.size≤200
 ·rw [if_pos hs] at h
  obtain ⟨L,hL⟩:=jr7 _ s.data.toList (Nat.le_refl _)
  have hst:Str s (v9 s st0) L:=je3 hL st0 (Nat.zero_le _) (List.drop_zero)
  have hfi:=qm7 s st0 (Nat.zero_le _)
  have hsim:=(vn2 s 12).E (v9 s st0) ⟨L,0⟩ hfi hst rfl
  rcases hsim.cases with ⟨t1,st,ts,e1,e2,e3,e4,e5⟩|⟨en',pl',e1,e2⟩
  ·rw [e1] at h
   change endR t1 st=_ at h
   unfold endR at h
   by_cases hk:st.tk.kind=0
   ·rw [if_pos hk] at h
    cases hc:chkR (qa1 t1) with
    | some q=>rw [hc] at h;injection h with h1 _;exact .inr (.inr (.inr h1.symm))
    | none=>rw [hc] at h;cases h
   ·rw [if_neg hk] at h;injection h with h1 _;exact .inr (.inl h1.symm)
  ·rw [e1] at h
   injection h with h1 _
   subst h1
   rcases ((nz_lvl 12 0 rfl).E ⟨L,0⟩ rfl).1 _ e2 with e|e
   ·exact .inr (.inl e)
   ·exact .inr (.inr (.inl e))
 ·rw [if_neg hs] at h
  injection h with h1 _
  exact .inl h1.symm
end
end Go.Proofs.YtfkcaldjphakpabGreatDoor
