/- runs: a small program is made and run. known: what a small broker does. A program's bytes, read again, are the program. A program's bytes, read again, are the program: terms, roots, and what they say of an event. The operators of a core's terms. The bytes of LIKE, and of every term. Served: what its calls do to the broker. Many: where it stands. -/
import Derived.Test.YtfkcaldjphakpabGreatDoorF30
import Derived.Test.YtfkcaldjphakpabGreatDoorF35
import Derived.Test.YtfkcaldjphakpabGreatDoorF32
import Derived.Test.YtfkcaldjphakpabGreatDoorF19
import Derived.Test.YtfkcaldjphakpabGreatDoorF24
import Derived.Test.YtfkcaldjphakpabGreatDoorF28
import Derived.Test.YtfkcaldjphakpabGreatDoorF31
set_option maxHeartbeats 2000000
set_option maxRecDepth 100000
namespace Go.Proofs.YtfkcaldjphakpabGreatDoor
open Go.RowKit
section
def jn9:List UInt8:=[97,32,62,32,53]
def jn8:List UInt8:=[97,32,62,32,52]
def gtA (n:Int):Ast:=.bin ⟨12,2,0,[],[],[]⟩ (.leaf ⟨0,0,0,[97],[],[]⟩) (.leaf ⟨1,4,n,[],[],[]⟩)
def gtC (n:Int):Co:=.bin ⟨10,0,[],[]⟩ (.leaf ⟨1,n,[],[]⟩) (.leaf ⟨0,0,[97],[]⟩)
theorem read5:qj8 (BS jn9)=.ok (gtA 5):=by kernel_rfl
theorem read4:qj8 (BS jn8)=.ok (gtA 4):=by kernel_rfl
theorem core5:j7 (gtA 5)=gtC 5:=by kernel_rfl
theorem core4:j7 (gtA 4)=gtC 4:=by kernel_rfl
theorem notIn (n:Int):¬vh0 (gtA n):=by simp [gtA,vh0]
theorem jr5 (n:Int) (h:Rng n):vg9 (gtC n):=
 ⟨⟨⟨by decide,by decide⟩,rng0,by decide,by decide⟩,⟨⟨by show (0:Int)≤1;decide,by show (1:Int)≤23;decide⟩,h,Nat.zero_le _,Nat.zero_le _⟩,⟨⟨by decide,by decide⟩,rng0,by decide,by decide⟩⟩
def twoT:List (List UInt8):=[jn9,jn8]
def twoC:List Co:=[gtC 5,gtC 4]
def twoTm:List Tm:=[⟨1,0,0,5,[],[]⟩,⟨0,0,0,0,[97],[]⟩,⟨10,0,1,0,[],[]⟩,⟨1,0,0,4,[],[]⟩,⟨10,3,1,0,[],[]⟩]
theorem add2:qf5 twoC 2=(twoTm,[2,4]):=by kernel_rfl
theorem add1:(qf5 twoC 1).1.length=3:=by kernel_rfl
def twoB:List UInt8:=qr3 twoTm [2,4]
theorem run2:za7 twoB evs=([1],0):=by kernel_rfl
theorem two_ops:(vc7 twoB).1=5∧(List.range 5).all (fun k=>(qd0 (qz7 twoB).2 k).2.next.1.toNat==0||(qd0 (qz7 twoB).2 k).2.next.1.toNat==1||(qd0 (qz7 twoB).2 k).2.next.1.toNat==10)=true:=⟨by kernel_rfl,by kernel_rfl⟩
theorem two_terms:∀k,k<(vc7 twoB).1→vr4 (qd0 (qz7 twoB).2 k).2 k:=by
 intro k hk
 rw [two_ops.1] at hk
 have h:=List.all_eq_true.1 two_ops.2 k (List.mem_range.2 hk)
 simp only [Bool.or_eq_true,beq_iff_eq] at h
 exact je7 _ k (by omega) (by rcases h with (h|h)|h;exact .inl h;exact .inr (.inl h);exact .inr (.inr h))
theorem OB.bytes {w:World} {base:Nat} {v:Value} {l:List UInt8} (h:OB w base v l):BytesAt w w.heap.size v l:=by
 have h0:=h
 rcases h.2 with ⟨rfl,hn⟩|⟨g,cap,cur,rfl,hbg,hgg,hcap,_⟩
 ·refine ⟨none,0,by rw [hn],by omega,fun i x hi=>?_⟩
  have:=(List.getElem?_eq_some_iff.1 hi).1
  omega
 ·refine ⟨_,cap,rfl,hcap,fun i x hi=>⟨g,0,rfl,(Array.getElem?_eq_some_iff.1 hgg).1, ?_⟩⟩
  have:=World.ownsRow.cells h0 (g:=g) rfl i (.int .u8 (x.toNat:Int)) (by simp [qm2,hi])
  have hadd:(⟨g,0,none⟩:Addr).add i=⟨g,i,none⟩:=by unfold Addr.add;split<;>simp_all
  rw [hadd] at this
  rw [Nat.zero_add]
  exact this
theorem jg6 (w:World) (hL:LibOk w) (sb:Nat) (hlt:sb<w.heap.size) (h0:w.cell? ⟨sb,0,none⟩=some (.string (BS jn9))) (h1:w.cell? ⟨sb,1,none⟩=some (.string (BS jn8))) :
  Calls Tryz.prog 13 #[.slice (some ⟨sb,0,none⟩) 2 2] w fun e w'=>∃v,e=.returned (.tuple #[v,.int .i64 0,.int .i64 0])∧OB w' w.heap.size v twoB∧Below w.heap.size w w':=by
 refine vr9 twoT twoC rfl (by decide) (fun k s c hs hc=>?_) (fun k hk=>?_) (fun t ht=>?_) _ 2 w hL (fun k s hs=>?_) _ (fun v w' ho hb=>?_)
 ·match k,hs,hc with
  | 0,hs,hc=>
   obtain rfl:jn9=s:=by simpa [twoT] using hs
   obtain rfl:gtC 5=c:=by simpa [twoC] using hc
   exact ⟨gtA 5,read5,core5,fun h=>absurd h (notIn 5),jr5 5 ⟨by decide,by decide⟩,by decide,by decide⟩
  | 1,hs,hc=>
   obtain rfl:jn8=s:=by simpa [twoT] using hs
   obtain rfl:gtC 4=c:=by simpa [twoC] using hc
   exact ⟨gtA 4,read4,core4,fun h=>absurd h (notIn 4),jr5 4 ⟨by decide,by decide⟩,by decide,by decide⟩
  | k+2,hs,hc=>simp [twoT] at hs
 ·have hk2:k≤2:=hk
  match k,hk2 with
  | 0,_=>exact Nat.zero_le _
  | 1,_=>rw [add1];decide
  | 2,_=>rw [add2];decide
 ·have ht':t∈twoTm:=by have:=ht;rw [show twoT.length=2 from rfl,add2] at this;exact this
  have hs:SmallT t:=by
   simp only [twoTm,List.mem_cons,List.not_mem_nil,or_false] at ht'
   rcases ht' with rfl|rfl|rfl|rfl|rfl<;>exact ⟨by decide,by decide,by decide,by decide⟩
  refine ⟨hs,vy9 t hs ?_⟩
  simp only [twoTm,List.mem_cons,List.not_mem_nil,or_false] at ht'
  rcases ht' with rfl|rfl|rfl|rfl|rfl<;>decide
 ·match k,hs with
  | 0,hs=>
   obtain rfl:jn9=s:=by simpa [twoT] using hs
   exact ⟨sb,0,rfl,hlt,h0⟩
  | 1,hs=>
   obtain rfl:jn8=s:=by simpa [twoT] using hs
   exact ⟨sb,0,rfl,hlt,h1⟩
  | k+2,hs=>simp [twoT] at hs
 ·rw [show twoT.length=2 from rfl,add2] at ho
  exact ⟨v,rfl,ho,hb⟩
theorem runs_any (w:World) (hL:LibOk w):Calls Tryz.prog 26 #[] w fun e w'=>e=.returned (.bool true)∧Below w.heap.size w w':=by
 have RD:=v7 (reads_any w hL.err)
 have CT:Hid (∀w1,Below w.heap.size w w1→Calls Tryz.prog 13 #[.slice (some ⟨w1.heap.size,0,none⟩) 2 2] (w1.alloc (.cells #[.string ⟨#[97,32,62,32,53]⟩,.string ⟨#[97,32,62,32,52]⟩] 9)) fun e w'=>∃v,e=.returned (.tuple #[v,.int .i64 0,.int .i64 0])∧OB w' (w1.heap.size+1) v twoB∧Below w1.heap.size w1 w'):=v7 (by
  intro w1 hb
  have hL1:=(hL.below hb (Nat.le_refl _)).alloc (.cells #[.string ⟨#[97,32,62,32,53]⟩,.string ⟨#[97,32,62,32,52]⟩] 9)
  refine (jg6 _ hL1 w1.heap.size (by simp) (by simp [go_sem];rfl) (by simp [go_sem];rfl)).mono ?_
  rintro e w' ⟨v,rfl,ho,hb'⟩
  exact ⟨v,rfl,by simpa using ho,v8 ((Below.refl _ _).alloc (Nat.le_refl _) _) hb'⟩)
 have SR:Hid (∀(w1:World) (cv ev:Value),BytesAt w1 w1.heap.size cv twoB→EvIn w1 ev evs→Calls Tryz.prog 14 #[cv,ev] w1 (SrEnds w1 ([1],0))):=v7 (fun w1 cv ev h1 h2=>run2 ▸ srun_ok twoB two_terms cv evs ev w1 h1 h2 vh9)
 clear hL
 go_enter Tryz.func26,Tryz.ntmps26
 go_wp2_with (first|(go_at_call 50;refine (q9 RD).mono ?_;rintro e w1 ⟨rfl,hb1⟩;have B1:=v7 hb1;clear hb1)|(go_at_call 13;refine (q9 CT _ (q9 B1)).mono ?_;rintro e w2 ⟨v2,rfl,ho2,hb2⟩;obtain ⟨a2,c2,rfl⟩:=ho2.form;have O2:=v7 ho2.bytes;have B2:=v7 (v8 (q9 B1) hb2);clear ho2 hb2)|(go_at_call 27;refine (vn5 _).mono ?_;rintro e w3 ⟨rfl,rfl⟩;have E3:=v7 (jr1 (w:=w2) (Below.refl _ _));have B3:=v7 (v8 (q9 B2) ((Below.refl _ _).alloc (Nat.le_refl _) _:Below w2.heap.size w2 (qc5 w2)));have O3:=v7 ((q9 O2).below ((Below.refl _ _).alloc (Nat.le_refl _) _:Below w2.heap.size w2 (qc5 w2))))|(go_at_call 14;refine (q9 SR _ _ _ (q9 O3) (q9 E3)).mono ?_;rintro e w4 ⟨v4,rfl,hi4,hb4⟩;obtain ⟨a4,c4,hv4,hc4⟩:=hi4.cells;obtain ⟨g,rfl,glt,t0⟩:=hc4 0 1 rfl;subst hv4;have B4:=v7 (v8 (q9 B3) hb4);clear hc4 hi4 hb4))
 go_ret
 exact ⟨rfl,q9 B4⟩
end
section
def k3 (ms:List Mg):Su:=⟨3,gtC 4,ms⟩
def k1:Su:=⟨-1,gtC 5,[]⟩
theorem known_one:qm1 [] 3 jn8=([k3 []],0,0):=by kernel_rfl
theorem known_two:qm1 [k3 []] (-1) jn9=([k1,k3 []],0,0):=by kernel_rfl
theorem known_pub:qu8 [k1,k3 []] 0 2 evs=(([k1,k3 (vq7 [] ⟨2,1⟩)],[3],[]),1,0):=by kernel_rfl
theorem jy0:jd2 [k1,k3 (vq7 [] ⟨2,1⟩)] 3=([k1,k3 (popM (vq7 [] ⟨2,1⟩))],1,0):=by kernel_rfl
theorem known_any (w:World) (hL:LibOk w):Calls Tryz.prog 9 #[] w fun e w'=>e=.returned (.bool true)∧Below w.heap.size w w':=by
 have RU:=v7 (runs_any w hL)
 have NEW:Hid (∀w2,Below w.heap.size w w2→Calls Tryz.prog 10 #[] w2 fun e w'=>e=.returned (.pointer (some ⟨w2.heap.size,0,none⟩))∧Hid (ABr w2 w' w2.heap.size 0 [])):=v7 fun w2 _=>(new_any w2).mono (by rintro e w' ⟨rfl,rfl⟩;exact ⟨rfl,v7 ⟨_,vw1 w2⟩⟩)
 have S1:Hid (∀w2 U,Below w.heap.size w w2→ABr w2 U w2.heap.size 0 []→Calls Tryz.prog 12 #[.pointer (some ⟨w2.heap.size,0,none⟩),.int .i64 3,.string ⟨#[97,32,62,32,52]⟩] U fun e w'=>e=.returned (.tuple #[.int .i64 0,.int .i64 0])∧Hid (ABr w2 w' w2.heap.size 0 [k3 []])):=v7 fun w2 U hb hU=>(ab_sub hU (hL.below hb (Nat.le_refl _)) 3 jn8 (by decide)).mono (by rw [known_one];rintro e w' ⟨rfl,h⟩;exact ⟨rfl,v7 h⟩)
 have S2:Hid (∀w2 U,Below w.heap.size w w2→ABr w2 U w2.heap.size 0 [k3 []]→Calls Tryz.prog 12 #[.pointer (some ⟨w2.heap.size,0,none⟩),.int .i64 (-1),.string ⟨#[97,32,62,32,53]⟩] U fun e w'=>e=.returned (.tuple #[.int .i64 0,.int .i64 0])∧Hid (ABr w2 w' w2.heap.size 0 [k1,k3 []])):=v7 fun w2 U hb hU=>(ab_sub hU (hL.below hb (Nat.le_refl _)) (-1) jn9 (by decide)).mono (by rw [known_two];rintro e w' ⟨rfl,h⟩;exact ⟨rfl,v7 h⟩)
 have PB:Hid (∀w2 U ev,EvIn w2 ev evs→ABr w2 U w2.heap.size 0 [k1,k3 []]→Calls Tryz.prog 15 #[.pointer (some ⟨w2.heap.size,0,none⟩),.int .i64 2,ev] U fun e w'=>∃g c fa fc,e=.returned (.tuple #[.slice (some ⟨g,0,none⟩) 1 c,.slice fa 0 fc,.int .i64 0])∧Hid (Calls Tryz.prog 22 #[.pointer (some ⟨w2.heap.size,0,none⟩),.int .i64 3] w' fun e w''=>e=.returned (.tuple #[.int .i64 1,.int .i64 0])∧w''.cell? ⟨g,0,none⟩=some (.int .i64 3)∧Hid (Below w2.heap.size w2 w''))):=v7 (by
  intro w2 U ev he hU
  obtain ⟨F,h⟩:=hU
  refine jm5 U F w2.heap.size 0 _ h.br 2 ⟨by decide,by decide⟩ evs ev (h.event he) vh9 _ fun w' mv fv h1 h2 h3 h4=>?_
  have hb:=h.op h2 (fun _ hk=>hk.1) h1 (vm3 h.good)
  rw [known_pub] at hb h3 h4 ⊢
  obtain ⟨g,c,rfl,hc⟩:=h3.cell (i:=0) (x:=3) rfl
  obtain ⟨fa,fc,rfl⟩:=h4.form
  refine ⟨g,c,fa,fc,rfl,v7 ?_⟩
  refine poll_any w' _ w2.heap.size 1 _ hb.br 3 _ fun w'' q1 q2=>?_
  rw [jy0]
  refine ⟨rfl, ?_,v7 (q2.since hb.new hb.below)⟩
  rw [World.cell?_of_block (a:=⟨g,0,none⟩) (q2.block g (h3.lt g rfl).2 (fun e=>e.2.1 rfl))]
  exact hc)
 clear hL
 go_enter Tryz.func9,Tryz.ntmps9
 go_wp2_with (first|(go_at_call 26;refine (q9 RU).mono ?_;rintro e w1 ⟨rfl,hb1⟩;have B1:=v7 hb1;clear hb1)|(go_at_call 27;refine (vn5 _).mono ?_;rintro e w2 ⟨rfl,hw2⟩;have E2:Hid (EvIn w2 (.slice (some ⟨w1.heap.size,0,none⟩) 1 1) evs):=v7 (by rw [hw2];exact jr1 (w:=w1) (Below.refl _ _));have B2:Hid (Below w.heap.size w w2):=v7 (v8 (q9 B1) (by rw [hw2];exact (Below.refl _ _).alloc (Nat.le_refl _) _));clear hw2)|(go_at_call 10;refine (q9 NEW _ (q9 B2)).mono ?_;rintro e w3 ⟨rfl,A3⟩)|(go_at_call 12;refine (q9 S1 _ _ (q9 B2) (q9 A3)).mono ?_;clear S1;rintro e w4 ⟨rfl,A4⟩)|(go_at_call 12;refine (q9 S2 _ _ (q9 B2) (q9 A4)).mono ?_;clear S2;rintro e w5 ⟨rfl,A5⟩)|(go_at_call 15;refine (q9 PB _ _ _ (q9 E2) (q9 A5)).mono ?_;rintro e w6 ⟨g6,c6,fa6,fc6,rfl,P6⟩)|(go_at_call 22;refine (q9 P6).mono ?_;rintro e w7 ⟨rfl,d7,B7⟩))
 go_ret
 exact ⟨rfl,v8 (q9 B2) (q9 B7)⟩
end
section
def natK (l:List UInt8):Nat→Nat
 | 0=>0
 | k+1=>natK l k+(l.getD k 0).toNat * 2 ^ (8 * k)
theorem natK_lt (l:List UInt8) (k:Nat):natK l k<2 ^ (8 * k):=by
 induction k with
 | zero=>exact Nat.zero_lt_one
 | succ k ih=>
  have h1:(l.getD k 0).toNat<256:=UInt8.toNat_lt _
  have h2:2 ^ (8 * (k+1))=256 * 2 ^ (8 * k):=by rw [Nat.mul_add,Nat.pow_add,Nat.mul_comm]
  have h3:(l.getD k 0).toNat * 2 ^ (8 * k)≤255 * 2 ^ (8 * k):=Nat.mul_le_mul_right _ (by omega)
  rw [natK,h2]
  omega
theorem or_wrap (A B:Nat) (hA:A<18446744073709551616) (hB:B<18446744073709551616):bits .or .i64 (wrap64 (A:Int)) (wrap64 (B:Int))=wrap64 ((A ||| B:Nat):Int):=by
 have e:∀n:Nat,n<18446744073709551616→(BitVec.ofInt 64 (wrap64 (n:Int))).toNat=n:=fun n hn=>by
  rw [BitVec.toNat_ofInt]
  unfold wrap64
  have:((2 ^ 64:Nat):Int)=18446744073709551616:=by decide
  rw [this]
  omega
 show IntKind.i64.wrap ((BitVec.ofInt 64 (wrap64 (A:Int)) ||| BitVec.ofInt 64 (wrap64 (B:Int))).toNat:Int)=_
 rw [BitVec.toNat_or,e A hA,e B hB,IntKind.wrap_i64]
 unfold wrap64
 rfl
theorem numK_nat (l:List UInt8) (k:Nat) (hk:k≤8):numK l k=wrap64 (natK l k:Int):=by
 induction k with
 | zero=>simp [numK,natK,wrap64]
 | succ k ih=>
  have hlt:=natK_lt l k
  have h1:(l.getD k 0).toNat<256:=UInt8.toNat_lt _
  have h2:2 ^ (8 * k)≤2 ^ 56:=Nat.pow_le_pow_right (by decide) (by omega)
  have h3:(l.getD k 0).toNat * 2 ^ (8 * k)≤255 * 2 ^ 56:=Nat.mul_le_mul (by omega) h2
  have e:(((l.getD k 0).toNat:Int) * 2 ^ (8 * k))=(((l.getD k 0).toNat * 2 ^ (8 * k):Nat):Int):=by push_cast;rfl
  rw [numK,numS,ih (by omega),e,or_wrap _ _ (by omega) (by omega),natK]
  congr 2
  rw [Nat.or_comm,←Nat.shiftLeft_eq,←Nat.shiftLeft_add_eq_or_of_lt hlt,Nat.add_comm]
theorem jy3 (n:Int) {j k:Nat} (h:j<k):(qn7 n k).getD j 0=nByte n j:=by
 induction k with
 | zero=>omega
 | succ k ih=>
  rw [qn7,List.getD_eq_getElem?_getD]
  rcases Nat.lt_or_ge j k with hj|hj
  ·rw [List.getElem?_append_left (by rw [qi6];exact hj),←List.getD_eq_getElem?_getD,ih hj]
  ·have:j=k:=by omega
   subst this
   rw [List.getElem?_append_right (by rw [qi6];omega),qi6,Nat.sub_self]
   rfl
theorem emod_256 (n b:Int) (hb:0<b):n % (b * 256)=n % b+n / b % 256 * b:=by
 have h1:=Int.emod_add_mul_ediv n b
 have h2:=Int.emod_add_mul_ediv (n / b) 256
 have a1:=Int.emod_nonneg n (show b≠0 by omega)
 have a2:=Int.emod_lt_of_pos n hb
 have b1:=Int.emod_nonneg (n / b) (show (256:Int)≠0 by decide)
 have b2:=Int.emod_lt_of_pos (n / b) (show (0:Int)<256 by decide)
 generalize n % b=s at *
 generalize n / b % 256=r at *
 generalize n / b / 256=p at *
 have c1:r * b≤255 * b:=Int.mul_le_mul_of_nonneg_right (by omega) (by omega)
 have c2:0≤r * b:=Int.mul_nonneg b1 (by omega)
 have e:n=(s+r * b)+b * 256 * p:=by
  rw [←h1,←h2,Int.mul_add,Int.mul_assoc b 256 p,Int.mul_comm b r]
  omega
 rw [e,Int.add_mul_emod_self_left,Int.emod_eq_of_lt (by omega) (by omega)]
theorem jk3 (n:Int) (k:Nat) (hk:k≤8):((natK (qn7 n 8) k:Nat):Int)=n % 2 ^ (8 * k):=by
 induction k with
 | zero=>rw [Nat.mul_zero,Int.pow_zero,Int.emod_one];rfl
 | succ k ih=>
  rw [natK,jy3 n (by omega)]
  push_cast
  rw [ih (by omega),←vk6]
  have e:(2:Int) ^ (8 * (k+1))=2 ^ (8 * k) * 256:=by rw [Nat.mul_add,Int.pow_add];rfl
  rw [e,emod_256 n _ (Int.pow_pos (by decide))]
theorem numK_back (n:Int) (h:Rng n):numK (qn7 n 8) 8=n:=by
 have e:=jk3 n 8 (by decide)
 have e2:((2:Int) ^ (8 * 8))=18446744073709551616:=by decide
 rw [e2] at e
 rw [numK_nat _ 8 (by decide),e]
 obtain ⟨h1,h2⟩:=h
 unfold wrap64
 omega
end
section
def OpT (op:Nat):Prop:=op∈[0,1,2,3,4,5,6,7,8,10,11,16,17,18,19,22,23]
def vw6 (t:Tm):Tm:=
 if t.op=1 then ⟨t.op,0,0,t.num,[],[]⟩
 else if t.op=22 then ⟨t.op,t.left,0,0,t.str,t.esc⟩
 else if t.op=0∨t.op=2 then ⟨t.op,0,0,0,t.str,[]⟩
 else if qf7 t.op then ⟨t.op,t.left,t.right,0,[],[]⟩
 else if t.op=5∨t.op=23 then ⟨t.op,t.left,0,0,[],[]⟩
 else .bare t.op
theorem vp0 (l r:List UInt8) (b:Bool):Ps.take ⟨l++r,b⟩ l.length=(l,⟨r,b⟩):=by
 unfold Ps.take
 rw [if_pos (by simp)]
 simp
theorem jc5 (x:UInt8) (r:List UInt8) (b:Bool):Ps.next ⟨x::r,b⟩=(x,⟨r,b⟩):=by
 have:=vp0 [x] r b
 unfold Ps.next
 rw [show (x::r)=[x]++r from rfl,show (1:Nat)=[x].length from rfl,this]
 rfl
theorem qp2 {n:Nat} {m:Int} (h:(n:Int)≤m) (h8:n≤255) (r:List UInt8) (b:Bool):Ps.upTo ⟨UInt8.ofNat n::r,b⟩ m=(n,⟨r,b⟩):=by
 have e:(UInt8.ofNat n).toNat=n:=by rw [UInt8.toNat_ofNat'];omega
 unfold Ps.upTo
 rw [jc5]
 simp only [e]
 rw [if_neg (by omega)]
theorem vp2 {s:List UInt8} {m:Int} (h:(s.length:Int)≤m) (h8:s.length≤255) (r:List UInt8) (b:Bool):Ps.text ⟨vg2 s++r,b⟩ m=(s,⟨r,b⟩):=by
 unfold Ps.text vg2
 rw [List.cons_append,qp2 h h8]
 exact vp0 s r b
theorem jk5 {n:Int} (h:Rng n) (r:List UInt8) (b:Bool):Ps.number ⟨qn7 n 8++r,b⟩=(n,⟨r,b⟩):=by
 have e:=vp0 (qn7 n 8) r b
 rw [qi6] at e
 unfold Ps.number
 rw [e]
 simp only [numK_back n h]
theorem term_back {pl:Nat} {t:Tm} (hf:FitsT pl t) (ho:OpT t.op) (hp:pl≤80) (r:List UInt8) (b:Bool):Ps.term ⟨encT t++r,b⟩ pl=(vw6 t,⟨r,b⟩):=by
 have hop:(UInt8.ofNat t.op).toNat=t.op:=by have:=hf.op;rw [UInt8.toNat_ofNat'];omega
 have h22:∀(x:List UInt8),Ps.term ⟨UInt8.ofNat t.op::x,b⟩ pl=Ps.body ⟨x,b⟩ pl t.op:=fun x=>by unfold Ps.term;rw [jc5];simp only [hop]
 have hs:=hf.str
 have he:=hf.esc
 have h5:=hf.sides
 unfold OpT at ho
 unfold encT vw6
 by_cases h1:t.op=1
 ·rw [if_pos h1,if_pos h1,List.cons_append,h22]
  unfold Ps.body
  rw [if_neg (by omega),if_pos h1,jk5 hf.num]
 rw [if_neg h1,if_neg h1]
 by_cases h2:t.op=22
 ·obtain ⟨h3,_⟩:=h5 (by omega)
  rw [if_pos h2,if_pos h2,List.append_assoc,List.append_assoc,List.cons_append,h22]
  unfold Ps.body
  rw [if_neg (by omega),if_neg h1,if_pos h2,List.cons_append,List.nil_append,qp2 (by omega) (by omega)]
  simp only
  rw [vp2 (by omega) (by omega)]
  simp only
  rw [vp2 (by omega) (by omega)]
 rw [if_neg h2,if_neg h2]
 by_cases h3:t.op=0∨t.op=2
 ·rw [if_pos h3,if_pos h3,List.cons_append,h22]
  unfold Ps.body
  rw [if_neg (by omega),if_neg h1,if_neg h2,if_pos h3,vp2 (by omega) (by omega)]
 rw [if_neg h3,if_neg h3]
 by_cases h4:qf7 t.op=true
 ·have h6:5≤t.op:=by simp [qf7] at h4;omega
  obtain ⟨h7,h8⟩:=h5 h6
  rw [if_pos h4,if_pos h4,List.cons_append,h22]
  unfold Ps.body
  rw [if_neg (by simp [qf7] at h4;omega),if_neg h1,if_neg h2,if_neg h3,if_pos h4,List.cons_append,qp2 (by omega) (by omega)]
  simp only
  rw [List.cons_append,List.nil_append,qp2 (by omega) (by omega)]
 rw [if_neg h4,if_neg h4]
 by_cases h6:t.op=5∨t.op=23
 ·obtain ⟨h7,_⟩:=h5 (by omega)
  rw [if_pos h6,if_pos h6,List.cons_append,h22]
  unfold Ps.body
  rw [if_neg (by omega),if_neg h1,if_neg h2,if_neg h3,if_neg h4,if_pos h6,List.cons_append,List.nil_append,qp2 (by omega) (by omega)]
 rw [if_neg h6,if_neg h6,List.cons_append,h22]
 unfold Ps.body
 rw [if_pos (by simp [qf7] at h4;simp at ho;omega)]
 rfl
theorem jn6 (ts:List Tm) (hf:∀i t,ts[i]?=some t→FitsT i t) (ho:∀t∈ts,OpT t.op) (h80:ts.length≤80) (r:List UInt8) (b:Bool):∀k,k≤ts.length→qd0 ⟨ts.flatMap encT++r,b⟩ k=((ts.take k).map vw6,⟨(ts.drop k).flatMap encT++r,b⟩):=by
 intro k
 induction k with
 | zero=>intro _;simp [qd0]
 | succ k ih=>
  intro hk
  have hlt:k<ts.length:=by omega
  have hx:ts[k]?=some ts[k]:=List.getElem?_eq_getElem hlt
  have hd:ts.drop k=ts[k]::ts.drop (k+1):=List.drop_eq_getElem_cons hlt
  rw [qd0,ih (by omega)]
  simp only
  rw [hd,List.flatMap_cons,List.append_assoc,term_back (hf k _ hx) (ho _ (List.getElem_mem _)) (by omega),show ts.take (k+1)=ts.take k++[ts[k]] by rw [List.take_add_one,hx];rfl,List.map_append]
  rfl
theorem jm8 (m:Int) (rs:List Nat) (hr:∀r∈rs,(r:Int)≤m∧r≤255) (b:Bool):∀k,k≤rs.length→qg2 m ⟨rs.map UInt8.ofNat,b⟩ k=(rs.take k,⟨(rs.drop k).map UInt8.ofNat,b⟩):=by
 intro k
 induction k with
 | zero=>intro _;simp [qg2]
 | succ k ih=>
  intro hk
  have hlt:k<rs.length:=by omega
  have hx:rs[k]?=some rs[k]:=List.getElem?_eq_getElem hlt
  have hd:rs.drop k=rs[k]::rs.drop (k+1):=List.drop_eq_getElem_cons hlt
  have h:=hr rs[k] (List.getElem_mem _)
  rw [qg2,ih (by omega)]
  simp only
  rw [hd,List.map_cons,qp2 h.1 h.2,show rs.take (k+1)=rs.take k++[rs[k]] by rw [List.take_add_one,hx];rfl]
theorem encK_flat (hd:List UInt8) (ts:List Tm):∀k,k≤ts.length→jb2 hd ts k=hd++(ts.take k).flatMap encT:=by
 intro k
 induction k with
 | zero=>intro _;simp [jb2]
 | succ k ih=>
  intro hk
  have hx:ts[k]?=some ts[k]:=List.getElem?_eq_getElem (by omega)
  rw [jb2,ih (by omega),show ts.take (k+1)=ts.take k++[ts[k]] by rw [List.take_add_one,hx];rfl,List.getD_eq_getElem?_getD,hx,List.flatMap_append,List.flatMap_cons,List.flatMap_nil,List.append_nil,List.append_assoc]
  rfl
theorem encR_flat (hd:List UInt8) (rs:List Nat):∀k,k≤rs.length→jv8 hd rs k=hd++(rs.take k).map UInt8.ofNat:=by
 intro k
 induction k with
 | zero=>intro _;simp [jv8]
 | succ k ih=>
  intro hk
  have hx:rs[k]?=some rs[k]:=List.getElem?_eq_getElem (by omega)
  rw [jv8,ih (by omega),show rs.take (k+1)=rs.take k++[rs[k]] by rw [List.take_add_one,hx];rfl,List.getD_eq_getElem?_getD,hx,List.map_append,List.append_assoc]
  rfl
theorem jz8 {ts:List Tm} {rs:List Nat} (hp:Prg ts rs) (ho:∀t∈ts,OpT t.op):qt7 (qr3 ts rs)=(ts.map vw6,rs,true):=by
 have h80:=hp.terms
 have h8:=hp.roots
 have e0:qr3 ts rs=UInt8.ofNat ts.length::UInt8.ofNat rs.length::(ts.flatMap encT++rs.map UInt8.ofNat):=by
  unfold qr3
  rw [encR_flat _ _ _ (Nat.le_refl _),encK_flat _ _ _ (Nat.le_refl _),List.take_length,List.take_length]
  simp
 have e1:vc7 (qr3 ts rs)=(ts.length,⟨UInt8.ofNat rs.length::(ts.flatMap encT++rs.map UInt8.ofNat),false⟩):=by
  unfold vc7
  rw [e0,qp2 (by omega) (by omega)]
 have e2:qz7 (qr3 ts rs)=(rs.length,⟨ts.flatMap encT++rs.map UInt8.ofNat,false⟩):=by
  unfold qz7
  rw [e1]
  simp only
  rw [qp2 (by omega) (by omega)]
 have e3:za0 (qr3 ts rs)=(ts.map vw6,⟨rs.map UInt8.ofNat,false⟩):=by
  unfold za0
  rw [e1,e2]
  simp only
  rw [jn6 ts hp.fits ho h80 _ _ _ (Nat.le_refl _)]
  simp
 have e4:jd5 (qr3 ts rs)=(rs,⟨[],false⟩):=by
  unfold jd5
  rw [e1,e2,e3]
  simp only
  rw [jm8 _ rs (fun r hr=>by have:=hp.below r hr;omega) _ _ (Nat.le_refl _)]
  simp
 unfold qt7
 rw [e3,e4]
 rfl
theorem ofT_norm (ps:List Pr) (vs:List V) {t:Tm} (ho:OpT t.op):ofT ps vs (vw6 t)=ofT ps vs t:=by
 obtain ⟨op,l,r,n,s,e⟩:=t
 unfold OpT at ho
 simp only [List.mem_cons,List.not_mem_nil,or_false] at ho
 rcases ho with rfl|rfl|rfl|rfl|rfl|rfl|rfl|rfl|rfl|rfl|rfl|rfl|rfl|rfl|rfl|rfl|rfl<;>simp [vw6,ofT,qf7,Tm.bare,qz6]
theorem zc4 (ps:List Pr) (ts:List Tm) (ho:∀t∈ts,OpT t.op):∀k,k≤ts.length→qp3 ps (ts.map vw6) k=qp3 ps ts k:=by
 intro k
 induction k with
 | zero=>intro _;rfl
 | succ k ih=>
  intro hk
  have hx:ts[k]?=some ts[k]:=List.getElem?_eq_getElem (by omega)
  rw [qp3,qp3,ih (by omega),List.getD_eq_getElem?_getD,List.getElem?_map,hx,List.getD_eq_getElem?_getD,hx]
  simp only [Option.map_some,Option.getD_some]
  rw [ofT_norm ps _ (ho _ (List.getElem_mem _))]
theorem metR_norm (ps:List Pr) (ts:List Tm) (rs:List Nat) (ho:∀t∈ts,OpT t.op):metR ps (ts.map vw6) rs=metR ps ts rs:=by
 unfold metR
 rw [List.length_map,zc4 ps ts ho _ (Nat.le_refl _)]
end
section
def vr3 (op:Int):Prop:=op=6∨op=7∨op=8∨op=10∨op=11∨16≤op∧op≤19
def qx5:Co→Prop
 | .leaf _=>True
 | .un _ x=>qx5 x
 | .bin p x y=>vr3 p.op∧qx5 x∧qx5 y
theorem qd9 {op:Int} (ho:vr3 op) {x y:Co} (hx:qx5 x) (hy:qx5 y):qx5 (z8 op x y):=by
 unfold z8
 split
 ·exact ⟨ho,hy,hx⟩
 ·exact ⟨ho,hx,hy⟩
theorem jp7:∀{c:Co},qx5 c→qx5 (qh4 c):=by
 intro c
 induction c with
 | leaf p=>
  intro h
  unfold qh4
  split
  ·trivial
  ·split<;>trivial
 | un p x ih=>
  intro h
  unfold qh4
  split<;>exact h
 | bin p x y ihx ihy=>
  intro h
  unfold qh4
  split
  ·exact qd9 (by unfold vr3;omega) (ihx h.2.1) (ihy h.2.2)
  ·split
   ·exact qd9 (by unfold vr3;omega) (ihx h.2.1) (ihy h.2.2)
   ·split
    ·exact qd9 (by unfold vr3;omega) h.2.2 h.2.1
    ·split
     ·exact qd9 (by unfold vr3;omega) h.2.2 h.2.1
     ·exact h
theorem ju4 {x:Co} (hx:qx5 x):∀(r:List (List UInt8)) (f:Co),qx5 f→qx5 (qx3 x f r):=by
 intro r
 induction r with
 | nil=>intro f hf;exact hf
 | cons t r ih=>intro f hf;exact ih _ (qd9 (by unfold vr3;omega) hf (qd9 (by unfold vr3;omega) hx trivial))
theorem ju3 {x:Co} (hx:qx5 x) (ts:List (List UInt8)):qx5 (qs6 x ts):=by
 unfold qs6
 cases qs1 ts with
 | nil=>exact hx
 | cons t r=>exact ju4 hx r _ (qd9 (by unfold vr3;omega) hx trivial)
theorem bins_core:∀t,ShA t→qx5 (j7 t):=by
 intro t
 induction t with
 | leaf p=>intro _;trivial
 | un p x ih=>
  intro h0
  have hx:=ih h0.2.2.2
  rw [j7]
  split
  ·exact qd9 (by unfold vr3;omega) trivial hx
  ·split
   ·exact qd9 (by unfold vr3;omega) trivial hx
   ·split
    ·exact jp7 hx
    ·split
     ·exact ju3 hx _
     ·exact hx
 | bin p x y ihx ihy=>
  intro h0
  have hx:=ihx h0.2.1
  have hy:=ihy h0.2.2
  rw [j7]
  split
  ·exact qd9 (by unfold vr3;omega) hy hx
  ·split
   ·exact qd9 (by unfold vr3;omega) hy hx
   ·split
    ·exact jp7 (qd9 (by unfold vr3;omega) hx hy)
    ·rename_i h1 h2 h3
     simp only [beq_iff_eq] at h1 h2 h3
     exact qd9 (by have:=h0.1;unfold vr3;omega) hx hy
 | tri p x y z ihx ihy ihz=>
  intro h0
  exact qd9 (by unfold vr3;omega) (qd9 (by unfold vr3;omega) (ihy h0.2.2.1) (ihx h0.2.1)) (qd9 (by unfold vr3;omega) (ihx h0.2.1) (ihz h0.2.2.2))
def PutT (t:Tm):Prop:=OpT t.op∧(t.op<5→t.left=0∧t.right=0)
theorem vx5 {ts:List Tm} {u t:Tm} (h:t∈(vb5 ts u).1):t∈ts∨t=u:=by
 unfold vb5 at h
 split at h
 ·exact .inl h
 ·simpa using h
theorem place_put:∀(c:Co) (ts:List Tm),vg8 c→WfC c→qx5 c→(∀t∈ts,PutT t)→∀t∈(j8 ts c).1,PutT t:=by
 intro c
 induction c with
 | leaf p=>
  intro ts f0 h0 _ h t ht
  rcases vx5 ht with ht|rfl
  ·exact h t ht
  ·have hl:qi5 p.op=true:=h0
   unfold qi5 at hl
   simp only [Bool.or_eq_true,beq_iff_eq] at hl
   refine ⟨?_,fun _=>⟨rfl,rfl⟩⟩
   show p.op.toNat∈_
   rcases hl with (((e|e)|e)|e)|e<;>rw [e]<;>decide
 | un p x ih=>
  intro ts f0 h0 h1 h t ht
  rcases vx5 ht with ht|rfl
  ·exact ih ts f0.2 h0.2 h1 h t ht
  ·have hl:unB p.op=true:=h0.1
   unfold unB at hl
   simp only [Bool.or_eq_true,beq_iff_eq] at hl
   refine ⟨?_,fun h5=>?_⟩
   ·show p.op.toNat∈_
    rcases hl with (e|e)|e<;>rw [e]<;>decide
   ·have h5:p.op.toNat<5:=h5
    omega
 | bin p x y ihx ihy=>
  intro ts f0 h0 h1 h t ht
  rcases vx5 ht with ht|rfl
  ·exact ihy _ f0.2.2 h0.2.2 h1.2.2 (ihx ts f0.2.1 h0.2.1 h1.2.1 h) t ht
  ·have hl:vr3 p.op:=h1.1
   unfold vr3 at hl
   refine ⟨?_,fun h5=>?_⟩
   ·show p.op.toNat∈_
    have:p.op=6∨p.op=7∨p.op=8∨p.op=10∨p.op=11∨p.op=16∨p.op=17∨p.op=18∨p.op=19:=by omega
    rcases this with e|e|e|e|e|e|e|e|e<;>rw [e]<;>decide
   ·have h5:p.op.toNat<5:=h5
    omega
theorem addK_put {cs:List Co} (hg:∀c∈cs,CoreOk c∧qx5 c):∀k,k≤cs.length→∀t∈(qf5 cs k).1,PutT t:=by
 intro k
 induction k with
 | zero=>intro _ t ht;simp [qf5] at ht
 | succ k ih=>
  intro hk
  obtain ⟨c,hc⟩:∃c,cs[k]?=some c:=⟨_,List.getElem?_eq_getElem (by omega)⟩
  obtain ⟨g1,g2⟩:=hg c (List.mem_of_getElem? hc)
  have e:(qf5 cs (k+1)).1=(j8 (qf5 cs k).1 c).1:=by rw [qf5,List.getD_eq_getElem?_getD,hc];rfl
  rw [e]
  exact place_put c _ g1.fld g1.wf g2 (ih (by omega))
theorem addK_mono (cs:List Co):∀j k,j≤k→(qf5 cs j).1.length≤(qf5 cs k).1.length:=by
 intro j k h
 induction k with
 | zero=>
  have:j=0:=by omega
  subst this;exact Nat.le_refl _
 | succ k ih=>
  rcases Nat.lt_or_ge j (k+1) with h1|h1
  ·have:=ih (by omega)
   have hp:=qm5 (qf5 cs k).1 (cs.getD k (.leaf ⟨3,0,[],[]⟩))
   rw [qf5]
   show _≤(j8 (qf5 cs k).1 (cs.getD k (.leaf ⟨3,0,[],[]⟩))).1.length
   omega
  ·have:j=k+1:=by omega
   subst this
   exact Nat.le_refl _
theorem small_put {i:Nat} {t:Tm} (hf:FitsT i t) (hp:PutT t) (hi:i≤80):SmallT t:=by
 have h1:=hf.str
 have h2:=hf.esc
 by_cases h5:t.op<5
 ·obtain ⟨e1,e2⟩:=hp.2 h5
  exact ⟨by omega,by omega,by omega,by omega⟩
 ·obtain ⟨e1,e2⟩:=hf.sides (by omega)
  exact ⟨by omega,by omega,by omega,by omega⟩
end
section
set_option linter.unusedSimpArgs false
set_option linter.unusedVariables false
attribute [local go_sem ↓] qc3
theorem vh6 {base:Nat} {W w:World} {l:List UInt8} {tb:Nat} {t:Tm} {v:Value} (S:WSt base W l tb t w v) (s:List UInt8) (hn:l.length+s.length≤900000) (hs:s.length≤255) :
  Calls Tryz.prog 96 #[v,.string (BS s)] w fun e w'=>∃a n c,e=.returned (.slice a n c)∧OB w' base (.slice a n c) (l++vg2 s)∧TmAt w' tb t∧Below base W w'∧base≤w'.heap.size:=by
 have hz:(BS s).size=s.length:=qc0 s
 obtain ⟨a,c,rfl⟩:=S.ob.form
 obtain ⟨m,hm⟩:∃m,l.length=m:=⟨_,rfl⟩
 obtain ⟨g,cap,w5,hap,S5⟩:=S.app (UInt8.ofNat s.length) (s.length:Int) (by rw [UInt8.toNat_ofNat'];simp;omega) (by omega) m hm _ rfl
 have s5:=q9 S5
 obtain ⟨i0,hi,hz0,hz1,hz2⟩:=info_parts qx8
 have ho5:w5.ownsRow base 5 1 (.slice (some ⟨g,0,none⟩) (m+1) cap) (m+1) (qm2 (l++[UInt8.ofNat s.length])):=by
  have:=s5.ob
  unfold OB at this
  rw [List.length_append,List.length_singleton,hm] at this
  exact this
 obtain ⟨v6,w6,hr,hown,hgrow,_⟩:=Lib.run_append_own_string (P:=Tryz.prog) w5 base 36 9 36 5 i0 Tryz.underlying36 Tryz.underlying9 hi hz0 hz1 hz2 _ (m+1) _ ho5 (BS s) (by rw [hz];unfold maxLen;omega) (by rw [hz];omega) s5.ge
 have hap2:(qh7 #[36,9] 36 #[.slice (some ⟨g,0,none⟩) (m+1) cap,.string (BS s)]).run Tryz.prog w5=.ok v6 w6:=hr
 have O6:OB w6 base v6 (l++vg2 s):=by
  rw [hz,vn9] at hown
  show World.ownsRow _ _ _ _ _ _ _
  have e:l++vg2 s=(l++[UInt8.ofNat s.length])++s:=by simp [vg2]
  rw [e,List.length_append,List.length_append,List.length_singleton,hm]
  unfold qm2 at hown ⊢
  rw [List.map_append (l₁:=l++[UInt8.ofNat s.length])]
  exact hown
 obtain ⟨a6,c6,rfl⟩:=O6.form
 have T6:TmAt w6 tb t:=s5.tm.same (Nat.lt_of_lt_of_le s5.tm.lt hgrow.size) (hgrow.block tb s5.tm.lt fun e=>s5.ne e.symm)
 have B6:Below base W w6:=s5.bel.trans (Go.RowKit.Below.grown (Below.refl base w5) hgrow s5.ge (fun k hk=>(World.ownsRow.lt ho5 k hk).1))
 have HALL:Hid (OB w6 base (.slice a6 (l++vg2 s).length c6) (l++vg2 s)∧TmAt w6 tb t∧Below base W w6∧base≤w6.heap.size):=v7 ⟨O6,T6,B6,Nat.le_trans s5.ge hgrow.size⟩
 have hs0:(0:Int)≤(s.length:Int):=by omega
 have hs1:(s.length:Int)<256:=by omega
 rw [hm] at hap ⊢
 generalize (l++vg2 s).length=n6 at *
 clear O6 T6 B6 S5 s5 ho5 hr hown hgrow S hi hz0 hz1 hz2
 go_enter Tryz.func96,Tryz.ntmps96
 go_wp2_with fail
 go_ret
 exact ⟨_,_,_,rfl,q9 HALL⟩
theorem write_22 (base:Nat) (v:Value) (l:List UInt8) (t:Tm) (W:World) (h:OB W base v l) (hb:base≤W.heap.size) (hn:l.length≤800000) (ht:SmallT t) (ho:t.op=22) (Q:Ending→World→Prop) (hQ:∀e w',qs5 base W (l++encT t) e w'→Q e w') :
  Calls Tryz.prog 63 #[tmV t,v] W Q:=by
 have hE:encT t=[UInt8.ofNat 22,UInt8.ofNat t.left]++vg2 t.esc++vg2 t.str:=by simp [encT,ho,qf7]
 have HQ:=v7 hQ
 rw [hE] at HQ
 clear hQ
 have S0:=v7 (WSt.start h hb t 142)
 obtain ⟨a,c,rfl⟩:=h.form
 have hl:=ht.left
 have hl0:(0:Int)≤(t.left:Int):=by omega
 have hl1:(t.left:Int)<256:=by omega
 obtain ⟨n,hnl⟩:∃n,l.length=n:=⟨_,rfl⟩
 rw [hnl] at S0 hn ⊢
 obtain ⟨g1,cap1,w1,hap1,S1⟩:=(q9 S0).app (UInt8.ofNat 22) 22 (by decide) (by omega) n hnl (W.heap.size+1) (by simp)
 obtain ⟨tl1,a0,a1,a2,a3,a4,a5,af⟩:=(q9 S1).tm
 obtain ⟨g2,cap2,w2,hap2,S2⟩:=(q9 S1).app (UInt8.ofNat t.left) (t.left:Int) (vr2 hl) (by simp;omega) (n+1) (by simp [hnl]) _ rfl
 obtain ⟨tl2,b0,b1,b2,b3,b4,b5,bf⟩:=(q9 S2).tm
 have hs:=ht.str
 have he:=ht.esc
 have WE:=v7 (vh6 (q9 S2) t.esc (by simp;omega) (by omega))
 have WN:Hid (∀w3 v3,OB w3 base v3 (l++[UInt8.ofNat 22]++[UInt8.ofNat t.left]++vg2 t.esc)→base≤w3.heap.size→Calls Tryz.prog 96 #[v3,.string (BS t.str)] w3 (qs5 base w3 (l++[UInt8.ofNat 22]++[UInt8.ofNat t.left]++vg2 t.esc++vg2 t.str))):=v7 fun w3 v3 h3 hb3=>qw4 base v3 _ t.str w3 h3 hb3 (by simp [vg2];omega) (by omega) _ (fun e w' h=>h)
 have hA:Hid (l++[UInt8.ofNat 22]++[UInt8.ofNat t.left]++vg2 t.esc++vg2 t.str=l++([UInt8.ofNat 22,UInt8.ofNat t.left]++vg2 t.esc++vg2 t.str)):=v7 (by simp)
 unfold tmV
 have e0:(t.op:Int)=22:=by omega
 rw [e0] at a0 hap1 b0 ⊢
 clear hE ho h hl ht hnl hn hb e0 S0
 go_enter Tryz.func63,Tryz.ntmps63
 go_wp2_with (first|(go_at_call 96;refine (q9 WN _ _ (q9 O3).1 (q9 O3).2.2).mono ?_;clear WN;rintro e w4 ⟨v4,rfl,ho4,hb4⟩;have HO4:=v7 ho4;have HB4:=v7 hb4;clear ho4 hb4)|(go_at_call 96;refine (q9 WE).mono ?_;clear WE;rintro e w3 ⟨a3,n3,c3,rfl,o3,⟨tl3,d0,d1,d2,d3,d4,d5,df⟩,bb3,ge3⟩;have O3:=v7 (And.intro o3 (And.intro bb3 ge3));clear o3 bb3 ge3))
 exact q9 HQ _ _ ⟨_,rfl,by have:=q9 HO4;rw [q9 hA] at this;exact this,(q9 O3).2.1.trans (q9 HB4)⟩
theorem vy7 (t:Tm) (ht:SmallT t) (h:t.op∈[0,1,2,3,4,5,6,7,8,10,11,16,17,18,19,22,23]):vi7 t:=by
 by_cases h22:t.op=22
 ·exact fun base v l W h1 h2 h3=>write_22 base v l t W h1 h2 h3 ht h22 _ fun _ _ h=>h
 ·refine vy8 t ht ?_
  simp only [List.mem_cons,List.not_mem_nil,or_false] at h ⊢
  omega
end
section
def trueC:Co:=.leaf ⟨3,0,[],[]⟩
def falseC:Co:=.leaf ⟨4,0,[],[]⟩
def s7 (ms:List Mg):Su:=⟨7,trueC,ms⟩
def s9:Su:=⟨9,falseC,[]⟩
def L2 (ms:List Mg):List Su:=[s7 ms,s9]
section
variable {w0 w:World} {bb:Nat} {last:Int} {wv hv:Value} {ws ns:List Int}
end
end
section
theorem TxRow.app {W W':World} {base:Nat} {v:Value} {l:List (List UInt8)} (h:TxRow W base v l) (hb:base≤W.heap.size) (x:List UInt8) (hn:l.length≤1000) (ty:TypeId) (H:Nat) (hH:W.heap.size=H) (hW:W'=W.alloc (.cells #[.string (BS x)] 9)) :
  ∃g cap w5,(qh7 #[30,30] ty #[v,.slice (some ⟨H,0,none⟩) 1 1]).run Tryz.prog W'=.ok (.slice (some ⟨g,0,none⟩) (l.length+1) cap) w5 ∧
   Hid (TxRow w5 base (.slice (some ⟨g,0,none⟩) (l.length+1) cap) (l++[x]))∧Hid (W.grownBy w5 v.ownBlock)∧Hid (v.ownBlock=some g∨W.heap.size≤g):=by
 subst hH hW
 obtain ⟨i0,hi,hz0,hz1,hz2⟩:=info_parts jb8
 have ha:=World.ownsRow.alloc h (.cells #[.string (BS x)] 9)
 obtain ⟨g,cap,w5,hr,hown,hgrow,hat,_⟩:=run_append_lies (P:=Tryz.prog) (W.alloc (.cells #[.string (BS x)] 9)) 30 ty base 9 i0 _ 1 16 Tryz.underlying30 hi hz0 hz1 hz2 rfl (by omega) v l.length (je4 l) ha
  ⟨W.heap.size,0,none⟩ 1 1 [.string (BS x)] rfl (World.news_of_block (cs:=#[.string (BS x)]) (t:=9) (fr:=(0,0)) (heap_alloc_new W _)) (by simp [Value.oneCell']) (by omega) (by unfold maxLen;omega) (by omega) (by simp;omega) _ rfl
 have hal:=qq1 W (.cells #[.string (BS x)] 9)
 refine ⟨g,cap,w5,hr,v7 ?_,v7 ⟨hgrow.os,hgrow.tape,hgrow.output, ?_,fun k h1 h2=>?_⟩,v7 ?_⟩
 ·show World.ownsRow _ _ _ _ _ _ _
  rw [List.length_append,List.length_singleton,je4,List.map_append]
  exact hown
 ·have:=hgrow.size
  simp at this
  omega
 ·rw [hgrow.block k (by simp;omega) h2,hal.block k h1]
 ·rcases hat with e|e
  ·exact .inl e
  ·right;simp at e;omega
theorem TxRow.cells {w:World} {base n:Nat} {a:Option Addr} {c:Nat} {ss:List (List UInt8)} (h:TxRow w base (.slice a n c) ss) (k:Nat) (s:List UInt8) (hs:ss[k]?=some s):∃sb so,a=some ⟨sb,so,none⟩∧sb<w.heap.size∧w.cell? ⟨sb,so+k,none⟩=some (.string (BS s)):=by
 rcases qc8 h with ⟨_,h0⟩|⟨g,c',hv⟩
 ·have:=(List.getElem?_eq_some_iff.1 hs).1
  omega
 ·have e:a=some ⟨g,0,none⟩:=by simp at hv;exact hv.1
  refine ⟨g,0,e,(h.lt g (by rw [e];rfl)).2, ?_⟩
  have:=World.ownsRow.cells h (g:=g) (by rw [e];rfl) k (.string (BS s)) (by simp [je4,hs];rfl)
  rwa [qj2,Nat.zero_add,←Nat.zero_add k] at this
section
variable {w0 w:World} {first:Int} {k:Nat} {v:Value} {ss:List (List UInt8)}
end
end
end Go.Proofs.YtfkcaldjphakpabGreatDoor
