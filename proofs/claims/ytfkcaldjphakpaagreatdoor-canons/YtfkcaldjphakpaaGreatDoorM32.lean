/- The document's answer: a core of some sides. The document's answer: made. -/
import Derived.Test.YtfkcaldjphakpaaGreatDoorM31
set_option maxHeartbeats 16000000
set_option maxRecDepth 100000
namespace Go.Proofs.YtfkcaldjphakpaaGreatDoor
open Go.RowKit
section
attribute [local go_sem ↓] qj6
theorem vs7:(Tryz.prog.info? 9).map (fun i=>(i.zero,i.size,i.bytes))=some (some (.string ⟨#[]⟩),1,16):=by kernel_rfl
theorem info_intR:(Tryz.prog.info? 3).map (fun i=>(i.zero,i.size,i.bytes))=some (some (.int .i64 0),1,8):=by kernel_rfl
def qv8 (l:List Nat):List Value:=l.map fun n:Nat=>.int .i64 (n:Int)
def TwRow (w:World) (base:Nat) (v:Value) (ts:List (List UInt8)):Prop:=w.ownsRow base 9 1 v ts.length (qa0 ts)
def NmRow (w:World) (base:Nat) (v:Value) (l:List Nat):Prop:=w.ownsRow base 3 1 v l.length (qv8 l)
structure MdAt (w W:World) (op text:ByteArray) (cl:Int) (pv tv rv:Value) (ts:List (List UInt8)) (rs:List Nat):Prop where
 c0:W.cell? ⟨w.heap.size+1,0,none⟩=some (.string op)
 c1:W.cell? ⟨w.heap.size+1,1,none⟩=some (.string text)
 c2:W.cell? ⟨w.heap.size+1,2,none⟩=some (.int .i64 cl)
 c3:W.cell? ⟨w.heap.size+1,3,none⟩=some pv
 c4:W.cell? ⟨w.heap.size+1,4,none⟩=some tv
 c5:W.cell? ⟨w.heap.size+1,5,none⟩=some rv
 fz:∀i,W.frozen? ⟨w.heap.size+1,i,none⟩=false
 lt:w.heap.size+1<W.heap.size
 bel:Below (w.heap.size+1) (w.alloc (.cells #[.string ⟨#[]⟩,.string ⟨#[]⟩,.int .i64 0,.slice none 0 0,.slice none 0 0,.slice none 0 0] 184)) W
 tr:TwRow W (w.heap.size+2) tv ts
 rr:NmRow W (w.heap.size+2) rv rs
section
variable {w W:World} {op text:ByteArray} {cl:Int} {pv tv rv:Value} {ts:List (List UInt8)} {rs:List Nat}
theorem MdAt.bel0 (h:MdAt w W op text cl pv tv rv ts rs):Below w.heap.size w W:=((Below.refl _ _).alloc (Nat.le_refl _) _).trans (h.bel.mono (Nat.le_succ _))
theorem MdAt.drew (h:MdAt w W op text cl pv tv rv ts rs):MdAt w W.drew op text cl pv tv rv ts rs:=⟨h.c0,h.c1,h.c2,h.c3,h.c4,h.c5,h.fz,h.lt,h.bel.drew,h.tr,h.rr⟩
theorem MdAt.alloc (h:MdAt w W op text cl pv tv rv ts rs) (o:Obj):MdAt w (W.alloc o) op text cl pv tv rv ts rs:=by
 have hb:Below W.heap.size W (W.alloc o):=(Below.refl _ _).alloc (Nat.le_refl _) o
 obtain ⟨hc,hf⟩:=qa9 hb
 have hl:=h.lt
 exact ⟨(hc _ _ hl).trans h.c0,(hc _ _ hl).trans h.c1,(hc _ _ hl).trans h.c2,(hc _ _ hl).trans h.c3,(hc _ _ hl).trans h.c4,(hc _ _ hl).trans h.c5,fun i=>(hf _ i hl).trans (h.fz i),Nat.lt_of_lt_of_le hl hb.size,h.bel.trans (hb.mono (by omega)),qj7 h.tr hb (Nat.le_refl _),qj7 h.rr hb (Nat.le_refl _)⟩
theorem ve3 {base e size n:Nat} {U:World} {v:Value} {xs:List Value} (h:U.ownsRow base e size v n xs) {k:Nat} (hk:v.ownBlock=some k):∃c,U.heap[k]?=some (.cells c e (0,0)):=by
 rcases h.2 with ⟨rfl,_⟩|⟨g,cap,cur,rfl,_,hg,_⟩
 ·cases hk
 ·obtain rfl:g=k:=by simpa [Value.ownBlock] using hk
  exact ⟨cur,hg⟩
theorem MdAt.grown {W5:World} {v v':Value} (h:MdAt w W op text cl pv tv rv ts rs) (hg:W.grownBy W5 v.ownBlock) (hv:∀k,v.ownBlock=some k→w.heap.size+2≤k) (j:Nat) :
  (∀k,k<W.heap.size→k≠w.heap.size+1→v.ownBlock≠some k→(W5.setCell ⟨w.heap.size+1,j,none⟩ v').heap[k]?=W.heap[k]?)∧W5.heap[w.heap.size+1]?=W.heap[w.heap.size+1]?∧w.heap.size+1<W5.heap.size∧Below (w.heap.size+1) (w.alloc (.cells #[.string ⟨#[]⟩,.string ⟨#[]⟩,.int .i64 0,.slice none 0 0,.slice none 0 0,.slice none 0 0] 184)) (W5.setCell ⟨w.heap.size+1,j,none⟩ v'):=by
 have hl:=h.lt
 have hz:=hg.size
 refine ⟨fun k hk hne hno=>(Below.heap_setCell W5 ⟨w.heap.size+1,j,none⟩ v' k hne).trans (hg.block k hk (fun e=>hno e.symm)),hg.block _ hl (fun e=>by have:=hv _ e.symm;omega),by omega, ?_⟩
 exact Below.setCell (Go.RowKit.Below.grown h.bel hg (by omega) (fun k hk=>by have:=hv k hk;omega)) (Nat.le_refl _) _
theorem MdAt.appT (h:MdAt w W op text cl pv tv rv ts rs) {a:Addr} {m c:Nat} {us:List (List UInt8)} (hm:us.length=m) (hne:0<m) (hsrc:∀k t,us[k]?=some t→W.cell? (a.add k)=some (.string (BS t))) (hbd:ts.length+m≤1000000000) (ty:TypeId) :
  ∃g cap W5,(jg0 #[62,62] ty #[tv,.slice (some a) m c]).run Tryz.prog W=.ok (.slice (some ⟨g,0,none⟩) (ts.length+m) cap) W5 ∧
   W5.cell? ⟨w.heap.size+1,4,none⟩=some tv∧(∀i,W5.frozen? ⟨w.heap.size+1,i,none⟩=false)∧w.heap.size+1<W5.heap.size ∧
   Hid (MdAt w (W5.setCell ⟨w.heap.size+1,4,none⟩ (.slice (some ⟨g,0,none⟩) (ts.length+m) cap)) op text cl pv (.slice (some ⟨g,0,none⟩) (ts.length+m) cap) rv (ts++us) rs):=by
 subst hm
 obtain ⟨i0,hi,hz0,hz1,hz2⟩:=info_parts vs7
 have hlt:=h.lt
 obtain ⟨g,cap,W5,hr,hown,hgrow,hat,hgl⟩:=run_append_lies (P:=Tryz.prog) W 62 ty (w.heap.size+2) 9 i0 _ 1 16 Tryz.underlying62 hi hz0 hz1 hz2 rfl (by omega) tv ts.length _ h.tr
  a us.length c (qa0 us) (by simp [qa0]) (fun j u hj=>by
   rw [qa0,List.getElem?_map] at hj
   cases hu:us[j]? with
   | none=>rw [hu] at hj;cases hj
   | some t=>rw [hu] at hj;injection hj with hj;rw [←hj];exact hsrc j t hu) (fun u hu=>by
   obtain ⟨t,_,rfl⟩:=List.mem_map.1 hu;rfl) hne (by unfold maxLen;omega) (by omega) (by omega) W.heap.size rfl
 obtain ⟨hk,hcb,hl5,hbel⟩:=h.grown hgrow (fun k hk=>(h.tr.lt k hk).1) 4 (v':=.slice (some ⟨g,0,none⟩) (ts.length+us.length) cap)
 have hc:∀j,W5.cell? ⟨w.heap.size+1,j,none⟩=W.cell? ⟨w.heap.size+1,j,none⟩:=fun j=>World.cell?_of_block (w:=W) (a:=⟨w.heap.size+1,j,none⟩) hcb
 have hf:∀j,W5.frozen? ⟨w.heap.size+1,j,none⟩=false:=fun j=>(World.frozen?_of_block (w:=W) (a:=⟨w.heap.size+1,j,none⟩) hcb).trans (h.fz j)
 refine ⟨g,cap,W5,hr,(hc 4).trans h.c4,hf,hl5,j4 ⟨?_, ?_, ?_, ?_, ?_, ?_,fun i=>?_,by simpa using hl5,hbel, ?_, ?_⟩⟩
 ·simp [go_sem,hc,h.c0]
 ·simp [go_sem,hc,h.c1]
 ·simp [go_sem,hc,h.c2]
 ·simp [go_sem,hc,h.c3]
 ·simp [go_sem,hc,h.c4]
 ·simp [go_sem,hc,h.c5]
 ·simp [go_sem,hf i]
 ·show World.ownsRow _ _ _ _ _ _ _
  rw [List.length_append,qa0,List.map_append]
  exact ownsRow_setCell_below hown (by show w.heap.size+1<w.heap.size+2;omega) _
 ·refine qq9 h.rr fun k hk2=>hk k (h.rr.lt k hk2).2 (by have:=(h.rr.lt k hk2).1;omega) (fun e=>?_)
  obtain ⟨c1,e1⟩:=ve3 h.rr hk2
  obtain ⟨c2,e2⟩:=ve3 h.tr e
  rw [e1] at e2
  injection e2 with e2
  injection e2 with _ e2 _
  exact absurd e2 (by decide)
theorem MdAt.appR' (h:MdAt w W op text cl pv tv rv ts rs) {a:Addr} {m c:Nat} {us:List Nat} (hm:us.length=m) (hne:0<m) (hsrc:∀k (t:Nat),us[k]?=some t→W.cell? (a.add k)=some (.int .i64 (t:Int))) (hbd:rs.length+m≤1000000000) (ty:TypeId) :
  ∃g cap W5,(jg0 #[52,52] ty #[rv,.slice (some a) m c]).run Tryz.prog W=.ok (.slice (some ⟨g,0,none⟩) (rs.length+m) cap) W5 ∧
   W5.cell? ⟨w.heap.size+1,5,none⟩=some rv∧(∀i,W5.frozen? ⟨w.heap.size+1,i,none⟩=false)∧w.heap.size+1<W5.heap.size ∧
   Hid (MdAt w (W5.setCell ⟨w.heap.size+1,5,none⟩ (.slice (some ⟨g,0,none⟩) (rs.length+m) cap)) op text cl pv tv (.slice (some ⟨g,0,none⟩) (rs.length+m) cap) ts (rs++us)):=by
 subst hm
 obtain ⟨i0,hi,hz0,hz1,hz2⟩:=info_parts info_intR
 have hlt:=h.lt
 obtain ⟨g,cap,W5,hr,hown,hgrow,hat,hgl⟩:=run_append_lies (P:=Tryz.prog) W 52 ty (w.heap.size+2) 3 i0 _ 1 8 Tryz.underlying52 hi hz0 hz1 hz2 rfl (by omega) rv rs.length _ h.rr
  a us.length c (qv8 us) (by simp [qv8]) (fun j u hj=>by
   rw [qv8,List.getElem?_map] at hj
   cases hu:us[j]? with
   | none=>rw [hu] at hj;cases hj
   | some t=>rw [hu] at hj;injection hj with hj;rw [←hj];exact hsrc j t hu) (fun u hu=>by
   obtain ⟨t,_,rfl⟩:=List.mem_map.1 hu;rfl) hne (by unfold maxLen;omega) (by omega) (by omega) W.heap.size rfl
 obtain ⟨hk,hcb,hl5,hbel⟩:=h.grown hgrow (fun k hk=>(h.rr.lt k hk).1) 5 (v':=.slice (some ⟨g,0,none⟩) (rs.length+us.length) cap)
 have hc:∀j,W5.cell? ⟨w.heap.size+1,j,none⟩=W.cell? ⟨w.heap.size+1,j,none⟩:=fun j=>World.cell?_of_block (w:=W) (a:=⟨w.heap.size+1,j,none⟩) hcb
 have hf:∀j,W5.frozen? ⟨w.heap.size+1,j,none⟩=false:=fun j=>(World.frozen?_of_block (w:=W) (a:=⟨w.heap.size+1,j,none⟩) hcb).trans (h.fz j)
 refine ⟨g,cap,W5,hr,(hc 5).trans h.c5,hf,hl5,j4 ⟨?_, ?_, ?_, ?_, ?_, ?_,fun i=>?_,by simpa using hl5,hbel, ?_, ?_⟩⟩
 ·simp [go_sem,hc,h.c0]
 ·simp [go_sem,hc,h.c1]
 ·simp [go_sem,hc,h.c2]
 ·simp [go_sem,hc,h.c3]
 ·simp [go_sem,hc,h.c4]
 ·simp [go_sem,hc,h.c5]
 ·simp [go_sem,hf i]
 ·refine qq9 h.tr fun k hk2=>hk k (h.tr.lt k hk2).2 (by have:=(h.tr.lt k hk2).1;omega) (fun e=>?_)
  obtain ⟨c1,e1⟩:=ve3 h.tr hk2
  obtain ⟨c2,e2⟩:=ve3 h.rr e
  rw [e1] at e2
  injection e2 with e2
  injection e2 with _ e2 _
  exact absurd e2 (by decide)
 ·show World.ownsRow _ _ _ _ _ _ _
  rw [List.length_append,qv8,List.map_append]
  exact ownsRow_setCell_below hown (by show w.heap.size+1<w.heap.size+2;omega) _
end
end
section
attribute [local go_sem ↓] qj6
def PartsAt (N:Nat→Prop) (w:World) (pv:Value) (cs:List Co):Prop:=
 ∃b cap,pv=.slice (some ⟨b,0,none⟩) cs.length cap∧b<w.heap.size∧∀(k:Nat) (c:Co),cs[k]?=some c→∃p1 t1 r1,SideAt w b (k * 6) c p1 t1 r1∧RcAt N w c p1 t1 r1
theorem PartsAt.below {N:Nat→Prop} {w w':World} {pv:Value} {cs:List Co} (h:PartsAt N w pv cs) (hb:Below w.heap.size w w'):PartsAt N w' pv cs:=by
 obtain ⟨b,cap,e,hlt,hk⟩:=h
 refine ⟨b,cap,e,Nat.lt_of_lt_of_le hlt hb.size,fun k c hc=>?_⟩
 obtain ⟨p1,t1,r1,h1,h2⟩:=hk k c hc
 exact ⟨p1,t1,r1,h1.keep (hb.block b hlt),h2.below hb⟩
theorem TwRow.txt {w:World} {base:Nat} {v:Value} {ts:List (List UInt8)} (h:TwRow w base v ts) (hne:ts≠[]):TxN (fun b=>base≤b) w v ts:=by
 have h':=h
 rcases h.2 with ⟨rfl,h0⟩|⟨g,cap,cur,rfl,hbg,hgg,_⟩
 ·exact absurd (List.eq_nil_of_length_eq_zero h0) hne
 ·refine ⟨g,cap,rfl,hbg,(Array.getElem?_eq_some_iff.1 hgg).1,fun k t ht=>?_⟩
  have hk:=(List.getElem?_eq_some_iff.1 ht).1
  rw [World.ownsRow.cellAt h' k (by omega),qa0,List.getElem?_map,ht];rfl
theorem NmRow.nums {w:World} {base:Nat} {v:Value} {l:List Nat} (h:NmRow w base v l) (hne:l≠[]):NmN (fun b=>base≤b) w v l:=by
 have h':=h
 rcases h.2 with ⟨rfl,h0⟩|⟨g,cap,cur,rfl,hbg,hgg,_⟩
 ·exact absurd (List.eq_nil_of_length_eq_zero h0) hne
 ·refine ⟨g,cap,rfl,hbg,(Array.getElem?_eq_some_iff.1 hgg).1,fun k t ht=>?_⟩
  have hk:=(List.getElem?_eq_some_iff.1 ht).1
  rw [World.ownsRow.cellAt h' k (by omega),qv8,List.getElem?_map,ht];rfl
theorem qz5 {base e size n:Nat} {U:World} {v:Value} {xs:List Value} (h:U.ownsRow base e size v n xs):∃a c,v=.slice a n c:=by
 rcases h.2 with ⟨rfl,h0⟩|⟨g,cap,cur,rfl,_⟩
 ·exact ⟨none,0,by rw [h0]⟩
 ·exact ⟨_,_,rfl⟩
theorem add0 (b k:Nat):(⟨b,0,none⟩:Addr).add k=⟨b,k,none⟩:=by
 cases k<;>simp [Addr.add]
theorem vk2 {base e size n q:Nat} {W:World} {v:Value} {xs:List Value} (h:W.ownsRow base e size v n xs) (hq:q<base) (a b c d f g:Value):((((((W.setCell ⟨q,0,none⟩ a).setCell ⟨q,1,none⟩ b).setCell ⟨q,2,none⟩ c).setCell ⟨q,3,none⟩ d).setCell ⟨q,4,none⟩ f).setCell ⟨q,5,none⟩ g).ownsRow base e size v n xs:=
 ownsRow_setCell_below (ownsRow_setCell_below (ownsRow_setCell_below (ownsRow_setCell_below (ownsRow_setCell_below (ownsRow_setCell_below h hq _) hq _) hq _) hq _) hq _) hq _
def MadeEnds (w:World) (op:ByteArray) (text:List UInt8) (cl:Int) (pv:Value) (ts:List (List UInt8)) (rs:List Nat) (e:Ending) (w':World):Prop:=
 Below w.heap.size w w'∧∃tv rv,e=.returned (.agg #[.string op,.string (BS text),.int .i64 cl,pv,tv,rv])∧TxN (fun b=>w.heap.size≤b) w' tv ts∧NmN (fun b=>w.heap.size≤b) w' rv rs
theorem vv0 {N:Nat→Prop} {w:World} (op:ByteArray) (text:List UInt8) (cl:Int) (raw:Nat) {pv:Value} {cs:List Co} (hp:PartsAt N w pv cs) (hn2:cs.length≤2) (hbd:(cs.flatMap qb2).length≤900000000) :
  Calls Tryz.prog 229 #[.string op,.string (BS text),.int .i64 cl,pv,.int .i64 (raw:Int)] w (MadeEnds w op text cl pv (cs.flatMap qb2++[text]) (cs.flatMap qz2++[raw])):=by
 have hrl:(cs.flatMap qz2).length=(cs.flatMap qb2).length:=by
  clear hp hn2 hbd
  induction cs with
  | nil=>rfl
  | cons c t ih=>rw [List.flatMap_cons,List.flatMap_cons,List.length_append,List.length_append,ih,qs7]
 have HP:=j4 hp
 obtain ⟨pb,pcap,rfl,hpb,hpk⟩:=hp
 have HPK:=j4 hpk
 obtain ⟨n,hn⟩:∃n,cs.length=n:=⟨_,rfl⟩
 have HN:=j4 hn
 rw [hn] at hn2 HP ⊢
 have M0:Hid (MdAt w ((w.alloc (.cells #[.string ⟨#[]⟩,.string ⟨#[]⟩,.int .i64 0,.slice none 0 0,.slice none 0 0,.slice none 0 0] 184)).alloc (.cells #[.string op,.string (BS text),.int .i64 cl,.slice (some ⟨pb,0,none⟩) n pcap,.slice none 0 0,.slice none 0 0] 184)) op (BS text) cl (.slice (some ⟨pb,0,none⟩) n pcap) (.slice none 0 0) (.slice none 0 0) [] []):=j4 ⟨by simp,by simp,by simp,by simp,by simp,by simp,fun i=>by simp,by simp,(Below.refl _ _).alloc (by simp) _,World.ownsRow_nil _ _ _ _,World.ownsRow_nil _ _ _ _⟩
 have HBD:=j4 hbd
 have HRL:=j4 hrl
 clear hpk hn hbd hrl
 go_enter Tryz.func229,Tryz.ntmps229
 go_wp2_with fail
 go_loopw [12] (fun i wr=>∃(k:Nat) (tv rv:Value),k≤n∧i=.int .i64 k∧Hid (MdAt w wr op (BS text) cl (.slice (some ⟨pb,0,none⟩) n pcap) tv rv ((cs.take k).flatMap qb2) ((cs.take k).flatMap qz2))) (fun i _=>n - (intOf i).toNat)
 case atStart=>exact ⟨0,_,_,Nat.zero_le _,rfl,M0⟩
 case round=>
  clear M0
  obtain ⟨k,tv,rv,hk,rfl,HM⟩:=hrel
  have hpr:pb<wr.heap.size:=by have:=(q9 HM).bel0.size;omega
  have hlt1:=(q9 HM).lt
  have hne1:¬pb=w.heap.size+1:=by omega
  by_cases hlt:k<n
  ·obtain ⟨c,hc⟩:∃c,cs[k]?=some c:=⟨_,List.getElem?_eq_getElem (by have:=q9 HN;omega)⟩
   obtain ⟨p1,t1,r1,hsd,hrc⟩:=q9 HPK k c hc
   have hb0:=(q9 HM).bel0
   have hsr:=hsd.keep (hb0.block pb hpb)
   obtain ⟨tb,tc,rfl,_,htb,htk⟩:=(hrc.below hb0).terms.1
   have f4:wr.cell? ⟨pb,k * 6+4,none⟩=some (.slice (some ⟨tb,0,none⟩) (qb2 c).length tc):=hsr 4 (by omega)
   have hTK:(cs.take (k+1)).flatMap qb2=(cs.take k).flatMap qb2++qb2 c∧(cs.take (k+1)).flatMap qz2=(cs.take k).flatMap qz2++qz2 c:=by
    rw [List.take_add_one,hc];simp
   have hsub:((cs.take (k+1)).flatMap qb2).length≤900000000:=by
    refine Nat.le_trans ?_ (q9 HBD)
    rw [show cs.flatMap qb2=(cs.take (k+1)).flatMap qb2++(cs.drop (k+1)).flatMap qb2 by rw [←List.flatMap_append,List.take_append_drop],List.length_append]
    omega
   have hl1:((cs.take k).flatMap qb2).length+(qb2 c).length≤900000000:=by rw [hTK.1,List.length_append] at hsub;exact hsub
   have hpos:0<(qb2 c).length:=List.length_pos_iff.2 (termsC_ne c)
   obtain ⟨g5,cap5,W5,hap5,w54,w5z,w5l,HM5⟩:=(q9 HM).drew.appT (a:=⟨tb,0,none⟩) (c:=tc) rfl hpos (fun j t hj=>by rw [add0];exact htk j t hj) (by omega) 62
   obtain ⟨X5,hX5⟩:∃X,X=W5.setCell ⟨w.heap.size+1,4,none⟩ (.slice (some ⟨g5,0,none⟩) (((cs.take k).flatMap qb2).length+(qb2 c).length) cap5):=⟨_,rfl⟩
   rw [←hX5] at HM5
   have hb5:=(q9 HM5).bel0
   have hs5:=hsd.keep (hb5.block pb hpb)
   obtain ⟨rb,rc,rfl,_,hrb,hrk⟩:=(hrc.below hb5).terms.2
   have x5:X5.cell? ⟨pb,k * 6+5,none⟩=some (.slice (some ⟨rb,0,none⟩) (qz2 c).length rc):=hs5 5 (by omega)
   have xl:=(q9 HM5).lt
   have xc5:=(q9 HM5).c5
   have xpl:pb<X5.heap.size:=by have:=hb5.size;omega
   have hrl2:((cs.take k).flatMap qz2).length=((cs.take k).flatMap qb2).length:=by
    have:∀l:List Co,(l.flatMap qz2).length=(l.flatMap qb2).length:=by
     intro l
     induction l with
     | nil=>rfl
     | cons c t ih=>rw [List.flatMap_cons,List.flatMap_cons,List.length_append,List.length_append,ih,qs7]
    exact this _
   obtain ⟨g6,cap6,W6,hap6,w65,w6z,w6l,HM6⟩:=(q9 HM5).drew.appR' (a:=⟨rb,0,none⟩) (c:=rc) rfl (by rw [qs7];exact hpos) (fun j t hj=>by rw [add0];exact hrk j t hj) (by rw [qs7,hrl2];omega) 52
   rw [←hTK.1,←hTK.2] at HM6
   have m4:=(q9 HM).c4
   have mz:=(q9 HM).fz
   have tsl:∃a c,tv=.slice a ((cs.take k).flatMap qb2).length c:=qz5 (q9 HM).tr
   have rsl:∃a c,rv=.slice a ((cs.take k).flatMap qz2).length c:=qz5 (q9 HM).rr
   obtain ⟨ta,tcc,rfl⟩:=tsl
   obtain ⟨ra,rcc,rfl⟩:=rsl
   have hk0:(0:Int)≤(k:Int):=by omega
   have hk1:(k:Int)<(n:Int):=by omega
   obtain ⟨N1,hN1⟩:∃N,((cs.take k).flatMap qb2).length=N:=⟨_,rfl⟩
   obtain ⟨N2,hN2⟩:∃N,((cs.take k).flatMap qz2).length=N:=⟨_,rfl⟩
   obtain ⟨N3,hN3⟩:∃N,(qb2 c).length=N:=⟨_,rfl⟩
   obtain ⟨N4,hN4⟩:∃N,(qz2 c).length=N:=⟨_,rfl⟩
   rw [hN1] at m4 hap5 hX5 w54
   rw [hN3] at f4 hap5 hX5
   rw [hN2] at xc5 hap6 w65 HM6
   rw [hN4] at x5 hap6 HM6
   have HX5:=j4 hX5
   clear hc hsd hrc hb0 hsr htk hTK hsub hl1 hpos hb5 hs5 hrk hrl2 hN1 hN2 hN3 hN4 hX5 HM HM5
   go_wp2_with fail
   go_region
   all_goals go_wp2_with fail
   all_goals rw [←q9 HX5]
   all_goals clear w54 w5z w5l hap5 m4 mz f4 HX5
   all_goals go_region
   all_goals go_wp2_with fail
   all_goals
    go_roundw
    case rel=>exact ⟨k+1,_,_,by omega,by go_num,HM6⟩
    case measure=>simp [intOf];omega
  ·have hke:k=n:=by omega
   have hnk:¬(k:Int)<(n:Int):=by omega
   have htk:cs.take k=cs:=List.take_of_length_le (by have:=q9 HN;omega)
   rw [htk] at HM
   obtain ⟨g7,cap7,W7,hap7,w74,w7z,w7l,HM7⟩:=((q9 HM).alloc (.cells #[.string (BS text)] 9)).appT (a:=⟨wr.heap.size,0,none⟩) (c:=1) (us:=[text]) (m:=1) rfl (by omega) (fun j t hj=>by
    cases j with
    | zero=>
     obtain rfl:text=t:=by simpa using hj
     rw [add0];simp
    | succ j=>simp at hj) (by have:=q9 HBD;omega) 62
   obtain ⟨X7,hX7⟩:∃X,X=W7.setCell ⟨w.heap.size+1,4,none⟩ (.slice (some ⟨g7,0,none⟩) ((cs.flatMap qb2).length+1) cap7):=⟨_,rfl⟩
   rw [←hX7] at HM7
   obtain ⟨g8,cap8,W8,hap8,w85,w8z,w8l,HM8⟩:=((q9 HM7).alloc (.cells #[.int .i64 (raw:Int)] 3)).appR' (a:=⟨X7.heap.size,0,none⟩) (c:=1) (us:=[raw]) (m:=1) rfl (by omega) (fun j t hj=>by
    cases j with
    | zero=>
     obtain rfl:raw=t:=by simpa using hj
     rw [add0];simp
    | succ j=>simp at hj) (by have:=q9 HBD;have:=q9 HRL;omega) 52
   obtain ⟨X8,hX8⟩:∃X,X=W8.setCell ⟨w.heap.size+1,5,none⟩ (.slice (some ⟨g8,0,none⟩) ((cs.flatMap qz2).length+1) cap8):=⟨_,rfl⟩
   rw [←hX8] at HM8
   have m4:=(q9 HM).c4
   have mz:=(q9 HM).fz
   have xl7:=(q9 HM7).lt
   have xc5:=(q9 HM7).c5
   have xz7:=(q9 HM7).fz
   have tsl:∃a c,tv=.slice a (cs.flatMap qb2).length c:=qz5 (q9 HM).tr
   have rsl:∃a c,rv=.slice a (cs.flatMap qz2).length c:=qz5 (q9 HM).rr
   obtain ⟨ta,tcc,rfl⟩:=tsl
   obtain ⟨ra,rcc,rfl⟩:=rsl
   have y0:=(q9 HM8).c0
   have y1:=(q9 HM8).c1
   have y2:=(q9 HM8).c2
   have y3:=(q9 HM8).c3
   have y4:=(q9 HM8).c4
   have y5:=(q9 HM8).c5
   have yl:=(q9 HM8).lt
   have yb:=(q9 HM8).bel
   have r0:X8.cell? ⟨w.heap.size,0,none⟩=some (.string ⟨#[]⟩):=(yb.cell (p:=⟨w.heap.size,0,none⟩) (Nat.lt_succ_self _)).trans (by simp)
   have r1:X8.cell? ⟨w.heap.size,1,none⟩=some (.string ⟨#[]⟩):=(yb.cell (p:=⟨w.heap.size,1,none⟩) (Nat.lt_succ_self _)).trans (by simp)
   have r2:X8.cell? ⟨w.heap.size,2,none⟩=some (.int .i64 0):=(yb.cell (p:=⟨w.heap.size,2,none⟩) (Nat.lt_succ_self _)).trans (by simp)
   have r3:X8.cell? ⟨w.heap.size,3,none⟩=some (.slice none 0 0):=(yb.cell (p:=⟨w.heap.size,3,none⟩) (Nat.lt_succ_self _)).trans (by simp)
   have r4:X8.cell? ⟨w.heap.size,4,none⟩=some (.slice none 0 0):=(yb.cell (p:=⟨w.heap.size,4,none⟩) (Nat.lt_succ_self _)).trans (by simp)
   have r5:X8.cell? ⟨w.heap.size,5,none⟩=some (.slice none 0 0):=(yb.cell (p:=⟨w.heap.size,5,none⟩) (Nat.lt_succ_self _)).trans (by simp)
   have rz:∀i,X8.frozen? ⟨w.heap.size,i,none⟩=false:=fun i=>(yb.frozen (p:=⟨w.heap.size,i,none⟩) (Nat.lt_succ_self _)).trans (by simp)
   have rl:w.heap.size<X8.heap.size:=by omega
   obtain ⟨N1,hN1⟩:∃N,(cs.flatMap qb2).length=N:=⟨_,rfl⟩
   obtain ⟨N2,hN2⟩:∃N,(cs.flatMap qz2).length=N:=⟨_,rfl⟩
   rw [hN1] at m4 hap7 hX7 w74 y4 HM8
   rw [hN2] at xc5 hap8 hX8 w85 y5 HM8
   have HX7:=j4 hX7
   have HX8:=j4 hX8
   clear hke htk hN1 hN2 hX7 hX8 yb HM HM7
   go_upto_region 8 with fail
   rw [←q9 HX7]
   clear w74 w7z w7l hap7 m4 mz HX7
   go_upto_region 9 with fail
   rw [←q9 HX8]
   clear w85 w8z w8l hap8 xc5 xz7 HX8
   go_wp2_with fail
   refine bodyPost_ret (by simp [results,Tryz.results229,go_sem,r0,r1,r2,r3,r4,r5]<;>rfl) rfl ⟨?_, ?_⟩
   ·refine Below.setCell (Below.setCell (Below.setCell (Below.setCell (Below.setCell (Below.setCell (q9 HM8).bel0 ?_ _) ?_ _) ?_ _) ?_ _) ?_ _) ?_ _<;>exact Nat.le_refl _
   ·refine ⟨_,_,rfl, ?_, ?_⟩
    ·exact (TwRow.txt (base:=w.heap.size+2) (vk2 (q9 HM8).tr (by omega) _ _ _ _ _ _) (by simp)).keep (fun _ _ _=>rfl) (Nat.le_refl _) (fun b hb _=>by have hb':w.heap.size+2≤b:=hb;show w.heap.size≤b;omega)
    ·exact (NmRow.nums (base:=w.heap.size+2) (vk2 (q9 HM8).rr (by omega) _ _ _ _ _ _) (by simp)).keep (fun _ _ _=>rfl) (Nat.le_refl _) (fun b hb _=>by have hb':w.heap.size+2≤b:=hb;show w.heap.size≤b;omega)
end
end Go.Proofs.YtfkcaldjphakpaaGreatDoor
