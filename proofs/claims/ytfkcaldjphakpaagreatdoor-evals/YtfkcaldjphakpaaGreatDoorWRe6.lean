/- The document's answer: a sign's token. -/
import Derived.Test.YtfkcaldjphakpaaGreatDoorWRe5
namespace Go.Proofs.YtfkcaldjphakpaaGreatDoor
open Go.RowKit
def vd4 (l:List UInt8):Prop:=l.take 2=[60,62]∨l.take 2=[60,61]∨l.take 2=[62,61]
def vy1:List UInt8:=[61,60,62,43,45,42,47,40,41,44]
theorem va7 {k:Int} {U:List UInt8} (h1:kwT k=U) (h2:16≤k) (a z:Nat):rTk (j6 k) a z=rtV 5 a z U 0:=by
 unfold rTk
 rw [if_neg (show ¬(j6 k).kind=1 by show ¬k=1;omega)]
 have e1:rK (j6 k).kind=5:=by show rK k=5;unfold rK;rw [if_neg (by omega),if_neg (by omega)]
 have e2:rS (j6 k)=U:=by
  unfold rS
  rw [if_neg (show ¬((j6 k).kind=2∨(j6 k).kind=4) by show ¬(k=2∨k=4);omega)]
  exact h1
 rw [e1,e2]
 rfl
theorem sign_pair {l:List UInt8} (h:vd4 l) (p:Nat):rTk (j6 (qp8 l)) p (p+qs7 l)=rtV 5 p (p+2:Nat) (l.take 2) 0:=by
 match l,h with
 | [],h=>simp [vd4] at h
 | [a],h=>simp [vd4] at h
 | a::b::t,h=>
  have h:[a,b]=[60,62]∨[a,b]=[60,61]∨[a,b]=[62,61]:=h
  rcases h with h|h|h
  ·injection h with h1 h2
   injection h2 with h2 _
   subst h1 h2
   exact va7 (k:=17) rfl (by decide) p _
  ·injection h with h1 h2
   injection h2 with h2 _
   subst h1 h2
   exact va7 (k:=19) rfl (by decide) p _
  ·injection h with h1 h2
   injection h2 with h2 _
   subst h1 h2
   exact va7 (k:=21) rfl (by decide) p _
theorem vp3 {a:UInt8} {t:List UInt8} (h:¬vd4 (a::t)):qs7 (a::t)=1:=by
 cases t with
 | nil=>rfl
 | cons b t=>
  have h:¬([a,b]=[60,62]∨[a,b]=[60,61]∨[a,b]=[62,61]):=h
  unfold qs7
  simp only
  rw [if_neg]
  intro e
  apply h
  simp only [Bool.or_eq_true,Bool.and_eq_true,beq_iff_eq] at e
  rcases e with ⟨rfl,rfl⟩|⟨rfl|rfl,rfl⟩
  ·exact .inl rfl
  ·exact .inr (.inl rfl)
  ·exact .inr (.inr rfl)
theorem vp4 {a:UInt8} {t:List UInt8} (h:¬vd4 (a::t)):qp8 (a::t)=vh4 [a]:=by
 unfold qp8
 rw [if_neg (fun e=>h (.inl (by simpa using e))),vp3 h]
 rfl
theorem sign_one {a:UInt8} {t:List UInt8} (h:¬vd4 (a::t)) (ha:a∈vy1) (p:Nat):rTk (j6 (qp8 (a::t))) p (p+qs7 (a::t))=rtV 5 p (p+1:Nat) [a] 0:=by
 rw [vp4 h,vp3 h]
 unfold vy1 at ha
 simp only [List.mem_cons,List.not_mem_nil,or_false] at ha
 rcases ha with rfl|rfl|rfl|rfl|rfl|rfl|rfl|rfl|rfl|rfl<;>exact va7 rfl (by decide) p _
theorem sign_none {a:UInt8} {t:List UInt8} (h:¬vd4 (a::t)) (ha:a∉vy1) (p:Nat):rTk (j6 (qp8 (a::t))) p (p+qs7 (a::t))=rtV 1 p 0 [] 0:=by
 rw [vp4 h]
 unfold vy1 at ha
 simp only [List.mem_cons,List.not_mem_nil,or_false,not_or] at ha
 have:vh4 [a]=1:=by
  unfold vh4
  simp [ha]
 rw [this,vw5]
set_option maxHeartbeats 8000000 in
theorem rsign_any (s:ByteArray) (hs:s.size≤200) (p:Nat) (hp:p<s.size) (w:World) :
  Calls Tryz.prog 258 #[.string s,.int .i64 p] w fun e w'=>e=.returned (rTk (j6 (qp8 (s.data.toList.drop p))) p (p+qs7 (s.data.toList.drop p)))∧Below w.heap.size w w':=by
 have hl:=j4 s
 have hd:s.data.toList.drop p=s[p]::s.data.toList.drop (p+1):=by
  rw [List.drop_eq_getElem_cons (by rw [j4];exact hp),j9 s p hp]
 have hx:(s.extract p (p+2)).data.toList=(s.data.toList.drop p).take 2:=by rw [Lib.extract_data];simp
 obtain ⟨R,hR⟩:∃R,rTk (j6 (qp8 (s.data.toList.drop p))) p (p+qs7 (s.data.toList.drop p))=R:=⟨_,rfl⟩
 rw [hR]
 obtain ⟨T,hT⟩:∃T,s.extract p (p+2)=T:=⟨_,rfl⟩
 rw [hT] at hx
 have hb1:(p:Int)+2≤(s.size:Int)∨¬(p:Int)+2≤(s.size:Int):=by omega
 by_cases hpr:vd4 (s.data.toList.drop p)
 ·have h2:p+2≤s.size:=by
   have:((s.data.toList.drop p).take 2).length=2:=by rcases hpr with h|h|h<;>rw [h]<;>rfl
   rw [List.length_take,List.length_drop,j4] at this
   omega
  have h2':(p:Int)+2≤(s.size:Int):=by omega
  have hr:=sign_pair hpr p
  rw [hR,←hx] at hr
  have hTl:T.toList=(s.data.toList.drop p).take 2:=by rw [Lib.toList_data,hx]
  unfold vd4 at hpr
  rw [←hTl] at hpr
  clear hd hx hR hTl hb1
  rcases hpr with h|h|h
  all_goals
   go_enter Tryz.func258,Tryz.ntmps258
   go_wp2_with fail
   refine bodyPost_ret (by simp [results,Tryz.results258,go_sem]<;>rfl) rfl ⟨?_, ?_⟩
   all_goals go_light
   ·first|rfl|(rw [hr];rfl)
   ·repeat' (first|exact (Below.refl _ _).alloc (Nat.le_refl _) _|refine Below.setCell ?_ (by simp) _)
 ·have hx1:s.extract p (p+1)=BS [s[p]]:=ext_one hp
  rw [hd] at hpr
  have ht:∀x:List UInt8,(x=[60,62]∨x=[60,61]∨x=[62,61])→(T.toList==x)=false:=fun x hx'=>by
   rw [Lib.toList_data,hx,hd]
   refine beq_eq_false_iff_ne.2 fun e=>hpr ?_
   unfold vd4
   rw [e]
   exact hx'
  have t1:=ht [60,62] (.inl rfl)
  have t2:=ht [60,61] (.inr (.inl rfl))
  have t3:=ht [62,61] (.inr (.inr rfl))
  by_cases ha:s[p]∈vy1
  ·have h0r:=sign_one hpr ha p
   rw [←hd,hR] at h0r
   obtain ⟨S,hS⟩:∃S,s.extract p (p+1)=S:=⟨_,rfl⟩
   have hr:R=.agg #[.int .i64 5,.int .i64 p,.int .i64 ((p:Int)+1),.string S,.int .i64 0]:=by rw [h0r,←hS,hx1];rfl
   have hc:(s[p].toNat:Int)=61∨(s[p].toNat:Int)=60∨(s[p].toNat:Int)=62∨(s[p].toNat:Int)=43∨(s[p].toNat:Int)=45∨(s[p].toNat:Int)=42∨(s[p].toNat:Int)=47∨(s[p].toNat:Int)=40∨(s[p].toNat:Int)=41∨(s[p].toNat:Int)=44:=by
    unfold vy1 at ha
    simp only [List.mem_cons,List.not_mem_nil,or_false] at ha
    rcases ha with h|h|h|h|h|h|h|h|h|h<;>rw [h]<;>decide
   have HR:=v7 hr
   clear hd hx hR ht hpr ha hx1 hr h0r
   rcases hb1 with hb|hb<;>rcases hc with hc|hc|hc|hc|hc|hc|hc|hc|hc|hc
   all_goals
    go_enter Tryz.func258,Tryz.ntmps258
    go_wp2_with fail
    refine bodyPost_ret (by simp [results,Tryz.results258,go_sem]<;>rfl) rfl ⟨?_, ?_⟩
    all_goals go_light
    ·rw [q9 HR]
    ·repeat' (first|exact (Below.refl _ _).alloc (Nat.le_refl _) _|refine Below.setCell ?_ (by simp) _)
  ·have hr:=sign_none hpr ha p
   rw [←hd,hR] at hr
   have hn:∀x∈vy1,((s[p].toNat:Int)==(x.toNat:Int))=false:=fun x hx'=>beq_eq_false_iff_ne.2 fun e=>ha (by
    have:s[p]=x:=UInt8.toNat_inj.1 (by omega)
    rw [this];exact hx')
   have n1:((s[p].toNat:Int)==61)=false:=hn 61 (by decide)
   have n2:((s[p].toNat:Int)==60)=false:=hn 60 (by decide)
   have n3:((s[p].toNat:Int)==62)=false:=hn 62 (by decide)
   have n4:((s[p].toNat:Int)==43)=false:=hn 43 (by decide)
   have n5:((s[p].toNat:Int)==45)=false:=hn 45 (by decide)
   have n6:((s[p].toNat:Int)==42)=false:=hn 42 (by decide)
   have n7:((s[p].toNat:Int)==47)=false:=hn 47 (by decide)
   have n8:((s[p].toNat:Int)==40)=false:=hn 40 (by decide)
   have n9:((s[p].toNat:Int)==41)=false:=hn 41 (by decide)
   have n0:((s[p].toNat:Int)==44)=false:=hn 44 (by decide)
   clear hd hx hR ht hpr ha hx1 hn
   rcases hb1 with hb|hb
   all_goals
    go_enter Tryz.func258,Tryz.ntmps258
    go_wp2_with fail
    refine bodyPost_ret (by simp [results,Tryz.results258,go_sem]<;>rfl) rfl ⟨?_, ?_⟩
    all_goals go_light
    ·first|rfl|(rw [hr];rfl)
    ·repeat' (first|exact (Below.refl _ _).alloc (Nat.le_refl _) _|refine Below.setCell ?_ (by simp) _)
end Go.Proofs.YtfkcaldjphakpaaGreatDoor
