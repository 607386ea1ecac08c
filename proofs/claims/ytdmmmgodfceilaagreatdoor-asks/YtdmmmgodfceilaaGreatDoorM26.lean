/- a sign's token -/
import Derived.Test.YtdmmmgodfceilaaGreatDoorM05
namespace Go.Proofs.YtdmmmgodfceilaaGreatDoor
open Go.RowKit Go.Proofs.Tryz
open Go renaming World->Ao
open Go.IntKind renaming i64->J
open Go.Value renaming agg->Ai,int->I,string->Y
open Or renaming inl->Am,inr->An
variable{t:tu}{a:UInt8}
def qeg(l:List UInt8):Prop:=l.take 2=[60,62]\/l.take 2=[60,61]\/l.take 2=[62,61]
def qpm:List UInt8:=[61,60,62,43,45,42,47,40,41,44]
theorem qc8{k:Int}{U:tu}(b:kwT k=U)(e:16<=k)(a z:Nat):rTk (qi k) a z=rtV 5 a z U 0:=by
 unfold rTk;rw[ak (show ¬(qi k).A=1 by show ¬k=1;omega)];have d:rK (qi k).A=5:=by show rK k=5;unfold rK;rw[ak ub,ak ub]
 have c:rS (qi k)=U:=by
  unfold rS;rw[ak (show ¬((qi k).A=2\/(qi k).A=4) by show ¬(k=2\/k=4);omega)];exact b
 rw[d,c];rfl
theorem vab{l:tu}(h:qeg l)(p:Nat):rTk (qi (xG l)) p (p+yJ l)=rtV 5 p (p+2:Nat) (l.take 2) 0:=by
 match l,h with
 | [],h=>simp[qeg]at h
 | [a],h=>simp[qeg]at h
 | a::b::t,h=>
  have h:[a,b]=[60,62]\/[a,b]=[60,61]\/[a,b]=[62,61]:=h;rcases h with h|h|h;injection h with d c;injection c with c _;subst d c;exact qc8 (k:=17) rfl ue p _;injection h with d c;injection c with c _;subst d c;exact qc8 (k:=19) rfl ue p _;injection h with d c;injection c with c _;subst d c;exact qc8 (k:=21) rfl ue p _
theorem qj4(h:¬qeg (a::t)):yJ (a::t)=1:=by
 cases t with
 | nil=>rfl
 | cons b t=>
  have h:¬([a,b]=[60,62]\/[a,b]=[60,61]\/[a,b]=[62,61]):=h;unfold yJ;simp only;rw[ak];intro e;apply h;simp only[ff,dh,ew]at e;rcases e with⟨rfl,rfl⟩|⟨rfl|rfl,rfl⟩;exact Am rfl;exact An (Am rfl);exact An (An rfl)
theorem qj5(h:¬qeg (a::t)):xG (a::t)=qgn [a]:=by
 unfold xG;rw[ak (λe=>h (Am (by simpa using e))),qj4 h];rfl
theorem vgh(h:¬qeg (a::t))(b:a∈qpm)(p:Nat):rTk (qi (xG (a::t))) p (p+yJ (a::t))=rtV 5 p (p+1:Nat) [a] 0:=by
 rw[qj5 h,qj4 h];unfold qpm at b;simp only[eo,mg,or_false]at b;rcases b with rfl|rfl|rfl|rfl|rfl|rfl|rfl|rfl|rfl|rfl<;>exact qc8 rfl ue p _
theorem vaa(h:¬qeg (a::t))(b:a∉qpm)(p:Nat):rTk (qi (xG (a::t))) p (p+yJ (a::t))=rtV 1 p 0 [] 0:=by
 rw[qj5 h];unfold qpm at b;simp only[eo,mg,or_false,not_or]at b
 have:qgn [a]=1:=by
  unfold qgn;simp[b]
 rw[this,qp1]
set_option maxHeartbeats 32000000 in
theorem qzq(s:tq)(L:s.size<=200)(p:Nat)(hp:p<s.size)(w:Ao):
  ut 189 #[Y s,I J p] w (rTk (qi (xG (s.data.toList.drop p))) p (p+yJ (s.data.toList.drop p))):=by
 have M:=qu s
 have hd:s.data.toList.drop p=s[p]::s.data.toList.drop (p+1):=by
  rw[cj (by rw[qu];exact hp),qD s p hp]
 have f:(s.extract p (p+2)).data.toList=(s.data.toList.drop p).take 2:=by rw[se];simp
 obtain⟨R,g⟩:=it (rTk (qi (xG (s.data.toList.drop p))) p (p+yJ (s.data.toList.drop p)));rw[g];obtain⟨T,o⟩:=it (s.extract p (p+2));rw[o]at f;have n:(p:Int)+2<=(s.size:Int)\/¬(p:Int)+2<=(s.size:Int):=ub
 by_cases lK:qeg (s.data.toList.drop p)
 .have h2:p+2<=s.size:=by
   have:((s.data.toList.drop p).take 2).length=2:=by rcases lK with h|h|h<;>rw[h]<;>rfl
   rw[cw,dj,qu]at this;omega
  have r:(p:Int)+2<=(s.size:Int):=ub;have d:=vab lK p;rw[g,<-f]at d;have j:T.toList=(s.data.toList.drop p).take 2:=by rw[gs,f]
  unfold qeg at lK;rw[<-j]at lK;clear hd f g j n;rcases lK with h|h|h
  all_goals
   go_enter func189,ntmps189
   go_wp2
   refine tw ⟨?_, ?_⟩
   all_goals go_light
   .first|rfl|(rw[d];rfl)
   repeat' (first|exact(uj).alloc ui _|refine Below.setCell ?_ uc _)
 have k:s.extract p (p+1)=BS [s[p]]:=qwg hp;rw[hd]at lK
 have i:∀x:tu,(x=[60,62]\/x=[60,61]\/x=[62,61])->(T.toList==x)=false:=λx m=>by
  rw[gs,f,hd];refine bh.2 λe=>lK ?_
  unfold qeg;rw[e];exact m
 have z:=i [60,62] (Am rfl);have y:=i [60,61] (An (Am rfl));have v:=i [62,61] (An (An rfl))
 by_cases ha:s[p]∈qpm
 .have WN:=vgh lK ha p
  rw[<-hd,g]at WN;obtain⟨S,q⟩:=it (s.extract p (p+1));have d:R=Ai #[I J 5,I J p,I J ((p:Int)+1),Y S,I J 0]:=by rw[WN,<-q,k];rfl
  have c:(s[p].toNat:Int)=61\/(s[p].toNat:Int)=60\/(s[p].toNat:Int)=62\/(s[p].toNat:Int)=43\/(s[p].toNat:Int)=45\/(s[p].toNat:Int)=42\/(s[p].toNat:Int)=47\/(s[p].toNat:Int)=40\/(s[p].toNat:Int)=41\/(s[p].toNat:Int)=44:=by
   unfold qpm at ha;simp only[eo,mg,or_false]at ha;rcases ha with h|h|h|h|h|h|h|h|h|h<;>rw[h]<;>decide
  have u:=qd d;clear hd f g i lK ha k d WN;rcases n with l|l<;>rcases c with c|c|c|c|c|c|c|c|c|c
  all_goals
   go_enter func189,ntmps189
   go_wp2
   refine tw ⟨?_, ?_⟩
   all_goals go_light
   rw[q9 u]
   repeat' (first|exact(uj).alloc ui _|refine Below.setCell ?_ uc _)
 have d:=vaa lK ha p;rw[<-hd,g]at d
 have b:∀x∈qpm,((s[p].toNat:Int)==(x.toNat:Int))=false:=λx m=>bh.2 λe=>ha (by
  have:s[p]=x:=sk.1 ub
  rw[this];exact m)
 have K:((s[p].toNat:Int)==61)=false:=b 61 ue;have H:((s[p].toNat:Int)==60)=false:=b 60 ue;have G:((s[p].toNat:Int)==62)=false:=b 62 ue;have F:((s[p].toNat:Int)==43)=false:=b 43 ue;have E:((s[p].toNat:Int)==45)=false:=b 45 ue;have D:((s[p].toNat:Int)==42)=false:=b 42 ue;have C:((s[p].toNat:Int)==47)=false:=b 47 ue;have B:((s[p].toNat:Int)==40)=false:=b 40 ue;have A:((s[p].toNat:Int)==41)=false:=b 41 ue;have n0:((s[p].toNat:Int)==44)=false:=b 44 ue;clear hd f g i lK ha k b;rcases n with l|l
 all_goals
  go_enter func189,ntmps189
  go_wp2
  refine tw ⟨?_, ?_⟩
  all_goals go_light
  .first|rfl|(rw[d];rfl)
  repeat' (first|exact(uj).alloc ui _|refine Below.setCell ?_ uc _)
end Go.Proofs.YtdmmmgodfceilaaGreatDoor
