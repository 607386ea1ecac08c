/- The contract of lex.qu -/
import Derived.Test.YtfkcaldjphakpaaGreatDoorM00
import Derived.Laws.IdiomStrings
import Derived.Laws.Concat
set_option maxHeartbeats 4000000
set_option maxRecDepth 100000
namespace Go.Proofs.YtfkcaldjphakpaaGreatDoor
open Go.RowKit Go.Proofs.Tryz
variable{l xs:mv}{k n:Nat}{c:UInt8}{v:Value}
def ve:List UInt8->Option (List UInt8×Nat)
 | []=>none
 | [c]=>if c==39 then some ([],1) else none
 | c::d::t=>
  if c==39 then(if d==39 then(ve t).map λr=>(39::r.1,r.2+2) else some ([],1))
  else(ve (d::t)).map λr=>(c::r.1,r.2+1)
def vG(l:List UInt8):Tk:=match ve (l.drop 1) with
 | some r=>⟨4,0,r.1⟩
 | none=>qh 1
def xM(l:List UInt8):Nat:=match ve (l.drop 1) with
 | some r=>r.2+1
 | none=>l.length
def QAt(l:List UInt8)(k:Nat)(xs:List UInt8):Prop:=ve (l.drop 1)=(ve (l.drop k)).map λr=>(xs++r.1,r.2+(k - 1))
theorem vfu(l:mv)(k:Nat)(h:k+1<l.length):l.drop k=l[k]::l[k+1]::l.drop (k+2):=by
 rw[ce mw,ce mw]
theorem vj0(l:mv)(k:Nat)(h:k+1=l.length):l.drop k=[l[k]]:=by
 rw[ce mw,di mw]
theorem QAt.start(l:mv):QAt l 1 []:=by
 unfold QAt;cases ve (l.drop 1)<;>simp
theorem QAt.over(h:QAt l k xs)(a:l.length<=k):ve (l.drop 1)=none:=by
 unfold QAt at h;rw[h,di a];rfl
theorem QAt.close(h:QAt l k xs)(f:1<=k)(e:k<l.length)(a:l[k]=39)(b:∀h:k+1<l.length,l[k+1]≠39):
  ve (l.drop 1)=some (xs,k):=by
 unfold QAt at h;rw[h]
 by_cases h2:k+1<l.length
 ·have:=b h2
  rw[vfu l k h2,ve,bh (by simp[a]),aj (by simpa using this)];simp;omega
 ·rw[vj0 l k mw,ve,bh (by simp[a])];simp;omega
theorem QAt.two(h:QAt l k xs)(e:1<=k)(a:k+1<l.length)(b:l[k]=39)(hd:l[k+1]=39):QAt l (k+2) (xs++[39]):=by
 unfold QAt at h ⊢;rw[h,vfu l k a,ve,bh (by simp[b]),bh (by simp[hd])]
 cases ve (l.drop (k+2)) with
 | none=>rfl
 | some r=>simp;omega
theorem QAt.one(h:QAt l k xs)(e:1<=k)(b:k<l.length)(a:l[k]≠39):QAt l (k+1) (xs++[l[k]]):=by
 unfold QAt at h ⊢;rw[h]
 by_cases h2:k+1<l.length
 ·rw[vfu l k h2,ve,aj (by simpa using a),ce h2]
  cases ve (l[k+1]::l.drop (k+1+1)) with
  | none=>rfl
  | some r=>simp;omega
 ·rw[vj0 l k mw,ve,aj (by simpa using a),di mw];rfl
theorem Tryz.info5u:(prog.info? 5).map (λi=>(i.zero,i.size,i.bytes))=some (some (.int .u8 0),1,1):=nl
theorem qzo{w:World}{base:Nat}(h:w.ownsRow base 5 1 v l.length (l.map λc=>.int .u8 (c.toNat:Int))):
  (convert 51 9 v).run prog w=.ok (.string (BS l)) w:=by
 have e:=h;obtain⟨_,⟨rfl,a⟩|⟨g,cap,cur,rfl,_⟩⟩:=h
 ·have:l=[]:=cq a
  subst this;rw[run_convert_bytes_string w 51 9 5 none 0 0 underlying51 underlying5 underlying9];simp[Conv.bytesToString];rfl
 ·refine run_convert_bytes_back w 51 9 5 ⟨g,0,none⟩ cap l underlying51 underlying5 underlying9 λj b=>?_
  exact e.cells rfl j _ (by simp[ag b])
theorem qnj{W a wr:World}{B:Nat}{xs:List Value}{e:TypeId}(i:Below B W wr)(j:B<=wr.heap.size)(b:wr.ownsRow B e 1 v n xs)(o:Obj)
  (g:(wr.alloc o).grownBy a v.ownBlock):Below B W a:=
 (i.alloc j o).grown g my λk f=>(b.lt k f).1
theorem qp3(c:UInt8):((c.toNat:Int) != 39)=!(c==39):=by simp only[bne,qy4]
theorem yN(h:ve (l.drop 1)=some (xs,k)):vG l=⟨4,0,xs⟩/\xM l=k+1:=by
 unfold vG xM;rw[h];exact⟨rfl,rfl⟩
theorem qc7(h:ve (l.drop 1)=none):vG l=qh 1/\xM l=l.length:=by
 unfold vG xM;rw[h];exact⟨rfl,rfl⟩
theorem qqv(s:mu)(h0:0<s.size)(Y:s.size<=140737488355328)(w:World):
  nz 194 #[.string s] w λe w'=>e=.returned (.tuple #[tkV (vG s.data.toList) 0,.int .i64 (xM s.data.toList)])/\Xb w w':=by
 have T:=qr s;obtain⟨L,M,O,R,Q⟩:=info_parts Tryz.info5u;obtain⟨TK,F⟩:∃t,vG s.data.toList=t:=⟨_,rfl⟩;obtain⟨Z,G⟩:∃t,xM s.data.toList=t:=⟨_,rfl⟩;rw[F,G];have f:=qd F;have H:=qd G;clear F G;go_enter func194,ntmps194
 go_wp2_with fail
 go_loopw [4,5] (λv i wr=>∃(k:Nat) (xs:mv),1<=k/\k<=s.size/\i=.int .i64 k/\Hid (QAt s.data.toList k xs)/\xs.length<k/\wr.ownsRow (w.heap.size+1) 5 1 v xs.length (xs.map λc=>.int .u8 (c.toNat:Int))/\Below (w.heap.size+1) (w.alloc (.cells #[.int .i64 0,.int .i64 0,.int .i64 0,.string ⟨#[]⟩] 91)) wr)
  (λ_ i _=>s.size - (intOf i).toNat)
 case atStart=>exact⟨1,[],nt,mw,rfl,qd (QAt.start _),mx,ed _ _ _ _,nw⟩
 case round=>
  obtain⟨k,xs,D,hk,rfl,a,X,m,q⟩:=hrel;have C:w.heap.size+1<=wr.heap.size:=by have:=q.size;simpa using this
  have P:=qzo m;have r:Below (w.alloc (.cells #[.int .i64 0,.int .i64 0,.int .i64 0,.string ⟨#[]⟩] 91)).heap.size (w.alloc (.cells #[.int .i64 0,.int .i64 0,.int .i64 0,.string ⟨#[]⟩] 91)) wr:=by simpa using q
  obtain⟨y,S⟩:=qj r
  by_cases A0:k<s.size
  ·cases hc:(s[k]==39) with
   | false=>
    have I:Hid (QAt s.data.toList (k+1) (xs++[s[k]])):=qd (a.one D mw (by rw[qy s k A0];simpa using hc));have U:((s[k].toNat:Int)==39)=false:=by rw[qy4];exact hc
    clear hc a
    go_wp2_with(at_builtin;refine wpList_append_own _ rfl _ _ 51 rfl (w.heap.size+1) 5 L (.int .u8 0) 1 1 underlying51 M O R Q rfl nh _ _ _ rfl (m.alloc _) ⟨wr.heap.size,0,none⟩ 1 1 [.int .u8 (s[k].toNat:Int)] rfl rfl ?c1 ?c2 ?c3 ?c4 ?c5 ?_)
    case c1=>
     intro j u b
     match j,b with
     | 0,b=>simp at b;subst b;simp[Addr.add]
    case c2=>intro u x;simp at x;subst x;rfl
    case c3=>unfold maxLen;omega
    case c4=>omega
    case c5=>simp;omega
    intro v' E z A _;have K:=qnj q C m _ A;have J:E.ownsRow (w.heap.size+1) 5 1 v' (xs++[s[k]]).length ((xs++[s[k]]).map λc=>.int .u8 (c.toNat:Int)):=by simpa using z
    clear z A m P q C r y S
    go_wp2_with fail
    go_roundw
    case rel=>exact⟨k+1,xs++[s[k]],mw,mw,by go_num,I,my,J,K⟩
    case measure=>simp[intOf];omega
   | true=>
    have U:((s[k].toNat:Int)==39)=true:=by rw[qy4];exact hc
    have o:s.data.toList[k]'mw=39:=by rw[qy s k A0];simpa using hc
    by_cases h2:k+1<s.size
    ·cases hd:(s[k+1]==39) with
     | true=>
      have I:Hid (QAt s.data.toList (k+2) (xs++[39])):=qd (a.two D mw o (by rw[qy s (k+1) h2];simpa using hd));have W:((s[k+1].toNat:Int) != 39)=false:=by rw[qp3,hd];rfl
      have WV:(s[k+1].toNat:Int)=39:=by rw[show s[k+1]=39 by simpa using hd];rfl
      have N:((k:Int)+1==(s.size:Int))=false:=ae.2 mw;clear hc a hd o
      go_wp2_with(at_builtin;refine wpList_append_own _ rfl _ _ 51 rfl (w.heap.size+1) 5 L (.int .u8 0) 1 1 underlying51 M O R Q rfl nh _ _ _ rfl (m.alloc _) ⟨wr.heap.size,0,none⟩ 1 1 [.int .u8 39] rfl rfl ?c1 ?c2 ?c3 ?c4 ?c5 ?_)
      case c1=>
       intro j u b
       match j,b with
       | 0,b=>simp at b;subst b;simp[Addr.add]
      case c2=>intro u x;simp at x;subst x;rfl
      case c3=>unfold maxLen;omega
      case c4=>omega
      case c5=>simp;omega
      intro v' E z A _;have K:=qnj q C m _ A;have J:E.ownsRow (w.heap.size+1) 5 1 v' (xs++[(39:UInt8)]).length ((xs++[(39:UInt8)]).map λc=>.int .u8 (c.toNat:Int)):=by simpa using z
      clear z A m P q C r y S
      go_wp2_with fail
      go_roundw
      case rel=>exact⟨k+2,xs++[39],mw,mw,by go_num,I,my,J,K⟩
      case measure=>simp[intOf];omega
     | false=>
      have g:Hid (ve (s.data.toList.drop 1)=some (xs,k)):=qd (a.close D mw o (λ_=>by rw[qy s (k+1) h2];simpa using hd));have W:((s[k+1].toNat:Int) != 39)=true:=by rw[qp3,hd];rfl
      have N:((k:Int)+1==(s.size:Int))=false:=ae.2 mw;clear hc a hd o
      go_wp2_with fail
      refine ak (by simp[go_sem,y];rfl) rfl ⟨?_, ?_⟩
      all_goals go_light
      ·exact yS (by rw[←q9 f,(yN (q9 g)).1]) (by rw[←q9 f,(yN (q9 g)).1]) (by rw[←q9 f,(yN (q9 g)).1]) (by rw[←q9 H,(yN (q9 g)).2];go_num)
      ·exact(((((qV r).setCell mx _).setCell mx _).setCell mx _).setCell mx _)
    ·have g:Hid (ve (s.data.toList.drop 1)=some (xs,k)):=qd (a.close D mw o (λh=>absurd h mw))
     have N:((k:Int)+1==(s.size:Int))=true:=dg.2 mw;clear hc a o
     go_wp2_with fail
     refine ak (by simp[go_sem,y];rfl) rfl ⟨?_, ?_⟩
     all_goals go_light
     ·exact yS (by rw[←q9 f,(yN (q9 g)).1]) (by rw[←q9 f,(yN (q9 g)).1]) (by rw[←q9 f,(yN (q9 g)).1]) (by rw[←q9 H,(yN (q9 g)).2];go_num)
     ·exact(((((qV r).setCell mx _).setCell mx _).setCell mx _).setCell mx _)
  ·have B:Hid (ve (s.data.toList.drop 1)=none):=qd (a.over mw)
   clear a
   go_wp2_with fail
   refine ak (by simp[go_sem,y];rfl) rfl ⟨?_, ?_⟩
   all_goals go_light
   ·exact yS (by rw[←q9 f,(qc7 (q9 B)).1];rfl) (by rw[←q9 f,(qc7 (q9 B)).1];rfl) (by rw[←q9 f,(qc7 (q9 B)).1];rfl) (by rw[←q9 H,(qc7 (q9 B)).2,T])
   ·exact(((((qV r).setCell mx _).setCell mx _).setCell mx _).setCell mx _)
def qX(l:List UInt8):Tk:=match l with
 | []=>qh 1
 | c::_=>if yd c then vU l else if jc c then xt l else if c==39 then vG l else qh (xm l)
def zN(l:List UInt8):Nat:=match l with
 | []=>1
 | c::_=>if yd c then qx l else if jc c then qw jc l else if c==39 then xM l else yf l
theorem va7(s:mu)(h:0<s.size):
  qX s.data.toList=(if yd s[0] then vU s.data.toList else if jc s[0] then xt s.data.toList else if s[0]==39 then vG s.data.toList else qh (xm s.data.toList)) /\
  zN s.data.toList=(if yd s[0] then qx s.data.toList else if jc s[0] then qw jc s.data.toList else if s[0]==39 then xM s.data.toList else yf s.data.toList):=by
 have e:=ce (l:=s.data.toList) (i:=0) (by rw[qr];exact h);rw[db,qy s 0 h]at e;constructor
 ·conv=>lhs;rw[e]
  conv=>rhs;rw[e]
  rfl
 ·conv=>lhs;rw[e]
  conv=>rhs;rw[e]
  rfl
theorem qtr(s:mu)(m:0<s.size)(r:s.size<=140737488355328)(w:World)(u:ErrOk w):
  nz 144 #[.string s] w λe w'=>e=.returned (.tuple #[tkV (qX s.data.toList) 0,.int .i64 (zN s.data.toList)])/\Xb w w':=by
 obtain⟨f,b⟩:=va7 s m;have x:s.size<=maxLen:=by unfold maxLen;omega
 have z:Hid (∀o,ErrOk (w.alloc o)):=qd λo=>u.alloc o
 clear u
 cases a:yd s[0] with
 | true=>
  rw[a,bh rfl]at f b;rw[f,b];have j:=qd a;clear a f b;go_enter func144,ntmps144
  go_wp2_with(first|(go_at_call 190;refine(vJ _ _).mono ?_;rintro e w'⟨rfl,rfl⟩;rw[show qa9 (s[0].toNat:Int)=true from q9 j])|(go_at_call 191;refine(vdk _ r _).mono ?_;rintro e w'⟨rfl,a⟩;obtain⟨g,t⟩:=qj a;have q:=a.size;simp only[tkV]))
  refine ak (by simp[go_sem,g];rfl) rfl ⟨?_, ?_⟩
  all_goals go_light
  ·rfl
  ·exact((((qV a).setCell mx _).setCell mx _).setCell mx _).setCell mx _
 | false=>
  rw[a,aj mx]at f b;have j:=qd a;clear a
  cases hd:jc s[0] with
  | true=>
   rw[hd,bh rfl]at f b;rw[f,b];have i:=qd hd;clear hd f b;go_enter func144,ntmps144
   go_wp2_with(first|(go_at_call 190;refine(vJ _ _).mono ?_;rintro e w'⟨rfl,rfl⟩;rw[show qa9 (s[0].toNat:Int)=false from q9 j])|(go_at_call 192;refine(jL _ _).mono ?_;rintro e w'⟨rfl,rfl⟩;rw[show qah (s[0].toNat:Int)=true from q9 i])|(go_at_call 193;refine(qqn _ m r i _ (z _)).mono ?_;rintro e w'⟨rfl,a⟩;obtain⟨g,t⟩:=qj a;have q:=a.size;simp only[tkV]))
   refine ak (by simp[go_sem,g];rfl) rfl ⟨?_, ?_⟩
   all_goals go_light
   ·rfl
   ·exact((((qV a).setCell mx _).setCell mx _).setCell mx _).setCell mx _
  | false=>
   rw[hd,aj mx]at f b;have i:=qd hd;clear hd
   cases hq:(s[0]==39) with
   | true=>
    rw[hq,bh rfl]at f b;rw[f,b];have y:((s[0].toNat:Int)==39)=true:=by rw[qy4];exact hq
    clear hq f b;go_enter func144,ntmps144
    go_wp2_with(first|(go_at_call 190;refine(vJ _ _).mono ?_;rintro e w'⟨rfl,rfl⟩;rw[show qa9 (s[0].toNat:Int)=false from q9 j])|(go_at_call 192;refine(jL _ _).mono ?_;rintro e w'⟨rfl,rfl⟩;rw[show qah (s[0].toNat:Int)=false from q9 i])|(go_at_call 194;refine(qqv _ m r _).mono ?_;rintro e w'⟨rfl,a⟩;obtain⟨g,t⟩:=qj a;have q:=a.size;simp only[tkV]))
    refine ak (by simp[go_sem,g];rfl) rfl ⟨?_, ?_⟩
    all_goals go_light
    ·rfl
    ·exact((((qV a).setCell mx _).setCell mx _).setCell mx _).setCell mx _
   | false=>
    rw[hq,aj mx]at f b;rw[f,b];have y:((s[0].toNat:Int)==39)=false:=by rw[qy4];exact hq
    clear hq f b;go_enter func144,ntmps144
    go_wp2_with(first|(go_at_call 190;refine(vJ _ _).mono ?_;rintro e w'⟨rfl,rfl⟩;rw[show qa9 (s[0].toNat:Int)=false from q9 j])|(go_at_call 192;refine(jL _ _).mono ?_;rintro e w'⟨rfl,rfl⟩;rw[show qah (s[0].toNat:Int)=false from q9 i])|(go_at_call 195;refine(vay _ m x _).mono ?_;rintro e w'⟨rfl,a⟩;obtain⟨g,t⟩:=qj a;have q:=a.size;simp only[tkV]))
    refine ak (by simp[go_sem,g];rfl) rfl ⟨?_, ?_⟩
    all_goals go_light
    ·rfl
    ·exact((((qV a).setCell mx _).setCell mx _).setCell mx _).setCell mx _
def qN(l:List UInt8)(k:Nat):Nat:=k+qw spU (l.drop k)
def qJ(l:List UInt8)(k:Nat):Tk:=if qN l k<l.length then qX (l.drop (qN l k)) else qh 0
def qZ(l:List UInt8)(k:Nat):Nat:=if qN l k<l.length then qN l k+zN (l.drop (qN l k)) else l.length
theorem qhc(l:mv)(k:Nat)(h:k<=l.length):qN l k<=l.length:=by
 have:=kC spU (l.drop k);rw[dc]at this;unfold qN;omega
theorem quv(l:mv)(h:0<l.length):yf l<=l.length:=by
 unfold yf;split
 ·simp at h
 ·simp
 ·split<;>simp
theorem vbu:∀(n:Nat) (l:mv),l.length<=n->∀r,ve l=some r->r.2<=l.length:=by
 intro n
 induction n with
 | zero=>
  intro l a r h;have:l=[]:=cq mw;subst this;simp[ve]at h
 | succ n ih=>
  intro l a r h
  match l,a,h with
  | [],_,h=>simp[ve]at h
  | [c],_,h=>
   simp only[ve]at h
   split at h
   ·simp at h;subst h;simp
   ·simp at h
  | c::d::t,a,h=>
   simp only[ve]at h;simp only[eh]at a
   split at h
   ·split at h
    ·cases hq:ve t with
     | none=>rw[hq]at h;simp at h
     | some q=>
      rw[hq]at h;simp at h;subst h;have:=ih t mw q hq;simp;omega
    ·simp at h;subst h;simp
   ·cases hq:ve (d::t) with
    | none=>rw[hq]at h;simp at h
    | some q=>
     rw[hq]at h;simp at h;subst h;have:=ih (d::t) my q hq;simp at this ⊢;omega
theorem vbv(l:mv)(h:0<l.length):xM l<=l.length:=by
 unfold xM;split
 ·rename_i r a
  have:=vbu _ (l.drop 1) nt r a;rw[dc]at this;omega
 ·exact nt
theorem qgv(l:mv)(h:0<l.length):zN l<=l.length:=by
 cases l with
 | nil=>simp at h
 | cons c t=>
  simp only[zN]
  split
  ·exact zF _
  ·split
   ·exact kC _ _
   ·split
    ·exact vbv _ h
    ·exact quv _ h
theorem qbw(l:mv)(k:Nat):qZ l k<=l.length:=by
 unfold qZ;split
 ·have:=qgv (l.drop (qN l k)) (by rw[dc];omega)
  rw[dc]at this;omega
 ·exact nt
theorem qp2{t:Tk}{p b z a:Int}(f:p=b)(e:z=a):
  Ending.returned (.tuple #[.agg #[.int .i64 t.kind,.int .i64 p,.int .i64 t.num,.string (BS t.str)],.int .i64 z])=.returned (.tuple #[tkV t b,.int .i64 a]):=by
 rw[f,e];rfl
theorem vb3(s:mu)(Q:s.size<=140737488355328)(f:Nat)(I:f<=s.size)(w:World)(E:ErrOk w):
  nz 100 #[.string s,.int .i64 f] w λe w'=>e=.returned (.tuple #[tkV (qJ s.data.toList f) (qN s.data.toList f),.int .i64 (qZ s.data.toList f)])/\Xb w w':=by
 have G:=qr s;have K:=qhc s.data.toList f mw;have N:Hid (∀o,ErrOk (w.alloc o)):=qd λo=>E.alloc o
 clear E;obtain⟨A,g⟩:∃a,qN s.data.toList f=a:=⟨_,rfl⟩;have y:qJ s.data.toList f=if A<s.data.toList.length then qX (s.data.toList.drop A) else qh 0:=by rw[←g];rfl
 have x:qZ s.data.toList f=if A<s.data.toList.length then A+zN (s.data.toList.drop A) else s.data.toList.length:=by rw[←g];rfl
 obtain⟨T,C⟩:∃t,qJ s.data.toList f=t:=⟨_,rfl⟩;obtain⟨Z,z⟩:∃t,qZ s.data.toList f=t:=⟨_,rfl⟩;rw[C]at y;rw[z]at x;rw[g]at K;rw[g,C,z];have O:Hid (A=f+qw spU (s.data.toList.drop f)):=qd (by rw[←g];rfl);have r:=qd y;have q:=qd x;clear y x C z g;go_enter func100,ntmps100
 go_wp2_with fail
 go_loop [6] (λi=>∃k:Nat,f<=k/\k<=s.size/\i=.int .i64 k/\Hid (A=qw spU (s.data.toList.drop k)+k)) (λi=>s.size - (intOf i).toNat)
 case atStart=>exact⟨f,nt,I,rfl,qd (by rw[Nat.add_comm];exact q9 O)⟩
 case round=>
  obtain⟨k,S,R,rfl,m⟩:=hrel
  have more:∀j:k<s.size,spU s[k]=true->Hid (A=qw spU (s.data.toList.drop (k+1))+(k+1)):=λj b=>qd (by
   have:=vr spU s.data.toList k mw b;rw[q9 m,this];omega)
  have done1:∀j:k<s.size,spU s[k]=false->A=k:=λj b=>by
   have:=vH spU s.data.toList k mw b;rw[q9 m,this];omega
  have done2:¬k<s.size->A=k:=λj=>by
   have:=vN spU s.data.toList k mw;rw[q9 m,this];omega
  clear m
  by_cases j:k<s.size
  ·cases b:spU s[k] with
   | true=>
    have M:=more j b;have B:=qd b;clear more done1 done2 b
    go_wp2_with(go_at_call 143;refine(qbn _ _).mono ?_;rintro e w'⟨rfl,rfl⟩;rw[show spB (s[k].toNat:Int)=true from q9 B])
    go_round
    case rel=>exact⟨k+1,mw,mw,by go_num,M⟩
    case measure=>simp[intOf];omega
   | false=>
    have g:=done1 j b;have B:=qd b;clear more done1 done2 b;subst g;rw[bh mw]at r q;have D:(s.extract A s.size).data.toList=s.data.toList.drop A:=Lib.extract_to_end s A;have P:=qgv (s.data.toList.drop A) (by rw[dc];omega);rw[dc,G]at P;have L:=qd D;clear D
    go_wp2_with(first|(go_at_call 143;refine(qbn _ _).mono ?_;rintro e w'⟨rfl,rfl⟩;rw[show spB (s[A].toNat:Int)=false from q9 B])|(go_at_call 144;refine(qtr _ my my _ (N _)).mono ?_;rintro e w'⟨rfl,u⟩;obtain⟨J,H⟩:=qj u;have F:w.heap.size<w'.heap.size:=(by have:=u.size;simp at this;omega);rw[q9 L];simp only[tkV]))
    refine ak (by simp[go_sem,J,F];rfl) rfl ⟨?_, ?_⟩
    all_goals go_light
    ·rw[q9 r,q9 q];exact qp2 rfl mw
    ·exact(((((qV u).setCell mx _).setCell mx _).setCell mx _).setCell mx _).alloc my _
  ·have g:=done2 j
   clear more done1 done2;subst g;rw[aj mw]at r q
   go_wp2_with fail
   refine nx ⟨?_, ?_⟩
   all_goals go_light
   ·rw[q9 r,q9 q];exact qp2 (t:=qh 0) mw mw
   ·exact(nw).alloc nt _
def yp(l:List UInt8):Bool:=decide (0<qx l)&&decide (qx l=l.length)&&(xI l==2)
theorem qke(h:qx l=l.length):∀c∈l,c.toNat<128:=by
 have:=qdu l;rw[h,fk]at this;exact this
theorem qqd(s:mu)(m:s.size<=140737488355328)(w:World):
  nz 105 #[.string s] w λe w'=>e=.returned (.bool (yp s.data.toList))/\Xb w w':=by
 have b:s.size<=maxLen:=by unfold maxLen;omega
 have o:=qr s;have i:yp s.data.toList=(decide (0<qx s.data.toList)&&decide (qx s.data.toList=s.size)&&(xI s.data.toList==2)):=by unfold yp;rw[o]
 have a:=λh=>qke (l:=s.data.toList) h
 rw[i];generalize hz:qx s.data.toList=z at *;generalize hk:xI s.data.toList=k at *;have f:=qd hz;have q:=qd hk;clear hz hk i
 by_cases h0:0<z
 ·by_cases h1:z=s.size
  ·have r:=qd (a mw)
   have j:((z:Int)==(s.size:Int))=true:=dg.2 mw;have g:=qd h1;clear a h1;go_enter func105,ntmps105
   go_wp2_with(first|(go_at_call 150;refine(xf _ b _).mono ?_;rintro e w'⟨rfl,rfl⟩;rw[q9 f])|(go_at_call 151;refine(kI _ m r _).mono ?_;rintro e w'⟨rfl,t⟩;rw[q9 q]))
   all_goals(go_ret;exact⟨qR (by have:=q9 g;simp_all),by assumption⟩)
  ·have j:((z:Int)==(s.size:Int))=false:=ae.2 mw
   have g:=qd h1;clear a h1;go_enter func105,ntmps105
   go_wp2_with(first|(go_at_call 150;refine(xf _ b _).mono ?_;rintro e w'⟨rfl,rfl⟩;rw[q9 f]))
   go_ret;exact⟨qR (by have:=q9 g;simp[this]),nw⟩
 ·clear a
  go_enter func105,ntmps105
  go_wp2_with(first|(go_at_call 150;refine(xf _ b _).mono ?_;rintro e w'⟨rfl,rfl⟩;rw[q9 f]))
  go_ret;exact⟨qR my,nw⟩
def dig(n:Nat):UInt8:=UInt8.ofNat (48+n % 10)
def qbd(n:Nat):List UInt8:=if n<10 then[dig n] else qbd (n / 10)++[dig n]
termination_by n
theorem kM(h:n<10):qbd n=[dig n]:=by rw[qbd,bh h]
theorem gT(h:¬n<10):qbd n=qbd (n / 10)++[dig n]:=by rw[qbd,aj h]
theorem qjo(n:Nat):(dig n).toNat=48+n % 10:=by
 unfold dig;rw[fu];omega
theorem jE(a b:mv):BS a++BS b=BS (a++b):=by
 apply ByteArray.ext;show(BS a++BS b).data=_;rw[ByteArray.data_append];simp[BS]
theorem j8(c:Int)(w:World):nz 181 #[.int .u8 c] w λe w'=>e=.returned (.bool (qa9 c))/\w'=w:=by
 unfold qa9;go_enter func181,ntmps181
 go_wp2
 all_goals(go_ret;exact⟨qR nj,rfl⟩)
theorem yt(c:Int)(w:World):nz 230 #[.int .u8 c] w λe w'=>e=.returned (.bool (qah c))/\w'=w:=by
 unfold qah;go_enter func230,ntmps230
 go_wp2
 all_goals(go_ret;exact⟨qR nj,rfl⟩)
theorem qhv(s:mu)(w:World):nz 232 #[.string s] w λe w'=>e=.returned (.bool (kwK s.data.toList != 2))/\w'=w:=by
 go_enter func232,ntmps232
 go_wp2_with fail
 all_goals
  go_ret;refine⟨?_,rfl⟩;simp only[ei]at *
  first
  | (rename_i f b;rw[f]at b;cases b;done)
  | (have a:(kwK s.data.toList != 2)=true:=(by simp only[kwK, *,if_true,cu,if_false];rfl);rw[a];rfl)
  | (have a:(kwK s.data.toList != 2)=false:=(by simp only[kwK, *,cu,if_false];rfl);rw[a];rfl)
theorem qmy(c:UInt8)(w:World):(convert 51 9 (.slice (some ⟨w.heap.size,0,none⟩) 1 1)).run prog (w.alloc (.cells #[.int .u8 (c.toNat:Int)] 5))=.ok (.string (BS [c])) (w.alloc (.cells #[.int .u8 (c.toNat:Int)] 5)):=by
 refine run_convert_bytes_back (P:=prog) _ 51 9 5 ⟨w.heap.size,0,none⟩ 1 [c] underlying51 underlying5 underlying9 ?_;intro j a;obtain rfl:j=0:=by simp at a;omega
 show(w.alloc _).cell? ⟨w.heap.size,0,none⟩=some (.int .u8 (c.toNat:Int));rw[cd _ _ _ _ rfl];rfl
theorem qy5(h:97<=c.toNat/\c.toNat<=122):((Lib.upperB c).toNat:Int)=(c.toNat:Int) - 32:=by
 have e:Lib.isLowerB c=true:=by
  unfold Lib.isLowerB;simp only[cn,du,UInt8.le_iff_toNat_le];exact h
 unfold Lib.upperB;rw[bh e,UInt8.toNat_sub_of_le _ _ (by rw[UInt8.le_iff_toNat_le];show 32<=c.toNat;omega)];show((c.toNat - 32:Nat):Int)=_;omega
theorem qy6(h:¬(97<=c.toNat/\c.toNat<=122)):Lib.upperB c=c:=by
 have e:¬Lib.isLowerB c=true:=by
  unfold Lib.isLowerB;simp only[cn,du,UInt8.le_iff_toNat_le];exact h
 unfold Lib.upperB;rw[aj e]
theorem qry{s:mu}(h:k<s.size):Lib.toUpperA (s.data.toList.take (k+1))=Lib.toUpperA (s.data.toList.take k)++[Lib.upperB s[k]]:=by
 unfold Lib.toUpperA;rw[dn,dt,ag (by rw[qr];exact h),qy s k h];rfl
theorem vc1(s:mu)(t:s.size<=1000)(w:World):nz 231 #[.string s] w λe w'=>e=.returned (.string (BS (Lib.toUpperA s.data.toList)))/\Xb w w':=by
 have r:=qd (Below.refl w.heap.size w);go_enter func231,ntmps231
 go_wp2_with fail
 go_loopw [3,4] (λo i wr=>∃k:Nat,k<=s.size/\i=.int .i64 k/\o=.string (BS (Lib.toUpperA (s.data.toList.take k)))/\Hid (Xb w wr)) (λ_ i _=>s.size - (intOf i).toNat)
 case atStart=>exact⟨0,bj _,rfl,rfl,r⟩
 case round=>
  obtain⟨k,u,rfl,rfl,B⟩:=hrel
  by_cases A0:k<s.size
  ·have f:=qry A0
   have b:∀w:World,(Op.stringOp .add (BS (Lib.toUpperA (s.data.toList.take k))) (BS [Lib.upperB s[k]])).run prog w=.ok (.string (BS (Lib.toUpperA (s.data.toList.take (k+1))))) w:=λw=>by
    rw[f,←jE];exact run_string_add_sum (P:=prog) (w:=w) _ _ (by rw[qG,qG];simp[Lib.toUpperA];omega)
   generalize BS (Lib.toUpperA (s.data.toList.take k))=O1 at b ⊢;generalize AP:BS (Lib.toUpperA (s.data.toList.take (k+1)))=O2 at b;have a:=qd AP;have g:=qmy (Lib.upperB s[k]);have y:(0:Int)<=(s[k].toNat:Int):=mw;have z:(s[k].toNat:Int)<256:=by have:=s[k].toNat_lt;omega
   clear f AP
   by_cases hl:97<=s[k].toNat/\s[k].toNat<=122
   ·rw[qy5 hl]at g
    have q:(97:Int)<=(s[k].toNat:Int):=mw;have x:(s[k].toNat:Int)<=122:=mw
    go_wp2_with fail
    exact⟨⟨k+1,mw,rfl,by rw[q9 a],qd (qf B (nw.alloc nt _))⟩,by simp[intOf];omega⟩
   ·rw[qy6 hl]at g b
    by_cases q:97<=s[k].toNat
    ·have j:(97:Int)<=(s[k].toNat:Int):=mw
     have m:¬(s[k].toNat:Int)<=122:=mw
     go_wp2_with fail
     exact⟨⟨k+1,mw,rfl,by rw[q9 a],qd (qf B (nw.alloc nt _))⟩,by simp[intOf];omega⟩
    ·have j:¬(97:Int)<=(s[k].toNat:Int):=mw
     go_wp2_with fail
     exact⟨⟨k+1,mw,rfl,by rw[q9 a],qd (qf B (nw.alloc nt _))⟩,by simp[intOf];omega⟩
  ·obtain rfl:k=s.size:=mw
   rw[ez (by rw[qr];exact nt)]
   go_wp2_with fail
   go_ret;exact⟨rfl,q9 B⟩
end Go.Proofs.YtfkcaldjphakpaaGreatDoor
