/- The document's answer -/
import Derived.Test.YtfkcaldjphakpaaGreatDoorM29
import Derived.Test.YtfkcaldjphakpaaGreatDoorM27
set_option maxHeartbeats 16000000
set_option maxRecDepth 100000
namespace Go.Proofs.YtfkcaldjphakpaaGreatDoor
open Go.RowKit Go.Proofs.Tryz
variable{ss:List mv}{hs:List (Nat×Nat)}{ps:List Pr}{j:Nat}{R:Nat->Prop}{x:Ox}{hv:Value}{W Y w:World}
section
attribute [local go_sem ↓] jt
abbrev vAr(x:V):Array Value:=#[.int .i64 x.kind,.int .i64 x.num,.string (BS x.str)]
def qkd(ps:List Pr)(ss:List (List UInt8)):Nat->List Nat
 | 0=>[]
 | k+1=>qkd ps ss k++(if(pS (BS (ss.getD k [])) ps).val=bV true then[k] else[])
theorem qnd(ps:List Pr)(ss:List mv)(k:Nat):(qkd ps ss k).length<=k:=by
 induction k with
 | zero=>exact nt
 | succ k ih=>rw[qkd,bu];split<;>simp<;>omega
theorem vcb{a:Option Addr}{cap:Nat}{ev:Value}(h:TxIn w a ss)(S:ss.length<=8)(t:EvIn w ev ps)(J:EvGood ps)(I:∀s∈ss,(pS (BS s) ps).errno=0):
  nz 86 #[.slice a ss.length cap,ev] w λe w'=>∃v,e=.returned v/\IsAt w' w.heap.size v (qkd ps ss ss.length)/\Xb w w':=by
 have H:=qd h;have HE:=qd t;have HZ:=qd I;have HG:=qd J;obtain⟨n,q⟩:∃n,ss.length=n:=⟨_,rfl⟩;rw[q]at S ⊢;have HN:=qd q;obtain⟨ea,en,ec,rfl⟩:=t.slice;clear h q t I J;go_enter func86,ntmps86
 go_wp2_with fail
 go_loopw [5,6] (λv i wr=>∃k:Nat,k<=n/\i=.int .i64 k/\Hid (Xb w wr)/\Hid (IsAt wr w.heap.size v (qkd ps ss k))) (λ_ i _=>n - (intOf i).toNat)
 case atStart=>exact⟨0,bj _,rfl,qd nw,qd (IsAt.nil _ _)⟩
 case round=>
  obtain⟨k,hk,rfl,c,P⟩:=hrel;have EK:=(q9 c).size
  by_cases A0:k<n
  ·obtain⟨s,hs⟩:∃s,ss[k]?=some s:=⟨_,ag (by have:=q9 HN;omega)⟩
   obtain⟨T,E,D,rfl,EW,F⟩:=q9 H k s hs;have d0:Xc wr E (D+k) (.string (BS s)):=(c.cell (p:=⟨E,D+k,none⟩) EW).trans F;have N5:(0:Int)<=(k:Int):=mw;have A5:(k:Int)<(n:Int):=mw;have RE:=qd (qw6 (BS s) (by rw[qG];exact T) ps _ wr (HE.below c) HG);have g:qkd ps ss (k+1)=qkd ps ss k++(if(pS (BS s) ps).val=bV true then[k] else[]):=by rw[qkd,aq,hs];rfl
   rw[q9 HZ s (ch hs)]at RE;obtain⟨x,o⟩:∃x,(pS (BS s) ps).val=x:=⟨_,rfl⟩;obtain⟨pl,L⟩:∃x,(pS (BS s) ps).place=x:=⟨_,rfl⟩;rw[o,L]at RE;rw[o]at g;have EA:=qd (qnd ps ss k);have r:=λw=>qgp x (bV true) w
   simp only[vV]at r RE;clear o L hs F
   by_cases hb:x=bV true
   all_goals
    first
     | (have hd:decide (x=bV true)=true:=de hb;rw[bh hb]at g;simp only[hd]at r)
     | (have hd:decide (x=bV true)=false:=cw hb;rw[aj hb,ew]at g;simp only[hd]at r)
    have O:=qd g;clear hb hd g
    go_wp2_with(go_at_call 77;refine RE.mono ?_;rintro e f⟨rfl,y⟩;have C9:=qd (y.alloc y.size (.cells (vAr x) 26)).drew;have z:∀i,(f.alloc (.cells (vAr x) 26)).cell? ⟨f.heap.size,i,none⟩=(vAr x)[i]?:=(λi=>mx);clear y)
    go_region_held3 (λW=>∀i,W.cell? ⟨f.heap.size,i,none⟩=(vAr x)[i]?) (first|with_reducible assumption|exact z) ((go_at_call 132;refine(vM _ _).mono ?_;rintro e Q⟨rfl,u⟩;have uB:∀i,Q.cell? ⟨f.heap.size,i,none⟩=(vAr x)[i]?:=(λi=>((qj u).1 _ i (by show _<(f.alloc _).heap.size;simp)).trans (z i));have m:=qd (qf C9 u);have K:=qd (P.below m nt);obtain⟨g5,M9,w5,R9,BR,Z⟩:=IsAt.app K (by have:=(q9 m).size;omega) k (by have:=q9 EA;omega) 52;have X:=qd (qf c m);clear u;simp only[vV]))
    go_wp2_with fail
    go_roundw
    case rel=>first|exact⟨k+1,mw,by go_num,qd (X.trans Z),qd (by rw[q9 O];exact q9 BR)⟩|exact⟨k+1,mw,by go_num,qd (qf c m),qd (by rw[q9 O];exact q9 K)⟩
    case measure=>simp[intOf];omega
  ·have:k=n:=mw
   subst this
   go_wp2_with fail
   go_ret;exact⟨_,rfl,q9 P,q9 c⟩
end
section
theorem qu9:(prog.info? 5).map (λi=>(i.zero,i.size,i.bytes))=some (some (.int .u8 0),1,1):=nl
def SpR(W:World)(base b:Nat)(l:List UInt8):Prop:=W.ownsRow base 5 1 (.slice (some ⟨b,0,none⟩) (l.length+8) (l.length+8)) (l.length+8) (vd l++List.replicate 8 (.int .u8 0))
theorem qpt{a off c base b:Nat}{l:mv}{ty:TypeId}(hs:∀j x,l[j]?=some x->Xc W a (off+j) (.int .u8 (x.toNat:Int)))(Q:W.ownsRow base 5 1 (.slice (some ⟨b,0,none⟩) (l.length+8) (l.length+8)) (l.length+8) (madeCells #[.int .u8 0] ((l.length+8) * 1)).toList):
  ∃W',(cpR #[51,51] ty #[.slice (some ⟨b,0,none⟩) (l.length+8) (l.length+8),.slice (some ⟨a,off,none⟩) l.length c]).run prog W=.ok (goInt l.length) W'/\Hid (SpR W' base b l)/\Hid (Below base W W'):=by
 obtain⟨T,D,F2,O,D8⟩:=info_parts qu9;have K:(prog.info? 5).map (·.size)=some 1:=by rw[D];simp[O]
 obtain⟨S,y|⟨g,cap,cur,e,L,r,I,z,q,t⟩⟩:=Q
 ·cases y.1
 injection e with f Z H;injection f with f;injection f with f;subst f H;have m:(vd l).length=l.length:=by simp[vd]
 have o:Nat.min l.length (l.length+8)=l.length:=me mw
 have n:=pq (P:=prog) W 51 51 ty 5 b 0 (l.length+8) (l.length+8) ⟨a,off,none⟩ l.length c cur 5 (vd l) 1 underlying51 K r (by rw[o,m];omega) (λj v hv=>by
   rw[vd,dd]at hv
   cases hu:l[j]? with
   | none=>rw[hu]at hv;cases hv
   | some u=>
    rw[hu]at hv;injection hv with hv
    rw[show(⟨a,off,none⟩:Addr).add j=⟨a,off+j,none⟩ by simp[Addr.add],hs j u hu,←hv]) (by rw[m,q];omega) (λv hv=>by
   obtain⟨p,_,rfl⟩:=fw.1 hv
   rfl)
 rw[o]at n
 have J:cur.toList=List.replicate (l.length+8) (.int .u8 0):=by
  have F:cur.toList.take ((l.length+8) * 1)=cur.toList:=ez (by rw[Array.length_toList,q];exact nt);rw[←F,t];refine List.ext_getElem? λi=>?_
  rw[List.getElem?_replicate];simp[madeCells,Nat.mod_one]
  split<;>simp_all
 have E:cur.toList.take 0++vd l++cur.toList.drop (0+(vd l).length)=vd l++List.replicate 8 (.int .u8 0):=by
  rw[J,m,List.take_zero,ej,ee,List.drop_replicate,mj]
 rw[E]at n;have s:(vd l++List.replicate 8 (Value.int .u8 0)).length=l.length+8:=by rw[bu,m,lj]
 refine⟨_,n,qd ⟨by rw[s];omega,.inr ⟨b,_,_,rfl,L,setRow_heap W b cur _ _ _ r,I,z,by simpa using s, ?_⟩⟩,qd ⟨rfl,rfl,rfl,by simp[World.setRow],λk X=>setRow_other W b k _ mw⟩⟩;exact ez (by simp[m])
section
variable {W W':World} {base b:Nat} {l:mv}
theorem SpR.lt(h:SpR W base b l):b<W.heap.size:=(World.ownsRow.lt h b rfl).2
theorem SpR.below(h:SpR W base b l)(a:Xb W W'):SpR W' base b l:=qq h a nt
theorem SpR.byte(h:SpR W base b l){x:UInt8}(a:l[j]?=some x):W.cell? ⟨b,j,none⟩=some (.int .u8 (x.toNat:Int)):=by
 have c:=(au.1 a).1;rw[World.ownsRow.cellAt h j mw,bw (by simp[vd];omega),vd,dd,a];rfl
theorem SpR.zero(h:SpR W base b l)(c:l.length<=j)(a:j<l.length+8):W.cell? ⟨b,j,none⟩=some (.int .u8 0):=by
 rw[World.ownsRow.cellAt h j mw,cj (by simp[vd];omega),List.getElem?_replicate,bh (by simp[vd];omega)]
theorem SpR.bytes(h:SpR W base b l):BytesAt W W.heap.size (.slice (some ⟨b,0,none⟩) l.length (l.length+8)) l:=
 ⟨_,_,rfl,mw,λi x a=>⟨b,0,rfl,h.lt,by rw[ee];exact h.byte a⟩⟩
end
end
section
attribute [local go_sem ↓] gS
theorem qul(l:List Nat)(q o:Value)(I H:Nat)(w:World)(t:IsAt w I q l)(s:IsAt w H o l)(E:l.length<=8):
  nz 87 #[q,o] w λe w'=>e=.returned (.bool true)/\Xb w w':=by
 obtain⟨X,S,rfl,y⟩:=t.cells;obtain⟨T,Q,rfl,u⟩:=s.cells;have O:=qd y;have L:=qd u;clear y u t s;obtain⟨n,f⟩:∃n,l.length=n:=⟨_,rfl⟩;rw[f]at E ⊢;have K:=qd f;clear f;go_enter func87,ntmps87
 go_wp2_with fail
 go_loopw [5] (λi wr=>∃k:Nat,k<=n/\i=.int .i64 k/\Hid (Xb w wr)) (λi _=>n - (intOf i).toNat)
 case atStart=>exact⟨0,bj _,rfl,qd nw⟩
 case round=>
  obtain⟨k,P,rfl,a⟩:=hrel
  by_cases A0:k<n
  ·obtain⟨x,c⟩:∃x,l[k]?=some x:=⟨_,ag (by have:=q9 K;omega)⟩
   obtain⟨g,rfl,glt,r⟩:=q9 O k x c;obtain⟨F,rfl,glt',z⟩:=q9 L k x c;obtain⟨m,D⟩:=qj a;replace r:=(m g k glt).trans r;rw[←m F k glt']at z;have Z:(0:Int)<=(k:Int):=mw;have A5:(k:Int)<(n:Int):=mw;have J:=qd a.drew;clear m D c
   go_wp2_with fail
   go_quiet (fail)
   go_wp2_with fail
   exact⟨⟨k+1,mw,rfl,qd (dr a _)⟩,by simp[intOf];omega⟩
  ·have:k=n:=mw
   subst this
   go_wp2_with fail
   go_ret;exact⟨rfl,q9 a⟩
theorem qgi(h:(qcu ss).1=0):∀s∈ss,∃t,vj (BS s)=.ok t:=by
 have key:∀f k,k+f<=ss.length->(pJ ss f k).1=0->∀j s,k<=j->j<k+f->ss[j]?=some s->∃t,vj (BS s)=.ok t:=by
  intro f
  induction f with
  | zero=>intro k _ _ j s n m;omega
  | succ f ih=>
   intro k q c j s n m hs;rw[pJ]at c
   cases a:km ss k with
   | some e=>
    rw[a]at c;have c:e=0:=c;have:=qgh ss (f+1) k (by rw[pJ,a];exact c);rw[pJ,a]at this;injection this with _ i;subst i;exfalso;unfold km at a
    cases hu:ss[0]? with
    | none=>rw[hu]at a;cases a
    | some u=>
     rw[hu]at a;simp only at a
     cases hr:vj (BS u) with
     | err en pl=>rw[hr]at a;injection a with a;have:=vw hr;omega
     | ok t=>
      rw[hr]at a;simp only at a
      split at a
      ·injection a with a;omega
      ·cases a
   | none=>
    rw[a]at c
    by_cases e:j=k
    ·subst e
     unfold km at a;rw[hs]at a;simp only at a
     cases hr:vj (BS s) with
     | err en pl=>rw[hr]at a;cases a
     | ok t=>exact⟨t,rfl⟩
    ·exact ih (k+1) mw c j s mw mw hs
 intro s hs;obtain⟨j,g⟩:=dy hs;have o:=(au.1 g).1;unfold qcu at h
 by_cases h8:8<ss.length
 ·rw[bh h8]at h;exact absurd h (by show(8:Int)≠0;decide)
 ·rw[aj h8]at h
  exact key _ 0 mw h j s (bj _) mw g
theorem qzn{s:mu}{t:Ast}(h:vj s=.ok t):∃k,qv t=.ok k:=by
 unfold vj at h
 by_cases hs:s.size<=200
 ·rw[bh hs]at h
  cases he:(lvl s 12).E (qg s st0) with
  | err en pl=>rw[he]at h;cases h
  | ok u st=>
   rw[he]at h
   change qju u st=_ at h
   unfold qju at h
   split at h
   ·split at h
    ·rename_i a
     injection h with h;subst h
     cases hc:qv u with
     | err q=>rw[hc]at a;cases a
     | ok c=>exact⟨c,rfl⟩
    ·cases h
   ·cases h
 ·rw[aj hs]at h;cases h
theorem qwz(h:(qcu ss).1=0)(ps:List Pr):qww (jV (jw (ss.map coS) ss.length).1 (jw (ss.map coS) ss.length).2) ps=if xK ps then(qkd ps ss ss.length,0) else([],7):=by
 obtain⟨n,⟨E,m⟩,o⟩:=qjc h;have g:=qgi h;have e:(ss.map coS).length=ss.length:=ep _
 have i:∀c∈ss.map coS,CoreOk c/\y7 c:=λc f=>by
  obtain⟨s,hs,rfl⟩:=fw.1 f;obtain⟨t,a⟩:=g s hs;rw[qmx a];exact⟨qjg a,gQ t (yQ a).1⟩
 have:=qwy ps i (by rw[e];exact n) (by rw[e,m.len];exact o);rw[e]at this;rw[this]
 cases he:xK ps with
 | false=>rfl
 | true=>
  rw[bh rfl,bh rfl]
  have key:∀k,k<=ss.length->qmf ps (ss.map coS) k=qkd ps ss k:=by
   intro k
   induction k with
   | zero=>intro _;rfl
   | succ k ih=>
    intro q;have hs:ss[k]?=some ss[k]:=ag mw;obtain⟨t,a⟩:=g ss[k] (eu _);obtain⟨c,f⟩:=qzn a;rw[qmf,qkd,ih mw,aq,dd,aq,hs];show _++(if vC ps (coS ss[k])=_ then _ else _)=_++(if(pS (BS ss[k]) ps).val=_ then _ else _);rw[qmx a,(qpv t (yQ a).1 c f).2 ps he,pS,a];simp only[he,if_true]
  rw[key _ nt]
theorem qtn(h:(qcu ss).1=0)(c:xK ps=true):∀s∈ss,(pS (BS s) ps).errno=0:=λs hs=>by
 obtain⟨t,a⟩:=qgi h s hs;rw[pS,a];simp only[c,if_true]
end
section
attribute [local go_sem ↓] gS
theorem qsz(ts:List Tm)(a:List Nat):2<=(jV ts a).length:=by
 unfold jV;rw[qgo _ _ _ nt,qgn _ _ _ nt];simp
theorem HsR.more(h:HsR w R W hv hs)(f:Xb W Y):HsR w (λk=>R k\/W.heap.size<=k) Y hv hs:=
 ⟨h.at'.below f,λx g=>((h.each x g).keep (λ_ _ _=>rfl) (λb c i=>⟨c.1,λe=>e.elim c.2 (Nat.not_le.2 i)⟩)).below f,λk a e=>e.elim (h.hf k a) (Nat.not_le.2 (by
  rcases a with a|a
  ·exact(h.at'.row.lt k a).2
  ·have:=h.at'.lt;omega))⟩
theorem qek{R':Nat->Prop}{nn bn:Nat}{nv bv:Value}{nxs bxs:List Value}(h:HsR w R W hv hs)(z:∀k,R' k->R k)(o:∀k,R' k->k<W.heap.size)(r:W.ownsRow (w.heap.size+1) 3 1 nv nn nxs)(q:W.ownsRow (w.heap.size+1) 5 1 bv bn bxs)(m:∀k,nv.ownBlock=some k\/bv.ownBlock=some k->R k/\¬R' k)(g:Y=W.alloc (.cells #[nv,bv,.int .i64 0] 146))(u:hs.length<=19300000000000)(s:nn<=100000000)(t:bn<=100000000):
  nz 84 #[.pointer (some ⟨w.heap.size,0,none⟩),.pointer (some ⟨W.heap.size,0,none⟩)] Y λe W'=>e=.returned (.tuple #[])/\∃hv' f,HsR w R' W' hv' f/\f.length=hs.length+4/\(∀k,R' k->W'.heap[k]?=W.heap[k]?)/\W.heap.size<=W'.heap.size:=by
 have P:=h.at'.lt;have n:Xb W Y:=g ▸ nw.alloc nt _
 have L:Y.heap.size=W.heap.size+1:=by rw[g];simp
 have D:FmAt (w.heap.size+1) Y W.heap.size 0 nv bv nn bn nxs bxs:=⟨mw,⟨_,by rw[g];exact heap_alloc_new W _⟩,by rw[g];simp,by rw[g];simp,by rw[g];simp,λi=>by rw[g];simp,qq r n nt,qq q n nt,λe=>by have:=(r.lt _ e).2;omega,λe=>by have:=(q.lt _ e).2;omega,λk K J=>by
  obtain⟨c,y⟩:=zo r K;obtain⟨d,hd⟩:=zo q J
  exact absurd (qao y hd) nh⟩
 refine(vjc (R:=R') (h.more n) (λk a=>.inl (z k a)) (λk a=>by have:=o k a;omega) D (λk a=>?_) u s t).mono λe W' ⟨I,hv',f,H,F,E,O⟩=>⟨I,hv',f,H,F,λk a=>(E k a).trans (n.block k (o k a)),mw⟩
 rcases a with a|a|a
 ·exact⟨.inl (m k (.inl a)).1,(m k (.inl a)).2⟩
 ·exact⟨.inl (m k (.inr a)).1,(m k (.inr a)).2⟩
 ·exact⟨.inr mw,λe=>by have:=o k e;omega⟩
section
variable {w W U Y:World} {hv cv iv gv:Value} {hs:List (Nat×Nat)} {N M G A B C:Nat} {cxs ixs gxs:List Value}
def viq(w:World)(hs:List (Nat×Nat))(j:Nat)(gv:Value)(G:Nat)(gxs:List Value)(R:Nat->Prop)(W:World):Prop:=∃hv' hs',HsR w (λk=>R k\/gv.ownBlock=some k) W hv' hs'/\hs'.length=hs.length+j/\W.ownsRow (w.heap.size+1) 3 1 gv G gxs
theorem vjb(h:HsAt w W hv hs)(s:Xb W U)(m:U.ownsRow A 5 1 cv N cxs)(i:U.ownsRow B 5 1 iv M ixs)(f:U.ownsRow C 3 1 gv G gxs)(z:W.heap.size<=A)(y:W.heap.size<=B)(u:W.heap.size<=C)(hd:∀k,cv.ownBlock=some k->iv.ownBlock≠some k)(r:Y=U.alloc (.cells #[.slice none 0 0,cv,.int .i64 0] 146))(H:hs.length<=19200000000000)(t:N<=100000000):
  nz 84 #[.pointer (some ⟨w.heap.size,0,none⟩),.pointer (some ⟨U.heap.size,0,none⟩)] Y λe W'=>e=.returned (.tuple #[])/\viq w hs 4 gv G gxs (λk=>iv.ownBlock=some k) W'/\W'.ownsRow (w.heap.size+1) 5 1 iv M ixs:=by
 have I:=h.lt;refine(qek (R':=λk=>iv.ownBlock=some k\/gv.ownBlock=some k) (nn:=0) (nv:=.slice none 0 0) (HsR.of h s) (λk a=>?_) (λk a=>?_) (ed _ _ _ _) (kz m mw) (λk a=>?_) r mw (bj _) t).mono λe W' ⟨F,hv',g,E,D,n,_⟩=>⟨F,⟨hv',g,E,D,vm (kz f mw) λk a=>n k (.inr a)⟩,vm (kz i mw) λk a=>n k (.inl a)⟩
 ·rcases a with a|a
  ·exact bs y (i.lt k a).1
  ·exact bs u (f.lt k a).1
 ·rcases a with a|a
  ·exact(i.lt k a).2
  ·exact(f.lt k a).2
 ·rcases a with a|a
  ·simp[Value.ownBlock]at a
  ·refine⟨bs z (m.lt k a).1,λe=>e.elim (hd k a) λe=>?_⟩
   obtain⟨c,q⟩:=zo m a;obtain⟨d,o⟩:=zo f e;exact absurd (qao q o) nh
theorem vdz(h:viq w hs 4 gv G gxs (λk=>iv.ownBlock=some k) U)(i:U.ownsRow (w.heap.size+1) 5 1 iv M ixs)(o:Y=U.alloc (.cells #[.slice none 0 0,iv,.int .i64 0] 146))(z:hs.length<=19200000000000)(q:M<=100000000):
  nz 84 #[.pointer (some ⟨w.heap.size,0,none⟩),.pointer (some ⟨U.heap.size,0,none⟩)] Y λe W'=>e=.returned (.tuple #[])/\viq w hs 8 gv G gxs (λ_=>False) W':=by
 obtain⟨y,F,u,E,g⟩:=h;refine(qek (R':=λk=>False\/gv.ownBlock=some k) (nn:=0) (nv:=.slice none 0 0) u (λk a=>.inr (a.elim False.elim id)) (λk a=>(g.lt k (a.elim False.elim id)).2) (ed _ _ _ _) i (λk a=>?_) o mw (bj _) q).mono λe W' ⟨t,hv',f,s,D,r,_⟩=>⟨t,hv',f,s,mw,vm g λk a=>r k (.inr a)⟩
 rcases a with a|a
 ·simp[Value.ownBlock]at a
 ·refine⟨.inl a,λe=>e.elim False.elim λe=>?_⟩
  obtain⟨c,n⟩:=zo i a;obtain⟨d,m⟩:=zo g e;exact absurd (qao n m) nh
theorem vdy(h:viq w hs 8 gv G gxs (λ_=>False) U)(g:Y=U.alloc (.cells #[gv,.slice none 0 0,.int .i64 0] 146))(r:hs.length<=19200000000000)(i:G<=100000000):
  nz 84 #[.pointer (some ⟨w.heap.size,0,none⟩),.pointer (some ⟨U.heap.size,0,none⟩)] Y λe W'=>e=.returned (.tuple #[])/\∃hv' a,HsAt w W' hv' a/\a.length=hs.length+12:=by
 obtain⟨q,u,o,t,f⟩:=h;refine(qek (R':=λ_=>False) (bn:=0) (bv:=.slice none 0 0) o (λk c=>c.elim) (λk c=>c.elim) f (ed _ _ _ _) (λk c=>?_) g mw i (bj _)).mono λe W' ⟨n,hv',a,m,s,_⟩=>⟨n,hv',a,m.at',mw⟩
 rcases c with c|c
 ·exact⟨.inr c,id⟩
 ·simp[Value.ownBlock]at c
end
end
section
attribute [local go_sem ↓] gS
theorem vc0(h:HsAt w W hv hs)(hx:OxOk W x)(hL:LibOk W)(hn:hs.length<=19200000000000)(I:(qcu x.ts).1=0):Calls prog 48 #[.pointer (some ⟨w.heap.size,0,none⟩),oxV x] W λe W'=>e=.returned (.bool true)/\∃hv' hs',HsAt w W' hv' hs'/\hs'.length=hs.length+12:=by
 obtain⟨kind,nn,id,text,E,z,ts,ev,ps⟩:=x;have C7:EvIn W ev ps:=hx.ev;have hg:EvGood ps:=hx.good;have GI:48 * ps.length<=140737488355328:=hx.el;have rW:TxIn W E ts:=hx.tx;have wD:ts.length<=z:=hx.tc;have I:(qcu ts).1=0:=I;have mQ:=(qj5 I).2;have h8:=(qjc I).1;have Z9:=qtf I;have J3:=qwz I ps;obtain⟨r,LT⟩:∃L,jV (jw (ts.map coS) ts.length).1 (jw (ts.map coS) ts.length).2=L:=⟨_,rfl⟩;have IB:2<=r.length:=by rw[←LT];exact qsz _ _
 rw[LT]at mQ J3;obtain⟨N,hN⟩:∃N,r.length=N:=⟨_,rfl⟩;have hNs:N<=100000:=mw;obtain⟨n,G7⟩:∃n,ts.length=n:=⟨_,rfl⟩;obtain⟨m,hm⟩:∃m,ps.length=m:=⟨_,rfl⟩
 obtain⟨P,O,rfl⟩:∃a c,ev=.slice a m c:=by
  obtain⟨a,q,c,rfl⟩:=C7.slice;exact⟨a,c,by rw[←hm,C7.len]⟩
 obtain⟨V,hV⟩:∃V:World,V=W.alloc (.cells #[.int .i64 kind,.int .i64 nn,.int .i64 id,.string (BS text),.slice E n z,.slice P m O] 64):=⟨_,rfl⟩;have D:Xb W V:=hV ▸ nw.alloc nt _
 have LP:V.heap.size=W.heap.size+1:=by rw[hV];simp
 have AN:∀i,V.cell? ⟨W.heap.size,i,none⟩=(#[.int .i64 kind,.int .i64 nn,.int .i64 id,.string (BS text),.slice E n z,.slice P m O]:Array Value)[i]?:=λi=>by rw[hV];simp
 have OPV:Hid (∀U,Xb V U->(∀i,U.cell? ⟨W.heap.size,i,none⟩=(#[.int .i64 kind,.int .i64 nn,.int .i64 id,.string (BS text),.slice E n z,.slice P m O]:Array Value)[i]?)/\W.heap.size<U.heap.size):=qd λU f=>⟨λi=>((qj f).1 _ i mw).trans (AN i),by have:=f.size;omega⟩
 have CMD:Hid (∀U,Xb V U->Calls prog 81 #[.slice E n z] U λe w'=>e=.returned (.tuple #[.int .i64 0,.int .i64 0])/\Xb U w'):=qd λU f=>by
  have:=pf (rW.below (qf D f)) wD;rw[G7,Z9]at this;exact this
 have CMP:Hid (∀U,Xb V U->Calls prog 41 #[.slice E n z] U λe w'=>Xb U w'/\∃g c,e=.returned (.tuple #[.slice (some ⟨g,0,none⟩) N c,.int .i64 0,.int .i64 0])/\w'.ownsRow U.heap.size 5 1 (.slice (some ⟨g,0,none⟩) N c) N (vd r)):=qd λU f=>by
  have:=qje ts E z U (hL.below (qf D f) nt) (rW.below (qf D f));rw[G7]at this;refine this.mono ?_;rintro e w'⟨y,⟨_,v,o,H⟩|⟨o,_⟩⟩
  ·rw[LT]at H
   have XW:w'.ownsRow U.heap.size 5 1 v N (vd r):=by rw[←hN];exact H
   rcases XW.2 with⟨_,h0⟩|⟨g,cap,cur,rfl,_⟩
   ·omega
   ·exact⟨y,g,cap,o,XW⟩
  ·exact absurd I o
 have EVT:Hid (∀U,Xb V U->Calls prog 76 #[.slice P m O] U λe w'=>e=.returned (.slice (some ⟨U.heap.size,0,none⟩) (m+8) (m+8))/\EvRow w' U.heap.size ps 8/\Xb U w'):=qd λU f=>by
  have:=qto (C7.below (qf D f)) GI;unfold qg7 at this;rw[hm]at this;exact this
 have STL:Hid (∀U lb,Xb V U->EvRow U lb ps 8->Calls prog 78 #[.slice (some ⟨lb,0,none⟩) (m+8) (m+8),.slice P m O] U λe w'=>e=.returned (.bool true)/\Xb U w'):=qd λU lb f hr=>by
  have:=qxi hr (C7.below (qf D f)) GI;rw[hm]at this;exact this
 have RUN:Hid (∀U b lb base,SpR U base b r->EvRow U lb ps 8->Calls prog 30 #[.slice (some ⟨b,0,none⟩) N (N+8),.slice (some ⟨lb,0,none⟩) m (m+8)] U λe w'=>∃v,e=.returned (.tuple #[v,.int .i64 (if xK ps then 0 else 7)])/\IsAt w' U.heap.size v (if xK ps then qkd ps ts n else[])/\Xb U w'):=qd λU b lb base y o=>by
  have hb:=y.bytes;rw[hN]at hb;have:=vd5 r _ ps (.slice (some ⟨lb,0,none⟩) m (m+8)) U hb (.inr ⟨lb,0,m+8,by rw[hm],by rw[hm];omega,o.ev,o.lt⟩) hg;rw[J3]at this;refine this.mono ?_;rintro e w'⟨v,H,h4,h5⟩;rw[G7]at H h4;cases S:xK ps
  ·rw[S]at H h4;exact⟨v,H,h4,h5⟩
  ·rw[S]at H h4;exact⟨v,H,h4,h5⟩
 have EVE:Hid (∀U,Xb V U->Calls prog 85 #[.slice P m O] U λe w'=>e=.returned (.bool (xK ps))/\Xb U w'):=qd λU f=>qa2 (C7.below (qf D f)) hg
 have MET:Hid (xK ps=true->∀U,Xb V U->Calls prog 86 #[.slice E n z,.slice P m O] U λe w'=>∃v,e=.returned v/\IsAt w' U.heap.size v (qkd ps ts n)/\Xb U w'):=qd λS U f=>by
  have:=vcb (cap:=z) (rW.below (qf D f)) h8 (C7.below (qf D f)) hg (qtn I S);rw[G7]at this;exact this
 have EA:Hid ((qkd ps ts n).length<=8):=qd (by have:=qnd ps ts n;omega);have HOLD:=qd (And.intro h D)
 have CPY:Hid (∀U base g c b b0,U.ownsRow b0 5 1 (.slice (some ⟨g,0,none⟩) N c) N (vd r)->U.ownsRow base 5 1 (.slice (some ⟨b,0,none⟩) (N+8) (N+8)) (N+8) (madeCells #[.int .u8 0] ((N+8) * 1)).toList->∃W',(cpR #[51,51] 3 #[.slice (some ⟨b,0,none⟩) (N+8) (N+8),.slice (some ⟨g,0,none⟩) N c]).run prog U=.ok (goInt N) W'/\Hid (SpR W' base b r)/\Hid (Below base U W')):=qd λU base g c b b0 y o=>by
  subst hN;refine qpt (off:=0) (λj x hj=>?_) o;have:=World.ownsRow.cells y (g:=g) rfl j (.int .u8 (x.toNat:Int)) (by simp[vd,hj]);rwa [show(⟨g,0,none⟩:Addr).add j=⟨g,0+j,none⟩ by unfold Addr.add;split<;>simp_all]at this
 obtain⟨i0,hi,F2,B9,D8⟩:=info_parts qu9;obtain⟨K,F⟩:∃K:Int,(if xK ps then 0 else 7)=K:=⟨_,rfl⟩;obtain⟨G,u⟩:∃G,(if xK ps then qkd ps ts n else[])=G:=⟨_,rfl⟩;rw[F,u]at RUN;have HKG:=qd (And.intro F u);clear F u
 have KC:Hid (∀(U Y:World) (g cc ib A B C:Nat) (gv:Value),Xb V U->U.ownsRow A 5 1 (.slice (some ⟨g,0,none⟩) N cc) N (vd r)->SpR U B ib r->IsAt U C gv G->W.heap.size<=A->W.heap.size<=B->W.heap.size<=C->g≠ib->Y=U.alloc (.cells #[.slice none 0 0,.slice (some ⟨g,0,none⟩) N cc,.int .i64 0] 146)->Calls prog 84 #[.pointer (some ⟨w.heap.size,0,none⟩),.pointer (some ⟨U.heap.size,0,none⟩)] Y λe W'=>e=.returned (.tuple #[])/\viq w hs 4 gv G.length (jX G) (λk=>(Value.slice (some ⟨ib,0,none⟩) (N+8) (N+8)).ownBlock=some k) W'/\W'.ownsRow (w.heap.size+1) 5 1 (.slice (some ⟨ib,0,none⟩) (N+8) (N+8)) (N+8) (vd r++List.replicate 8 (.int .u8 0))):=qd λU Y g cc ib A B C gv f y o H hA hB hC hne hY=>by
  unfold SpR at o;rw[hN]at o;exact vjb h (qf D f) y o H hA hB hC (λk e1 e2=>hne (by simp[Value.ownBlock]at e1 e2;omega)) hY hn mw
 unfold oxV;simp only;rw[G7];have BLW:Hid (∀U X,Xb V U->Xb U X->Xb V X):=qd λU X y o=>qf y o
 unfold Xb at KC BLW OPV CMD CMP EVT STL EVE MET;rw[LP]at KC BLW OPV CMD CMP EVT STL EVE MET;have n0:(0:Int)<=(N:Int):=mw;have m0:(0:Int)<=(m:Int):=mw;have n8:(N:Int)<=(N:Int)+8:=mw;have m8:(m:Int)<=(m:Int)+8:=mw;have n8':N<=N+8:=mw;have m8':m<=m+8:=mw;have oL:=qd (And.intro hN IB);clear h hx C7 hg GI rW wD I Z9 hL h8 J3 mQ LT hN IB G7 hm D LP AN;subst hV;go_enter func48,ntmps48
 go_upto_region 8 with(first
  | (go_at_call 76;have _q:=t8;refine(EVT _ t8).mono ?_;rintro e w5⟨rfl,aV,m9⟩;have t7:=qd aV;have JW:=qd (qq ZP m9 nt);have BR:=qd (TC.below m9);have P6:=qd (BLW _ _ t8 m9);obtain⟨o5,l5⟩:=q9 OPV _ P6;have z5:w4.heap.size<w5.heap.size:=aV.lt;clear aV m9)
  | (at_make;have _q:=F9;refine wpList_make_full _ rfl _ _ 51 rfl w2.heap.size 5 i0 _ 1 underlying51 hi F2 B9 .i64 .i64 _ _ (N+8) rfl rfl mw mw (by rw[D8];omega) (by unfold maxLen;omega) nt ?_;intro w3 tQ nM;have lM:Xb w2 w3:=(Go.RowKit.Below.grown nw nM nt (λk hk=>(by cases hk)));have XI:=qq tF lM nt;obtain⟨w4,cK,TC,JX⟩:=q9 CPY w3 _ _ _ _ _ XI tQ;have CE:=qd (lM.trans JX);have ZP:=qd (qq tF CE nt);have t8:=qd (BLW _ _ F9 CE);obtain⟨o4,l4⟩:=q9 OPV _ t8;have z4:w2.heap.size<w4.heap.size:=(q9 TC).lt;clear tQ nM lM XI JX)
  | (go_at_call 41;have _q:=C9;refine(CMP _ C9).mono ?_;rintro e w2⟨A3,g,cc,rfl,I1⟩;have F9:=qd (BLW _ _ C9 A3);have tF:=qd I1;obtain⟨o2,l2⟩:=q9 OPV _ F9;have z2:=A3.size;have wX:g<w2.heap.size:=(I1.lt g rfl).2;clear A3 I1)
  | (go_at_call 81;refine(CMD _ nw).mono ?_;rintro e w1⟨rfl,A1⟩;have C9:=qd ((A1.mono (show W.heap.size+1<=_ by simp)));obtain⟨o1,l1⟩:=q9 OPV _ C9;clear A1))
 have CEL:=qd o5
 go_cut [12,13] (λs12 s13 wx=>s13=.int .i64 K/\Hid (IsAt wx w5.heap.size s12 G)/\Hid (Xb w5 wx))
 case first=>
  go_region_held3 (λX=>∀i,X.cell? ⟨W.heap.size,i,none⟩=(#[.int .i64 kind,.int .i64 nn,.int .i64 id,.string (BS text),.slice E n z,.slice P m O]:Array Value)[i]?) (first|with_reducible assumption|go_keep) ((go_at_call 30;refine((λhb=>q9 RUN _ _ _ _ (BR.below hb) (t7.below hb)) (by first|exact(nw).drew|exact(nw))).mono ?_;rintro e w6⟨v,rfl,ET,fN⟩;have HV6:=qd ET;have T:=qd fN;have uB:∀i,w6.cell? ⟨W.heap.size,i,none⟩=(#[.int .i64 kind,.int .i64 nn,.int .i64 id,.string (BS text),.slice E n z,.slice P m O]:Array Value)[i]?:=λi=>((qj fN).1 _ i my).trans (CEL i);clear ET fN))
  all_goals
   go_wp2_with fail
   go_meet
   exact⟨rfl,HV6,qd (qf nw.drew T)⟩
 case rest=>
  obtain⟨rfl,MV,T⟩:=hcut;obtain⟨ga,gc,rfl,_⟩:=(q9 MV).cells;obtain⟨J,hJ⟩:∃J,G.length=J:=⟨_,rfl⟩;have HJ:=qd hJ;rw[hJ]at MV ⊢;have rI:=qd (t7.below T);have ZH:=qd (BR.below T);have ZO:=qd (qq JW T nt);have tG:=qd (BLW _ _ P6 T);obtain⟨o6,l6⟩:=q9 OPV _ tG;have z6:=(q9 T).size;clear o1 o2 o4 o5 CEL cK hJ BR JW t7 P6 t8 ZP TC CE F9 tF C9
  go_upto_region 10 with(go_at_call 78;refine(STL _ _ tG rI).mono ?_;rintro e w7⟨rfl,sN⟩;have ZJ:=qd (qq MV sN nt);have MR:=qd (ZH.below sN);have UC:=qd (qq ZO sN nt);have CD:=qd (BLW _ _ tG sN);obtain⟨o7,l7⟩:=q9 OPV _ CD;have z7:=sN.size;clear sN)
  clear o6
  have ZL:Hid (∀X,Xb w7 X->(convert 51 9 (.slice (some ⟨w2.heap.size,0,none⟩) N (N+8))).run prog X=.ok (.string (BS r)) X/\(convert 51 9 (.slice (some ⟨g,0,none⟩) N cc)).run prog X=.ok (.string (BS r)) X):=qd λX hX=>by
   have y:=(MR.below hX).bytes;rw[(q9 oL).1]at y;have o:=qq UC hX nt;exact⟨pP y,pP (OB.bytes (l:=r) (by unfold OB;rw[(q9 oL).1];exact o))⟩
  have YA:=λk=>(ZL (w7.drewN k) (dr nw k)).1
  have XZ:=λk=>(ZL (w7.drewN k) (dr nw k)).2
  obtain⟨BL,XR⟩:∃B,BS r=B:=⟨_,rfl⟩;simp only[XR]at YA XZ;have hq:(BL.toList==BL.toList)=true:=ip _;clear XR
  go_quiet (fail)
  go_wp2_with fail
  clear YA XZ hq o7
  go_loopw [15,16] (λs i wr=>∃q:Nat,N<=q/\q<=N+8/\s=.bool true/\i=.int .i64 (q:Int)/\Hid (Xb w7 wr)) (λ_ i _=>N+8 - (intOf i).toNat)
  case atStart=>exact⟨N,nt,n8',rfl,rfl,qd (dr nw _)⟩
  case round=>
   obtain⟨q,FF,dS,rfl,rfl,Q⟩:=hrel;have z8:=(q9 Q).size;have N5:(0:Int)<=(q:Int):=mw
   by_cases A0:q<N+8
   ·have A5:(q:Int)<(N:Int)+8:=mw
    have q0:=(MR.below Q).zero (j:=q) (by rw[(q9 oL).1];exact FF) (by rw[(q9 oL).1];exact A0)
    go_wp2_with fail
    go_roundw
    case rel=>exact⟨q+1,mw,mw,rfl,by go_num,Q⟩
    case measure=>simp[intOf];omega
   ·obtain rfl:q=N+8:=mw
    have A5:¬((N+8:Nat):Int)<(N:Int)+8:=mw;have ZI:=qd (qq ZJ Q nt);have ZG:=qd (MR.below Q);have ZN:=qd (qq UC Q nt);have oO:=qd (BLW _ _ CD Q);obtain⟨o8,l8⟩:=q9 OPV _ oO;clear ZJ MR UC CD Q MV ZH ZO tG rI T;have MT:=qd hn;obtain⟨F,u⟩:=q9 HKG;cases S:xK ps
    ·rw[S]at EVE F u
     simp only[cu,if_false]at F u;have QS:=q9 HJ;rw[←u]at QS;obtain rfl:J=0:=QS.symm;subst F;have TG:Hid (G.length<=100000000):=qd (by rw[q9 HJ];omega);clear u QS MET EA
     go_wp2_with(first
      | (go_at_call 84;have _q:=JP;refine(vdy JP rfl MT TG).mono ?_;rintro e ZW⟨rfl,nF⟩;have SZ:=qd nF;clear nF)
      | (go_at_call 84;have _q:=Z;refine(vdz Z JO rfl MT mw).mono ?_;rintro e ZX⟨rfl,nG⟩;have JP:=qd nG;clear nG Z JO)
      | (go_at_call 84;have _q:=JV;refine(KC _ _ _ _ _ _ _ _ _ lR JV TB TJ mw mw mw mw rfl).mono ?_;rintro e UX⟨rfl,nH,T8⟩;have Z:=qd nH;have JO:=qd T8;clear nH T8 JV)
      | (go_at_call 85;refine(EVE _ oO).mono ?_;rintro e w9⟨rfl,t⟩;have TJ:=qd (qq ZI t nt);have TB:=qd (ZG.below t);have JV:=qd (qq ZN t nt);have lR:=qd (BLW _ _ oO t);obtain⟨o9,l9⟩:=q9 OPV _ lR;have z9:=t.size;clear t))
     go_ret;exact⟨rfl,q9 SZ⟩
    ·rw[S]at EVE F u
     simp only[if_true]at F u;have MET:=qd (MET S);rw[u]at MET EA;have TG:Hid (G.length<=100000000):=qd (by have:=q9 EA;omega);subst F;clear u
     go_wp2_with(first
      | (go_at_call 84;have _q:=JP;refine(vdy JP rfl MT TG).mono ?_;rintro e ZW⟨rfl,nF⟩;have SZ:=qd nF;clear nF)
      | (go_at_call 84;have _q:=Z;refine(vdz Z JO rfl MT mw).mono ?_;rintro e ZX⟨rfl,nG⟩;have JP:=qd nG;clear nG Z JO)
      | (go_at_call 84;have _q:=CC;refine(KC _ _ _ _ _ _ _ _ _ uR CC TD TN mw mw mw mw rfl).mono ?_;rintro e UX⟨rfl,nH,T8⟩;have Z:=qd nH;have JO:=qd T8;clear nH T8 CC)
      | (go_at_call 87;refine(qul G _ _ _ _ _ JT RZ EA).mono ?_;rintro e UX⟨rfl,lE⟩;have TN:=qd (qq JT lE nt);have TD:=qd (TF.below lE);have CC:=qd (qq UD lE nt);have uR:=qd (BLW _ _ uS lE);obtain⟨VJ,l11⟩:=q9 OPV _ uR;have z11:=lE.size;clear lE)
      | (go_at_call 86;refine(MET _ lR).mono ?_;rintro e w10⟨v,rfl,NZ,lF⟩;have RZ:=qd NZ;have JT:=qd (qq TJ lF nt);have TF:=qd (TB.below lF);have UD:=qd (qq JV lF nt);have uS:=qd (BLW _ _ lR lF);obtain⟨VK,l10⟩:=q9 OPV _ uS;have z10:=lF.size;clear lF)
      | (go_at_call 85;refine(EVE _ oO).mono ?_;rintro e w9⟨rfl,t⟩;have TJ:=qd (qq ZI t nt);have TB:=qd (ZG.below t);have JV:=qd (qq ZN t nt);have lR:=qd (BLW _ _ oO t);obtain⟨o9,l9⟩:=q9 OPV _ lR;have z9:=t.size;clear t))
     go_ret;exact⟨rfl,q9 SZ⟩
end
section
theorem vhl(h:HsAt w W hv hs)(c:OxOk W x)(a:(qcu x.ts).1≠0):nz 48 #[.pointer (some ⟨w.heap.size,0,none⟩),oxV x] W λe W'=>e=.returned (.bool true)/\HsAt w W' hv hs:=by
 obtain⟨kind,nn,z,text,g,f,ts,ev,ps⟩:=x;obtain⟨u,s,t,o⟩:=c.ev.slice;have o:ev=.slice u s t:=o;subst o;have q:TxIn W g ts:=c.tx;have p:ts.length<=f:=c.tc;have a:(qcu ts).1≠0:=a;obtain⟨n,m⟩:∃n,ts.length=n:=⟨_,rfl⟩;obtain⟨V,r⟩:∃V:World,V=W.alloc (.cells #[.int .i64 kind,.int .i64 nn,.int .i64 z,.string (BS text),.slice g n f,.slice u s t] 64):=⟨_,rfl⟩;have k:Xb W V:=r ▸ nw.alloc nt _
 obtain⟨E,P,i⟩:∃E P,qcu ts=(E,P):=⟨_,_,rfl⟩
 have CMD:Hid (nz 81 #[.slice g n f] V λe w'=>e=.returned (.tuple #[.int .i64 E,.int .i64 (P:Nat)])/\HsAt w w' hv hs):=qd (by
  have:=pf (q.below k) p;rw[m,i]at this
  exact this.mono λe w' ⟨H,F⟩=>⟨H,h.below (qf k F)⟩)
 have D:¬E=0:=by rw[i]at a;exact a
 unfold oxV;simp only;rw[m];clear h c q p k a i m;subst r;go_enter func48,ntmps48
 go_wp2_with(go_at_call 81;refine CMD.mono ?_;rintro e J⟨rfl,y⟩;have I:=qd y;clear y)
 go_ret;exact⟨rfl,q9 I⟩
theorem vhk(h:HsAt w W hv hs)(g:OxOk W x)(k:LibOk W)(i:hs.length<=19200000000000):nz 48 #[.pointer (some ⟨w.heap.size,0,none⟩),oxV x] W λe W'=>e=.returned (.bool true)/\∃hv' a,HsAt w W' hv' a/\a.length<=hs.length+12:=by
 by_cases hR:(qcu x.ts).1=0
 ·exact(vc0 h g k i hR).mono λe W' ⟨f,hv',a,c,m⟩=>⟨f,hv',a,c,mw⟩
 ·exact(vhl h g hR).mono λe W' ⟨f,c⟩=>⟨f,hv,hs,c,mw⟩
theorem vd7(h:HsAt w W hv hs)(a:OxOk W x)(i:LibOk W)(o:hs.length<=19200000000000)(g:x.kind=4):nz 33 #[.pointer (some ⟨w.heap.size,0,none⟩),oxV x] W λe W'=>e=.returned (.bool true)/\∃hv' hs',HsAt w W' hv' hs'/\hs'.length<=hs.length+12:=by
 obtain⟨r,p,q,k⟩:=a.ev.slice;have f:Hid (∀U,Xb W U->nz 48 #[.pointer (some ⟨w.heap.size,0,none⟩),oxV x] U λe W'=>e=.returned (.bool true)/\∃hv' hs',HsAt w W' hv' hs'/\hs'.length<=hs.length+12):=qd λU c=>vhk (h.below c) (a.below c) (i.below c nt) o
 unfold oxV at f ⊢;rw[g,k]at f ⊢;have t:=qd ((Below.refl W.heap.size W).alloc nt (.cells #[.int .i64 4,.int .i64 x.n,.int .i64 x.id,.string (BS x.text),.slice x.la x.ts.length x.lc,.slice r p q] 64));clear h a i g k;go_enter func33,ntmps33
 go_wp2_with(go_at_call 48;refine(f _ t).mono ?_;rintro e u⟨rfl,m⟩;have s:=qd m;clear m)
 go_ret;exact⟨rfl,q9 s⟩
theorem vcm(w:World)(v:Value)(l:List Ox)(m:vf6 w v l)(o:LibOk w):nz 11 #[v] w λe w'=>e=.returned (.bool true)/\Xb w w':=by
 have t:88 * l.length<=140737488355328:=by obtain⟨_,_,_,_,h,_⟩:=m;exact h
 have u:Hid (nz 15 #[v,.int .i64 4,.int .i64 4] w λe w'=>e=.returned (.int .i64 (-1))/\Xb w w'):=qd ((qrz 4 4 (λk W=>∃hv hs,HsAt w W hv hs/\hs.length<=12 * k) w v l m ⟨_,[],HsAt.start w,bj _⟩ (λk W ⟨_,_,h,_⟩=>h.bel) (λk W W' ⟨hv,hs,h,c⟩ s=>⟨hv,hs,h.below s,c⟩) (λk W ⟨hv,hs,h,c⟩=>⟨hv,hs,h,mw⟩)
  (λk W x r ⟨hv,hs,h,c⟩ q n=>(vd7 h q (o.below h.bel nt) mw mw).mono λe W' ⟨g,hv',i,f,D⟩=>⟨g,hv',i,f,mw⟩)
  (λk W r ⟨hv,hs,h,c⟩=>(quk h mw).mono λe W' ⟨g,f⟩=>⟨g,hv,hs,f,c⟩)).mono λe w' ⟨g,hv,hs,f,_⟩=>⟨g,f.bel⟩)
 obtain⟨a,cap,rfl,_⟩:=m;clear o t;go_enter func11,ntmps11
 go_wp2_with(go_at_call 15;refine u.mono ?_;rintro e z⟨rfl,y⟩)
 go_ret;exact⟨rfl,y⟩
end
end Go.Proofs.YtfkcaldjphakpaaGreatDoor
