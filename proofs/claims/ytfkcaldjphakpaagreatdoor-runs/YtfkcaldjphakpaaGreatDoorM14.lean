/- escape -/
import Derived.Test.YtfkcaldjphakpaaGreatDoorM01
import Derived.Test.YtfkcaldjphakpaaGreatDoorM08
set_option maxHeartbeats 16000000
set_option maxRecDepth 100000
namespace Go.Proofs.YtfkcaldjphakpaaGreatDoor
open Go.RowKit Go.Proofs.Tryz
theorem qc6:(l:mv)->∀r,ve l=some r->r.1.length<=l.length
 | [],r,h=>by simp[ve]at h
 | [c],r,h=>by
  simp only[ve]at h;split at h
  ·injection h with h;subst h;simp
  ·cases h
 | c::d::t,r,h=>by
  simp only[ve]at h
  split at h
  ·split at h
   ·cases hq:ve t with
    | none=>rw[hq]at h;cases h
    | some q=>rw[hq]at h;injection h with h;subst h;have:=qc6 t q hq;simp;omega
   ·injection h with h;subst h;simp
  ·cases hq:ve (d::t) with
   | none=>rw[hq]at h;cases h
   | some q=>rw[hq]at h;injection h with h;subst h;have:=qc6 (d::t) q hq;simp at *;omega
theorem qjx(l:mv):(qX l).str.length<=l.length:=by
 unfold qX
 split
 ·simp[qh]
 ·rename_i c t
  split
  ·unfold vU;split
   ·simp only[dh];omega
   ·simp[qh]
  split
  ·unfold xt;split<;>simp[qh]
  split
  ·unfold vG;split
   ·rename_i r a
    have:=qc6 _ _ a;rw[dc]at this;show r.1.length<=_;omega
   ·simp[qh]
  ·simp[qh]
theorem qa6(s:mu)(st:St):(qg s st).tk.str.length<=s.size:=by
 show(qJ s.data.toList st.after).str.length<=s.size;unfold qJ
 split
 ·have:=qjx (s.data.toList.drop (qN s.data.toList st.after))
  rw[dc,qr]at this;omega
 ·simp[qh]
inductive ERes where
 | ok (str:List UInt8) (st:St)
 | err (pl:Int)
def kY(s:ByteArray)(ft:Tk)(fp:Nat)(st:St):ERes:=
 if st.tk.kind=4 then(if st.tk.str.length=1 then(if(zi st.tk.str ft.str).isSome=true then .ok st.tk.str (qg s st) else .err fp) else .err st.place) else .err st.place
def EscEnds(rb:Nat)(s:ByteArray)(w:World)(r:ERes)(e:Ending)(w':World):Prop:=
 Kept rb w w'/\match r with
 | .ok str st=>e=.returned (.string (BS str))/\RdAt w' rb s st
 | .err pl=>e=qU 2 pl
theorem EscEnds.split{a:Nat}{s:mu}{w:World}{r:ERes}{e:Ending}{w':World}{st:St}(h:EscEnds a s w r e w')(H:Ready a s w st)(b:∀str st',r=.ok str st'->st'=qg s st):Kept a w w'/\((∃str,r=.ok str (qg s st)/\e=.returned (.string (BS str))/\Ready a s w' (qg s st))\/∃pl,r=.err pl/\e=qU 2 pl):=by
 cases r with
 | ok str st'=>obtain rfl:=b _ _ rfl;exact⟨h.1,.inl ⟨str,rfl,h.2.1,H.kept h.1 h.2.2 H.fine.next⟩⟩
 | err pl=>exact⟨h.1,.inr ⟨pl,rfl,h.2⟩⟩
theorem qq2(c:Nat)(s:mu)(a:Tk)(b:Nat)(l:a.str.length<=200)(w:World)(st:St)(h:Ready c s w st):
  nz 302 #[.pointer (some ⟨c,0,none⟩),tkV a b] w (EscEnds c s w (kY s a b st)):=by
 have C:=qd (h.allocd (.cells #[.int .i64 a.kind,.int .i64 b,.int .i64 a.num,.string (BS a.str)] 91));have K:=h.lt;have n0:¬w.heap.size=c:=mw;have t:Hid (((((BS st.tk.str).size:Int) != 1)=false->st.tk.str.length=1)/\((((BS st.tk.str).size:Int) != 1)=true->¬st.tk.str.length=1)):=qd (by rw[qG];constructor<;>intro h<;>simp at h<;>omega);have VAL:=qd (λw=>qyd (BS a.str) (BS st.tk.str) (by rw[qG];exact l) w);rw[xg,xg]at VAL;obtain⟨R,o⟩:∃R,kY s a b st=R:=⟨_,rfl⟩;rw[o];have B:=qd o;clear h o;simp only[tkV];obtain⟨V,n⟩:∃V,(zi st.tk.str a.str).isSome=V:=⟨_,rfl⟩;rw[n]at VAL;have A:=qd n;clear n;cases NQ:(((BS st.tk.str).size:Int) != 1)<;>cases V
 all_goals
  go_enter func302,ntmps302
  go_wp2_with(first|(go_at_call 56;refine(yj C 4).mono ?_;rintro e j⟨g,⟨q,rfl,x⟩|⟨q,rfl⟩⟩;all_goals(have J:w.heap.size<j.heap.size:=(by have:=g.size;simp at this;omega);have I:¬j.heap.size=c:=mw;have y:j.cell? ⟨w.heap.size,1,none⟩=some (.int .i64 b):=((jG g).1 _ 1 mx n0).trans mx;have H:j.cell? ⟨w.heap.size,3,none⟩=some (.string (BS a.str)):=((jG g).1 _ 3 mx n0).trans mx;have u:=qd q;clear q);all_goals first|(have f:=qd ((((Kept.refl c w).alloc (.cells #[.int .i64 a.kind,.int .i64 b,.int .i64 a.num,.string (BS a.str)] 91)).trans g).alloc (.cells (tkC st) 91));have r:=qd (x.allocd (.cells (tkC st) 91));clear x g;simp only[tkV])|(have f:=qd (((Kept.refl c w).alloc (.cells #[.int .i64 a.kind,.int .i64 b,.int .i64 a.num,.string (BS a.str)] 91)).trans g);simp only[qU]))|(go_at_call 332;refine(VAL _).mono ?_;rintro e k⟨rfl,i⟩;obtain⟨m,z⟩:=qj i;have D:=i.size;have G:k.cell? ⟨w.heap.size,1,none⟩=some (.int .i64 b):=(m _ 1 my).trans (by rw[bt _ _ _ (by first|omega|(simp;omega))];exact y);have F:k.cell? ⟨j.heap.size,3,none⟩=some (.string (BS st.tk.str)):=(m _ 3 mx).trans mx;replace f:=qd (f.trans (Kept.of_below i));have i:=qd i;clear m z)|(go_at_call 103;refine(qdi _ _ _).mono ?_;rintro e k⟨rfl,rfl⟩;simp only[qU]))
  all_goals
   have E:=q9 B;unfold kY at E
   first
   | (rw[aj (q9 u)]at E;subst E;exact⟨rfl,q9 f,rfl⟩)
   | (
    rw[bh (q9 u)]at E
    first
    | (rw[aj ((q9 t).2 NQ)]at E;subst E;exact⟨rfl,q9 f,rfl⟩)
    | (
     rw[bh ((q9 t).1 NQ),q9 A]at E
     first
     | (rw[aj nh]at E;subst E;exact⟨rfl,q9 f,rfl⟩)
     | (rw[bh rfl]at E;subst E;go_ret;exact⟨q9 f,rfl,r.at'.below i r.lt⟩)))
def qsb(w:World)(r:CRes)(e:Ending)(w':World):Prop:=Below w.heap.size w w'/\match r with
 | .ok _=>e=.returned (.tuple #[])
 | .err q=>e=qU 4 q
theorem qsl(o:Nat)(p:Pay)(x y:Ast)(N:pL o x)(M:pL o y)(w:World)(v:Value)(h:IsNode o w v (.bin p x y)):
  nz 149 #[v] w (qsb w (zk p.place (qv x) (qv y))):=by
 obtain⟨b,g,v1,v2,rfl,Y,dJ,s,F,E,z,u⟩:=h;obtain⟨b1,rfl⟩:=z.ptr;obtain⟨b2,rfl⟩:=u.ptr;obtain⟨S6,J,c0,H,G,c3,c4,c5,Z⟩:=Y;obtain⟨n,P⟩:∃n,p.place=n:=⟨_,rfl⟩;rw[P]at H ⊢;have I:=qd (z.kept ((Kept.refl o w).drew));have O:=qd u;have L:=qd N;have S:=qd M;clear c0 c3 c4 c5 Z z u N M P
 cases oU:qv x with
 | err q=>
  have t:=qd oU;clear oU;rw[zk];go_enter func149,ntmps149
  go_wp2_with fail
  go_region_with(first|(go_at_call_of 104 (Value.pointer (some { block:=b1,off:=0 }));refine(L _ _ I).mono ?_;rintro e f⟨a,i⟩;rw[q9 t]at i;subst i;refine vkm (w:=f) ⟨rfl,((Below.refl w.heap.size w).drew).trans a,rfl⟩ ?_))
  all_goals trivial
 | ok cx=>
  have t:=qd oU;clear oU
  cases hyc:qv y with
  | err q=>
   have K:=qd hyc;clear hyc;rw[zk];go_enter func149,ntmps149
   go_wp2_with fail
   go_region_with(first|(go_at_call_of 104 (Value.pointer (some { block:=b1,off:=0 }));refine(L _ _ I).mono ?_;rintro e f⟨a,i⟩;rw[q9 t]at i;subst i;have a:Xb w f:=((Below.refl w.heap.size w).drew).trans a;obtain⟨c,m⟩:=qj a;have C:Xc f b 2 (.slice (some ⟨g,0,none⟩) 2 2):=(c _ 2 J).trans G;have B:Xc f g 0 (.pointer (some ⟨b1,0,none⟩)):=(c _ 0 s).trans F;have A:Xc f g 1 (.pointer (some ⟨b2,0,none⟩)):=(c _ 1 s).trans E;have T:=a.size;have a:=qd a;clear c m)|(go_at_call_of 104 (Value.pointer (some { block:=b2,off:=0 }));refine(S _ _ (O.kept (Kept.of_below a))).mono ?_;rintro e l⟨k,j⟩;rw[q9 K]at j;subst j;refine vkm (w:=l) ⟨rfl,qf a k,rfl⟩ ?_))
   all_goals trivial
  | ok cy=>
   have K:=qd hyc;clear hyc;rw[zk];obtain⟨R,D⟩:∃r,(if(cx != cy&&cx != 0&&cy != 0)=true then CRes.err n else CRes.ok 3)=r:=⟨_,rfl⟩;rw[D];have Q:=qd D;clear D;go_enter func149,ntmps149
   go_wp2_with fail
   go_region_held3 (λw'=>Xc w' b 2 (.slice (some ⟨g,0,none⟩) 2 2)/\Xc w' g 0 (.pointer (some ⟨b1,0,none⟩))/\Xc w' g 1 (.pointer (some ⟨b2,0,none⟩))) (go_keep) (first|(go_at_call_of 104 (Value.pointer (some { block:=b1,off:=0 }));refine(L _ _ I).mono ?_;rintro e f⟨a,i⟩;rw[q9 t]at i;subst i;have a:Xb w f:=((Below.refl w.heap.size w).drew).trans a;obtain⟨c,m⟩:=qj a;have C:Xc f b 2 (.slice (some ⟨g,0,none⟩) 2 2):=(c _ 2 J).trans G;have B:Xc f g 0 (.pointer (some ⟨b1,0,none⟩)):=(c _ 0 s).trans F;have A:Xc f g 1 (.pointer (some ⟨b2,0,none⟩)):=(c _ 1 s).trans E;have T:=a.size;have a:=qd a;clear c m)|(go_at_call_of 104 (Value.pointer (some { block:=b2,off:=0 }));refine(S _ _ (O.kept (Kept.of_below a))).mono ?_;rintro e l⟨k,j⟩;rw[q9 K]at j;subst j;obtain⟨c,m⟩:=qj k;have j1:Xc l b 1 (.int .i64 n):=(c _ 1 mw).trans (((qj a).1 _ 1 J).trans H);have X:Xc l b 2 (.slice (some ⟨g,0,none⟩) 2 2):=(c _ 2 mw).trans C;have W:Xc l g 0 (.pointer (some ⟨b1,0,none⟩)):=(c _ 0 mw).trans B;have U:Xc l g 1 (.pointer (some ⟨b2,0,none⟩)):=(c _ 1 mw).trans A;have k:=qd (qf a k);clear c m))
   clear C B A X W U H G F E;cases i:(cx != cy)<;>cases j:(cx != 0)<;>cases h3:(cy != 0)
   all_goals
    rw[i,j,h3]at Q
    go_wp2_with fail
    rw[←q9 Q]
    first|exact⟨rfl,q9 k,rfl⟩|(go_end0;exact⟨q9 k,rfl⟩)
theorem g9{b:Nat}{Q:Exit->Act->World->Prop}{a:Act}{w:World}(h:Q .normal a w):Exit.inBlock b Q .normal a w:=h
structure SignAt(w W2:World)(x:V):Prop where
 a0:W2.cell? ⟨w.heap.size,0,none⟩=some (.int .i64 (iV 0).kind)
 a1:W2.cell? ⟨w.heap.size,1,none⟩=some (.int .i64 (iV 0).num)
 a2:W2.cell? ⟨w.heap.size,2,none⟩=some (.string (BS (iV 0).str))
 b0:W2.cell? ⟨w.heap.size+1,0,none⟩=some (.int .i64 x.kind)
 b1:W2.cell? ⟨w.heap.size+1,1,none⟩=some (.int .i64 x.num)
 b2:W2.cell? ⟨w.heap.size+1,2,none⟩=some (.string (BS x.str))
 r0:W2.cell? ⟨w.heap.size+2,0,none⟩=some (.int .i64 0)
 r1:W2.cell? ⟨w.heap.size+2,1,none⟩=some (.int .i64 0)
 r2:W2.cell? ⟨w.heap.size+2,2,none⟩=some (.string ⟨#[]⟩)
 fz:∀j,W2.frozen? ⟨w.heap.size+2,j,none⟩=false
 lt:w.heap.size+2<W2.heap.size
 below:Below w.heap.size w W2
theorem qdo(w b W2:World)(x y:V)(c:Below ((((w.alloc (.cells #[.int .i64 x.kind,.int .i64 x.num,.string (BS x.str)] 26)).alloc (.cells #[.int .i64 y.kind,.int .i64 y.num,.string (BS y.str)] 26)).alloc (.cells #[.int .i64 0,.int .i64 0,.string ⟨#[]⟩] 26)).drew).heap.size ((((w.alloc (.cells #[.int .i64 x.kind,.int .i64 x.num,.string (BS x.str)] 26)).alloc (.cells #[.int .i64 y.kind,.int .i64 y.num,.string (BS y.str)] 26)).alloc (.cells #[.int .i64 0,.int .i64 0,.string ⟨#[]⟩] 26)).drew) b)(t:((((((b.setCell ⟨w.heap.size,0,none⟩ (.int .i64 (iV 0).kind)).setCell ⟨w.heap.size,1,none⟩ (.int .i64 (iV 0).num)).setCell ⟨w.heap.size,2,none⟩ (.string (BS (iV 0).str))).setCell ⟨w.heap.size+1,0,none⟩ (.int .i64 x.kind)).setCell ⟨w.heap.size+1,1,none⟩ (.int .i64 x.num)).setCell ⟨w.heap.size+1,2,none⟩ (.string (BS x.str)))=W2):SignAt w W2 x:=by
 subst t;have r:=c.size;simp at r;obtain⟨a,s⟩:=qj c;have q:=(a w.heap.size 0 my).trans (show _=some (.int .i64 x.kind) by rw[fg,bt _ _ _ my,bt _ _ _ mx,cd _ _ _ _ rfl];rfl);have o:=(a w.heap.size 1 my).trans (show _=some (.int .i64 x.num) by rw[fg,bt _ _ _ my,bt _ _ _ mx,cd _ _ _ _ rfl];rfl);have n:=(a w.heap.size 2 my).trans (show _=some (.string (BS x.str)) by rw[fg,bt _ _ _ my,bt _ _ _ mx,cd _ _ _ _ rfl];rfl);have m:=(a (w.heap.size+1) 0 mx).trans (show _=some (.int .i64 y.kind) by rw[fg,bt _ _ _ mx,cd _ _ _ _ mx];rfl);have l:=(a (w.heap.size+1) 1 mx).trans (show _=some (.int .i64 y.num) by rw[fg,bt _ _ _ mx,cd _ _ _ _ mx];rfl);have k:=(a (w.heap.size+1) 2 mx).trans (show _=some (.string (BS y.str)) by rw[fg,bt _ _ _ mx,cd _ _ _ _ mx];rfl);have i:=(a (w.heap.size+2) 0 mx).trans (show _=some (.int .i64 0) by rw[fg,cd _ _ _ _ mx];rfl);have g:=(a (w.heap.size+2) 1 mx).trans (show _=some (.int .i64 0) by rw[fg,cd _ _ _ _ mx];rfl);have f:=(a (w.heap.size+2) 2 mx).trans (show _=some (.string ⟨#[]⟩) by rw[fg,cd _ _ _ _ mx];rfl);have e:Xf b (w.heap.size+2):=λj=>(s (w.heap.size+2) j mx).trans (by rw[World.frozen?_drew,im _ _ _ _ mx])
 refine⟨?_, ?_, ?_, ?_, ?_, ?_, ?_, ?_, ?_,λj=>?_, ?_, ?_⟩
 ·simp[go_sem,q]
 ·simp[go_sem,o]
 ·simp[go_sem,n]
 ·simp[go_sem,m]
 ·simp[go_sem,l]
 ·simp[go_sem,k]
 ·simp[go_sem,i]
 ·simp[go_sem,g]
 ·simp[go_sem,f]
 ·simp[go_sem,e]
 ·simp;omega
 ·exact(((((((qf ((jS w _ _ _).drew) c).setCell mx _).setCell mx _).setCell mx _).setCell mx _).setCell mx _).setCell mx _)
theorem vge(x y:V)(g:Rng x.num):zj 14 x y (qiq (iV 0) x):=by
 intro w;have CON:=qd (λw=>qp5 (iV 0) x veg g w);obtain⟨r,i⟩:∃r,qiq (iV 0) x=r:=⟨_,rfl⟩;rw[i]at CON ⊢;clear i g
 conv=>arg 3;simp only[vV]
 go_enter func110,ntmps110
 repeat ((fail_if_success (with_reducible refine wp_exit ?_));go_step)
 with_reducible refine wp_exit ?_
 repeat (first|(with_reducible refine kH ?_)|(with_reducible refine zQ ?_)|((with_reducible refine jW ?hne ?_);(case hne=>rfl)))
 with_reducible refine jQ ?_
 go_wp2_with fail
 go_region_with(go_at_call 62;refine(yT 0 _).mono ?_;rintro e f⟨rfl,c⟩;obtain⟨s,z⟩:=qj c;have F:w.heap.size+2<f.heap.size:=(by have:=c.size;simp at this;omega);simp only[vV])
 all_goals(repeat (first|(with_reducible refine g9 ?_)|(with_reducible refine jQ ?_)))
 all_goals
  generalize J4:World.setCell _ _ _=W2;have t:=qd (qdo w f W2 x y c J4);obtain⟨E,D,C,B,b1,b2,q,o,n,fz,lt,bel⟩:=q9 t;clear J4 c s z
  go_wp2_with(go_at_call 159;refine(CON _).mono ?_;rintro e b⟨rfl,a⟩;have m:Xc b (w.heap.size+2) 0 (.int .i64 0):=((qj a).1 _ 0 lt).trans q;have l:Xc b (w.heap.size+2) 1 (.int .i64 0):=((qj a).1 _ 1 lt).trans o;have k:Xc b (w.heap.size+2) 2 (.string ⟨#[]⟩):=((qj a).1 _ 2 lt).trans n;have A:Xf b (w.heap.size+2):=(λj=>((qj a).2 _ j lt).trans (fz j));have u:=qd (qf bel a);clear a;simp only[vV])
  refine ak (by simp[go_sem,m,l,k]<;>rfl) rfl ⟨rfl, ?_⟩;exact((u.setCell my _).setCell my _).setCell my _
theorem qkz(v:V)(g:v.str.length<=140737488355328)(w:World):
  Calls prog 131 #[vV v] w λe w'=>e=.returned (.bool (kV v))/\Xb w w':=by
 have c:=qml v.str;have f:=qG v.str;unfold kV;obtain⟨a,b⟩:∃a,v.str.isEmpty=a:=⟨_,rfl⟩;rw[b]at c ⊢;clear b
 conv=>arg 3;simp only[vV]
 cases h0:(v.kind==0)
 ·cases h1:(v.kind==1)
  ·cases h2:(v.kind==2)
   ·cases h3:(v.kind==3)
    ·simp only[cu,if_false]
     go_enter func131,ntmps131
     go_wp2_with fail
     go_ret;exact⟨rfl,nw.alloc nt _⟩
    ·simp only[cu,if_false,if_true]
     go_enter func131,ntmps131
     go_wp2_with fail
     all_goals(go_ret;exact⟨qR (by simp_all<;>omega),nw.alloc nt _⟩)
   ·simp only[cu,if_false,if_true]
    go_enter func131,ntmps131
    go_wp2_with fail
    all_goals(go_ret;exact⟨qR (by simp_all<;>omega),nw.alloc nt _⟩)
  ·simp only[cu,if_false,if_true]
   go_enter func131,ntmps131
   go_wp2_with fail
   all_goals(go_ret;exact⟨qR (by simp_all<;>omega),nw.alloc nt _⟩)
 ·simp only[if_true]
  go_enter func131,ntmps131
  go_wp2_with fail
  all_goals(go_ret;exact⟨qR (by simp_all<;>omega),nw.alloc nt _⟩)
theorem qr5(s:mu)(w:World):nz 130 #[.string s] w λe w'=>e=.returned (.bool (jx s.data.toList))/\Xb w w':=by
 have m:=qr s
 by_cases h0:s.size=0
 ·have a:jx s.data.toList=false:=by
   have u:s.data.toList=[]:=cq mw;rw[u];rfl
  rw[a];have t:(s.size:Int)<1:=mw;clear a;go_enter func130,ntmps130
  go_wp2_with fail
  go_ret;exact⟨rfl,nw⟩
 have t:¬(s.size:Int)<1:=mw
 by_cases h16:s.size<=16
 ·have y:¬(s.size:Int) > 16:=mw
  have h16'':¬(16:Int)<(s.size:Int):=mw;have q:0<s.size:=mw
  have hd:s.data.toList=s[0]::s.data.toList.drop 1:=by
   have:=ce (l:=s.data.toList) (i:=0) (by rw[qr];exact q);rw[db,qy s 0 q]at this;exact this
  have g:jx s.data.toList=yp s.data.toList:=by unfold jx;rw[m,de h16,fm]
  rw[g]
  cases hb:yd s[0] with
  | false=>
   have a:yp s.data.toList=false:=by
    unfold yp;rw[hd];simp[qx,hb]
   rw[a];have k:=qd hb;clear hd g a hb;go_enter func130,ntmps130
   go_wp2_with(go_at_call 181;refine(j8 _ _).mono ?_;rintro e w'⟨rfl,rfl⟩;rw[show qa9 (s[0].toNat:Int)=false from q9 k])
   go_ret;exact⟨rfl,nw⟩
  | true=>
   have W:=qi6 s mw 0 q hb;rw[db,ee]at W;obtain⟨z,b⟩:∃z,qx s.data.toList=z:=⟨_,rfl⟩;have x:=zF s.data.toList;have A:0<z:=by rw[←b,hd];simp[qx,hb]
   rw[b]at W x;have f:vU s.data.toList=if xI (s.data.toList.take z)=2 then⟨2,0,s.data.toList.take z⟩ else qh (xI (s.data.toList.take z)):=by rw[←b];rfl
   have j:yp s.data.toList=(decide (z=s.size)&&(xI s.data.toList==2)):=by
    unfold yp;rw[b,m,de A,fm]
   have k:=qd hb
   by_cases hk:xI (s.data.toList.take z)=2
   ·rw[f,bh hk,qnm]at W
    have a:yp s.data.toList=((z:Int)==(s.size:Int)):=by
     rw[j]
     by_cases e:z=s.size
     ·rw[ez mw]at hk
      simp[e,hk]
     ·rw[cw e,ld,ae.2 (show ¬(z:Int)=(s.size:Int) by omega)]
    rw[a];unfold rtV at W;have o:=qd W;clear hd g a hb W f j hk b;go_enter func130,ntmps130
    go_wp2_with(first|(go_at_call 181;refine(j8 _ _).mono ?_;rintro e w'⟨rfl,rfl⟩;rw[show qa9 (s[0].toNat:Int)=true from q9 k])|(go_at_call 182;refine(o _).mono ?_;rintro e r⟨rfl,c⟩))
    all_goals(go_ret;exact⟨qR (by simp_all),c.alloc c.size _⟩)
   ·rw[f,aj hk]at W
    have n:5<=xI (s.data.toList.take z)/\xI (s.data.toList.take z)<=15:=(quf (l:=Lib.toUpperA (s.data.toList.take z)) hk).2;rw[ved rfl n.1 n.2]at W
    have a:yp s.data.toList=false:=by
     rw[j]
     by_cases e:z=s.size
     ·rw[ez mw]at hk
      rw[ae.2 hk,fj]
     ·rw[cw e,ld]
    rw[a];unfold rtV at W;have o:=qd W;clear hd g a hb W f j hk b n;go_enter func130,ntmps130
    go_wp2_with(first|(go_at_call 181;refine(j8 _ _).mono ?_;rintro e w'⟨rfl,rfl⟩;rw[show qa9 (s[0].toNat:Int)=true from q9 k])|(go_at_call 182;refine(o _).mono ?_;rintro e r⟨rfl,c⟩))
    all_goals(go_ret;exact⟨rfl,c.alloc c.size _⟩)
 ·have a:jx s.data.toList=false:=by unfold jx;rw[m,cw h16,ld]
  rw[a];have y:(s.size:Int) > 16:=mw;have h16'':(16:Int)<(s.size:Int):=mw;clear a;go_enter func130,ntmps130
  go_wp2_with fail
  go_ret;exact⟨rfl,nw⟩
end Go.Proofs.YtfkcaldjphakpaaGreatDoor
