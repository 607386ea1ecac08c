/- The document's answer -/
import Derived.Test.YtfkcaldjphakpaaGreatDoorM11
import Derived.Test.YtfkcaldjphakpaaGreatDoorM12
set_option maxHeartbeats 16000000
set_option maxRecDepth 100000
namespace Go.Proofs.YtfkcaldjphakpaaGreatDoor
open Go.RowKit Go.Proofs.Tryz
variable{t:Ast}{neg:Bool}{s:mu}{a c o pl:Int}{cs:List Int}{ins:List Nat}{l ns r:List RN}{ds vs:List V}{LN b cap g i k off rb:Nat}{p:Pay}{m n:RN}{st:St}{x y:V}{w wr:World}
section
def wnt(o:Int):Int:=if 14<=o/\o<=19 then 2 else if 10<=o/\o<=13\/o=20 then 2 else if 5<=o/\o<=7 then 1 else -1
def hsc(o:Int):Int:=if o=0 then 0 else if o=1 then 2 else if o=2 then 3 else if 14<=o/\o<=19 then 2 else 1
def cc(c:Int):Int:=if c=1 then 2 else if c=2 then 3 else if c=3 then 1 else c
theorem qm5(o:Int)(j:0<=o)(q:o<=23)(w:World):
  nz 217 #[.string (BS (qD o))] w λe w'=>e=.returned (.tuple #[.int .i64 (wnt o),.int .i64 (hsc o)])/\w'=w:=by
 have f:o=0\/o=1\/o=2\/o=3\/o=4\/o=5\/o=6\/o=7\/o=8\/o=9\/o=10\/o=11\/o=12\/o=13\/o=14\/o=15\/o=16\/o=17\/o=18\/o=19\/o=20\/o=21\/o=22\/o=23:=mw;rcases f with rfl|rfl|rfl|rfl|rfl|rfl|rfl|rfl|rfl|rfl|rfl|rfl|rfl|rfl|rfl|rfl|rfl|rfl|rfl|rfl|rfl|rfl|rfl|rfl
 all_goals
  simp only[BS,qD,Int.reduceEq,if_true,if_false];go_enter func217,ntmps217
  go_wp2_with fail
  exact ak (by simp[go_sem];decide) rfl ⟨rfl,rfl⟩
def qkj(l:List UInt8):Int:=(((List.range 24).find? λi=>qD (Int.ofNat i)==l).getD 23:Nat)
theorem gX(e:0<=o)(f:o<=23):qkj (qD o)=o:=by
 have:∀i:Fin 24,qkj (qD (i.val:Int))=(i.val:Int):=by decide +kernel
 have:=this ⟨o.toNat,mw⟩;rwa [show((o.toNat:Nat):Int)=o by omega]at this
def jb(cs:List Int)(k:Nat):Int:=cs.getD k 0
def jf(want c:Int):Bool:=decide (0<=want)&&c != 0&&c != want
def qgd(cs:List Int)(n:RN):Bool:=
 (n.ins.any λk=>jf (wnt (qkj n.op)) (jb cs k))||((qkj n.op==8||qkj n.op==9)&&(jb cs (n.ins.getD 0 0) != jb cs (n.ins.getD 1 0)&&jb cs (n.ins.getD 0 0) != 0&&jb cs (n.ins.getD 1 0) != 0))
def yk:List Int->List RN->Sum Int (List Int)
 | cs,[]=>.inr cs
 | cs,n::t=>if qgd cs n=true then .inl n.at' else yk (cs++[hsc (qkj n.op)]) t
theorem xT(cs:List Int)(l k:List RN):yk cs (l++k)=match yk cs l with
  | .inl q=>.inl q
  | .inr cs'=>yk cs' k:=by
 induction l generalizing cs with
 | nil=>rfl
 | cons n t ih=>
  rw[cm,yk,yk]
  split
  ·rfl
  ·exact ih _
def CEnd(cs:List Int)(l:List RN):CRes->Prop
 | .ok c=>∃ds,yk cs l=.inr (cs++ds)/\ds.length=l.length/\ds.getD (l.length - 1) 0=cc c
 | .err q=>yk cs l=.inl q
theorem gm(t:Ast):∀c,qv t=.ok c->0<=c/\c<=3:=by
 intro c h;rw[ye]at h;generalize (qF t).map qv=rs at h;generalize (j6 t).place=pl at h
 have hd:∀j f,0<=f/\f<=3->zm j pl f rs=.ok c->0<=c/\c<=3:=by
  intro j f q e;unfold zm at e
  split at e
  ·injection e with e;omega
  ·cases e
 unfold qK at h
 split at h
 ·injection h with h;omega
 split at h
 ·injection h with h;omega
 split at h
 ·injection h with h;omega
 split at h
 ·exact hd _ _ nh h
 split at h
 ·exact hd _ _ nh h
 split at h
 ·exact hd _ _ nh h
 split at h
 ·split at h
  ·rename_i a b
   unfold zk at h
   split at h
   ·cases h
   ·cases h
   ·split at h
    ·cases h
    ·injection h with h;omega
  ·injection h with h;omega
 ·injection h with h;omega
theorem vfj(ds:List Int)(h:yk cs l=.inr (cs++ds))(f:ds.length=l.length)(e:ds.getD (l.length - 1) 0=cc c):CEnd cs l (.ok c):=⟨ds,h,f,e⟩
theorem yw{ds:List Int}(h:yk cs l=.inr (cs++ds))(n:RN):yk cs (l++[n])=if qgd (cs++ds) n=true then .inl n.at' else .inr (cs++(ds++[hsc (qkj n.op)])):=by
 rw[xT,h];show yk (cs++ds) [n]=_;rw[yk]
 split
 ·rfl
 ·rw[yk,bi]
theorem qpf{ds es:List Int}(h:cs.length<=k)(e:k<cs.length+ds.length):jb (cs++ds++es) k=ds.getD (k - cs.length) 0:=by
 unfold jb;rw[aq,aq,bi,cj h,bw mw]
section
variable {p:Pay} {cs:List Int}
theorem qvi{x:Int}(h:p.op=x)(e:0<=x)(f:x<=23):qkj (js p ins neg).op=x:=by
 show qkj (qD p.op)=x;rw[h];exact gX e f
theorem qzm(off:Nat)(h:0<=p.op/\p.op<=4)(_:cs.length=off):CEnd cs [js p [] false] (qv (.leaf p)):=by
 have j:p.op=0\/p.op=1\/p.op=2\/p.op=3\/p.op=4:=mw
 have key:∀x c,p.op=x->0<=x->x<=4->qK x p.place []=.ok c->hsc x=cc c->CEnd cs [js p [] false] (qv (.leaf p)):=by
  intro x c e f A u q;rw[show qv (.leaf p)=.ok c by show qK p.op p.place []=_;rw[e];exact u];refine vfj [hsc x] ?_ rfl (by simpa using q);rw[yk,qvi e f mw,aj,yk];unfold qgd;rw[qvi e f mw]
  have z:(x==8||x==9)=false:=by
   rw[fa];exact⟨ae.2 mw,ae.2 mw⟩
  rw[z];show ¬((([]:List Nat).any _||_)=true);simp
 rcases j with h|h|h|h|h
 ·exact key 0 0 h nh nh rfl rfl
 ·exact key 1 1 h nh nh rfl rfl
 ·exact key 2 2 h nh nh rfl rfl
 ·exact key 3 3 h nh nh rfl rfl
 ·exact key 4 3 h nh nh rfl rfl
end
end
section
theorem c4(h:0<=c/\c<=3):c=0\/c=1\/c=2\/c=3:=mw
theorem vmy(e:o=5\/o=14\/o=15\/o=21\/o=22\/o=23)(pl:Int)(f:0<=c/\c<=3):∃c',hsc o=cc c'/\qK o pl [.ok c]=if jf (wnt o) (cc c)=true then .err pl else .ok c':=by
 rcases e with rfl|rfl|rfl|rfl|rfl|rfl<;>rcases c4 f with rfl|rfl|rfl|rfl<;>first
  | exact⟨3,nh,rfl⟩
  | exact⟨1,nh,rfl⟩
theorem vmu(e:o=5\/o=14\/o=15)(pl q:Int):qK o pl [.err q]=.err q:=by rcases e with rfl|rfl|rfl<;>rfl
theorem vmz(j:6<=o/\o<=13\/16<=o/\o<=19)(pl:Int){b:Int}(f:0<=a/\a<=3)(e:0<=b/\b<=3):∃c',hsc o=cc c'/\qK o pl [.ok a,.ok b]=if(jf (wnt o) (cc a)||(jf (wnt o) (cc b)||false)||((o==8||o==9)&&(cc a != cc b&&cc a != 0&&cc b != 0)))=true then .err pl else .ok c':=by
 have h:o=6\/o=7\/o=8\/o=9\/o=10\/o=11\/o=12\/o=13\/o=16\/o=17\/o=18\/o=19:=mw;rcases h with rfl|rfl|rfl|rfl|rfl|rfl|rfl|rfl|rfl|rfl|rfl|rfl<;>rcases c4 f with rfl|rfl|rfl|rfl<;>rcases c4 e with rfl|rfl|rfl|rfl<;>first
  | exact⟨3,nh,rfl⟩
  | exact⟨1,nh,rfl⟩
theorem vmp(e:6<=o/\o<=13\/16<=o/\o<=19)(pl q:Int):(∀r,qK o pl [.err q,r]=.err q)/\∀a,qK o pl [.ok a,.err q]=.err q:=by
 have h:o=6\/o=7\/o=8\/o=9\/o=10\/o=11\/o=12\/o=13\/o=16\/o=17\/o=18\/o=19:=mw;rcases h with rfl|rfl|rfl|rfl|rfl|rfl|rfl|rfl|rfl|rfl|rfl|rfl<;>exact⟨λr=>rfl,λa=>rfl⟩
theorem vn0(pl:Int){b:Int}(h:0<=a/\a<=3)(f:0<=b/\b<=3)(e:0<=c/\c<=3):qK 20 pl [.ok a,.ok b,.ok c]=if(jf 2 (cc a)||(jf 2 (cc b)||(jf 2 (cc c)||false)))=true then .err pl else .ok 3:=by
 rcases c4 h with rfl|rfl|rfl|rfl<;>rcases c4 f with rfl|rfl|rfl|rfl<;>rcases c4 e with rfl|rfl|rfl|rfl<;>rfl
theorem CEnd.err{q:Int}(h:CEnd cs l (.err q))(k:List RN):yk cs (l++k)=.inl q:=by
 have h:yk cs l=.inl q:=h;rw[xT,h]
theorem qug(l:List Int)(v:Int):(l++[v]).getD l.length 0=v:=mx
theorem qte{x:Ast}(O:cs.length=off)(L:0<l.length)(u:p.op=5\/p.op=14\/p.op=15\/p.op=21\/p.op=22\/p.op=23)(f:CEnd cs l (qv x))(D:p.op=21\/p.op=22\/p.op=23->∃c,qv x=.ok c):
  CEnd cs (l++[js p [off+l.length - 1] neg]) (qv (.un p x)):=by
 show CEnd cs _ (qK p.op p.place [qv x])
 cases hc:qv x with
 | err q=>
  rw[hc]at f D;rw[vmu (by rcases u with h|h|h|h|h|h;exact .inl h;exact .inr (.inl h);exact .inr (.inr h);all_goals(obtain⟨c,e⟩:=D mw;cases e))];exact f.err _
 | ok c=>
  rw[hc]at f;obtain⟨ds,C,B,I⟩:=f;have F:=gm x c hc;obtain⟨M,G,H⟩:=vmy u p.place F;have z:qkj (js p [off+l.length - 1] neg).op=p.op:=qvi rfl mw mw
  have K:jb (cs++ds) (off+l.length - 1)=cc c:=by
   have:=qpf (cs:=cs) (ds:=ds) (es:=[]) (k:=off+l.length - 1) mw mw;rw[ew]at this;rw[this,show off+l.length - 1 - cs.length=l.length - 1 by omega];exact I
  have A:qgd (cs++ds) (js p [off+l.length - 1] neg)=jf (wnt p.op) (cc c):=by
   unfold qgd;rw[z]
   have J:(p.op==8||p.op==9)=false:=by
    rw[fa];exact⟨ae.2 mw,ae.2 mw⟩
   rw[J,ld,gs];show([off+l.length - 1].any λk=>jf (wnt p.op) (jb (cs++ds) k))=_;simp only[List.any_cons,List.any_nil,gs,K]
  rw[H]
  split
  ·rename_i j
   show yk cs _=.inl _;rw[yw C,bh (by rw[A];exact j)];rfl
  ·rename_i j
   refine⟨ds++[hsc p.op], ?_,by simp[B], ?_⟩
   ·rw[yw C,aj (by rw[A];exact j),z]
   ·rw[←G];simp[B]
theorem qzk{x y:Ast}{k:List RN}(R:cs.length=off)(P:0<l.length)(O:0<k.length)(j:6<=p.op/\p.op<=13\/16<=p.op/\p.op<=19)(f:CEnd cs l (qv x))(e:∀ds:List Int,ds.length=l.length->CEnd (cs++ds) k (qv y)):
  CEnd cs (l++k++[js p [off+l.length - 1,off+l.length+k.length - 1] false]) (qv (.bin p x y)):=by
 show CEnd cs _ (qK p.op p.place [qv x,qv y])
 cases hc:qv x with
 | err q=>
  rw[hc]at f;rw[(vmp j p.place q).1];show yk cs _=.inl q;rw[bi];exact f.err _
 | ok a=>
  rw[hc]at f;obtain⟨ds,C,z,J⟩:=f;have e:=e ds z
  cases hd:qv y with
  | err q=>
   rw[hd]at e;rw[(vmp j p.place q).2];show yk cs _=.inl q;rw[bi,xT,C];exact e.err _
  | ok b=>
   rw[hd]at e;obtain⟨es,L,D,K⟩:=e;have F:yk cs (l++k)=.inr (cs++(ds++es)):=by rw[xT,C];show yk (cs++ds) k=_;rw[L,bi]
   obtain⟨Q,G,H⟩:=vmz j p.place (gm x a hc) (gm y b hd);have A:qkj (js p [off+l.length - 1,off+l.length+k.length - 1] false).op=p.op:=qvi rfl mw mw
   have I:jb (cs++(ds++es)) (off+l.length - 1)=cc a:=by
    rw[←bi,qpf mw mw,show off+l.length - 1 - cs.length=l.length - 1 by omega];exact J
   have M:jb (cs++(ds++es)) (off+l.length+k.length - 1)=cc b:=by
    have:=qpf (cs:=cs++ds) (ds:=es) (es:=[]) (k:=off+l.length+k.length - 1) my my;rw[ew]at this;rw[←bi,this,show off+l.length+k.length - 1 - (cs++ds).length=k.length - 1 by simp;omega];exact K
   have B:qgd (cs++(ds++es)) (js p [off+l.length - 1,off+l.length+k.length - 1] false)=(jf (wnt p.op) (cc a)||(jf (wnt p.op) (cc b)||false)||((p.op==8||p.op==9)&&(cc a != cc b&&cc a != 0&&cc b != 0))):=by
    unfold qgd;rw[A,←I,←M];rfl
   rw[H]
   split
   ·rename_i u
    show yk cs _=.inl _;rw[yw F,bh (by rw[B];exact u)];rfl
   ·rename_i u
    refine⟨ds++es++[hsc p.op], ?_,by simp[z,D], ?_⟩
    ·rw[yw F,aj (by rw[B];exact u),A]
    ·rw[←G];simp[z,D]
theorem qmw{x y z:Ast}{k:List RN}(Z:cs.length=off)(X:0<l.length)(W:0<k.length)(Y:0<r.length)(C:p.op=20)(u:CEnd cs l (qv x))(j:∀ds:List Int,ds.length=l.length->CEnd (cs++ds) k (qv y))(f:∀ds:List Int,ds.length=l.length+k.length->CEnd (cs++ds) r (qv z)):
  CEnd cs (l++k++r++[js p [off+l.length - 1,off+l.length+k.length - 1,off+l.length+k.length+r.length - 1] neg]) (qv (.tri p x y z)):=by
 show CEnd cs _ (qK p.op p.place [qv x,qv y,qv z]);rw[C]
 cases hc:qv x with
 | err q=>
  rw[hc]at u;show yk cs _=.inl q;rw[bi,bi];exact u.err _
 | ok a=>
  rw[hc]at u;obtain⟨ds,G,B,L⟩:=u;have j:=j ds B
  cases hd:qv y with
  | err q=>
   rw[hd]at j;show yk cs _=.inl q;rw[bi,bi,xT,G];exact j.err _
  | ok b=>
   rw[hd]at j;obtain⟨es,O,H,M⟩:=j;have I:yk cs (l++k)=.inr (cs++(ds++es)):=by rw[xT,G];show yk (cs++ds) k=_;rw[O,bi]
   have f:=f (ds++es) (by simp[B,H])
   cases hf:qv z with
   | err q=>
    rw[hf]at f;show yk cs _=.inl q;rw[bi,xT,I];exact f.err _
   | ok c=>
    rw[hf]at f;obtain⟨e,R,Q,P⟩:=f;have J:yk cs (l++k++r)=.inr (cs++(ds++es++e)):=by rw[xT,I];show yk (cs++(ds++es)) r=_;rw[R,bi]
    have D:qkj (js p [off+l.length - 1,off+l.length+k.length - 1,off+l.length+k.length+r.length - 1] neg).op=20:=qvi C nh nh
    have K:jb (cs++(ds++es++e)) (off+l.length - 1)=cc a:=by
     rw[bi ds,←bi cs,qpf mw mw,show off+l.length - 1 - cs.length=l.length - 1 by omega];exact L
    have U:jb (cs++(ds++es++e)) (off+l.length+k.length - 1)=cc b:=by
     rw[bi ds,←bi cs,←bi (cs++ds),qpf my my,show off+l.length+k.length - 1 - (cs++ds).length=k.length - 1 by simp;omega];exact M
    have T:jb (cs++(ds++es++e)) (off+l.length+k.length+r.length - 1)=cc c:=by
     have:=qpf (cs:=cs++(ds++es)) (ds:=e) (es:=[]) (k:=off+l.length+k.length+r.length - 1) my my;rw[ew]at this;rw[←bi cs,this,show off+l.length+k.length+r.length - 1 - (cs++(ds++es)).length=r.length - 1 by simp;omega];exact P
    have F:qgd (cs++(ds++es++e)) (js p [off+l.length - 1,off+l.length+k.length - 1,off+l.length+k.length+r.length - 1] neg)=(jf 2 (cc a)||(jf 2 (cc b)||(jf 2 (cc c)||false))):=by
     unfold qgd;rw[D,←K,←U,←T];rw[show(((20:Int)==8)||((20:Int)==9))=false from rfl,ld,gs];rfl
    rw[vn0 p.place (gm x a hc) (gm y b hd) (gm z c hf)]
    split
    ·rename_i A
     show yk cs _=.inl _;rw[yw J,bh (by rw[F];exact A)];rfl
    ·rename_i A
     refine⟨ds++es++e++[hsc 20], ?_,by simp[B,H,Q], ?_⟩
     ·rw[yw J,aj (by rw[F];exact A),D]
     ·rw[show(l++k++r++[js p [off+l.length - 1,off+l.length+k.length - 1,off+l.length+k.length+r.length - 1] neg]).length - 1=(ds++es++e).length by simp only[bu,da];omega,qug]
      decide
theorem qtc{x:Ast}(h:∀c,qv x=.ok c->c=3):qv (.un ⟨5,pl,0,[],[],[]⟩ x)=qv x:=by
 show qK 5 pl [qv x]=_
 cases hx:qv x with
 | err q=>rfl
 | ok c=>rw[h c hx];rfl
theorem qkf{x:Ast}(h:ShA x)(e:opA x=0):qv x=.ok 0:=by
 cases x with
 | leaf p=>show qK p.op p.place []=_;rw[show p.op=0 from e];rfl
 | un p x=>exact absurd h.1 (by have:p.op=0:=e;omega)
 | bin p x y=>exact absurd h.1 (by have:p.op=0:=e;omega)
 | tri p x y z=>exact absurd h.1 (by have:p.op=0:=e;omega)
theorem qzl:∀{t:Ast} {off:Nat} {l:List RN},Flat t off l->ShA t->∀cs:List Int,cs.length=off->CEnd cs l (qv t):=by
 intro t off l h
 induction h with
 | leaf p off=>intro f cs j;exact qzm off f j
 | un p hx ih=>
  intro f cs j;exact qte j hx.pos f.1 (ih f.2.2.2 cs j) (λe=>⟨0,qkf f.2.2.2 (f.2.2.1 e)⟩)
 | bin p hx hy ihx ihy=>
  intro f cs j;exact qzk j hx.pos hy.pos f.1 (ihx f.2.1 cs j) (λds hd=>ihy f.2.2 (cs++ds) my)
 | tri p hx hy hz ihx ihy ihz=>
  intro f cs j;exact qmw j hx.pos hy.pos hz.pos f.1 (ihx f.2.1 cs j) (λds hd=>ihy f.2.2.1 (cs++ds) my) (λds hd=>ihz f.2.2.2 (cs++ds) my)
 | neg1 pl q hq hx ih=>
  intro f cs j;obtain⟨_,_,_,f⟩:=f;have z:q.op=21\/q.op=22\/q.op=23:=hq
  rw[qtc (λc e=>by
   have:qK q.op q.place [qv _]=.ok c:=e;rw[qkf f.2.2.2 (f.2.2.1 z)]at this
   rcases z with e|e|e<;>rw[e]at this<;>(injection this with this;exact this.symm))]
  exact qte j hx.pos f.1 (ih f.2.2.2 cs j) (λe=>⟨0,qkf f.2.2.2 (f.2.2.1 e)⟩)
 | neg3 pl q hq hx hy hz ihx ihy ihz=>
  intro f cs j;obtain⟨_,_,_,f⟩:=f
  rw[qtc (λc e=>by
   have:qK q.op q.place [qv _,qv _,qv _]=.ok c:=e;rw[hq]at this;have u:zm 1 q.place 3 _=.ok c:=this;unfold zm at u
   split at u
   ·injection u with u;exact u.symm
   ·cases u)]
  exact qmw j hx.pos hy.pos hz.pos f.1 (ihx f.2.1 cs j) (λds hd=>ihy f.2.2.1 (cs++ds) my) (λds hd=>ihz f.2.2.2 (cs++ds) my)
end
section
theorem NodesAt.cells(h:NodesAt w rb (.slice (some ⟨g,0,none⟩) LN cap) ns)(j:ns[i]?=some n):
  LN=ns.length/\∃iv lv,RowOf w rb 3 iv (gK n.ins)/\RowOf w rb 9 lv (qu n.texts)/\∀k,k<9->w.cell? ⟨g,i * 9+k,none⟩=(kw n iv lv)[k]?:=by
 obtain⟨f,F,u,z⟩:=h;have I:=(au.1 j).1
 have D:LN=ns.length:=by
  obtain⟨_,B|⟨G,cap',cur,e,_⟩⟩:=u
  ·cases B.1
  ·injection e with _ H _
 subst D;obtain⟨r,q⟩:∃r,f[i]?=some r:=⟨f[i],ag mw⟩;have A:(ns.zip f)[i]?=some (n,r):=by rw[lu];exact⟨j,q⟩
 refine⟨rfl,r.1,r.2,(z i n r j q).1,(z i n r j q).2,λk C=>?_⟩;rw[u.cellAt (i * 9+k) mw];exact vj3 (λx:RN×(Value×Value)=>kw x.1 x.2.1 x.2.2) (λa=>rfl) (ns.zip f) i (n,r) A k C
theorem RowOf.get{ty:TypeId}{v:Value}{vs:List Value}(h:RowOf w rb ty v vs){u:Value}(e:vs[k]?=some u):∃q cap,v=.slice (some ⟨q,0,none⟩) vs.length cap/\Xc w q k u:=by
 rcases h with⟨rfl,_⟩|⟨q,cap,c,fr,j,_,z,_,f⟩
 ·simp at e
 ·refine⟨q,cap,j, ?_⟩
  have:=f k u e;simp[World.cell?,z,this]
theorem qn6{α:Type}(f:α->List Value)(j:∀a,(f a).length=9)(v:Value):∀(l:List α) (i:Nat) (a e:α),l[i]?=some a->f e=(f a).set 8 v->(l.set i e).flatMap f=(l.flatMap f).set (i * 9+8) v:=by
 intro l
 induction l with
 | nil=>intro i a e h;simp at h
 | cons b l ih=>
  intro i a e h q
  cases i with
  | zero=>
   simp at h;subst h;rw[List.set_cons_zero,dw,dw,q,List.set_append_left _ _ (by rw[j];omega)]
  | succ i=>
   rw[List.set_cons_succ,dw,dw,List.set_append_right _ _ (by rw[j];omega),j,ih i a e (by simpa using h) q,show(i+1) * 9+8 - 9=i * 9+8 by omega]
theorem NodesAt.setCls(h:NodesAt w rb (.slice (some ⟨g,0,none⟩) LN cap) ns)(c0:Xc w rb 0 (.slice (some ⟨g,0,none⟩) LN cap))(D:ns[i]?=some n)(c:Int):
  NodesAt (w.setCell ⟨g,i * 9+8,none⟩ (.int .i64 c)) rb (.slice (some ⟨g,0,none⟩) LN cap) (ns.set i { n with cls:=c })/\TKept rb w (w.setCell ⟨g,i * 9+8,none⟩ (.int .i64 c))/\(w.setCell ⟨g,i * 9+8,none⟩ (.int .i64 c)).heap[rb]?=w.heap[rb]?/\Xf w g:=by
 obtain⟨f,H,G,B⟩:=h;have L:=(au.1 D).1;have Z:gJ w rb g:=.inr ⟨_,c0,rfl⟩;have O:=G.lt g rfl;have J:g≠rb:=mw;have P:(w.setCell ⟨g,i * 9+8,none⟩ (.int .i64 c)).heap[rb]?=w.heap[rb]?:=bo w ⟨g,i * 9+8,none⟩ _ rb (λe=>J e.symm)
 have u:TKept rb w (w.setCell ⟨g,i * 9+8,none⟩ (.int .i64 c)):=by
  refine⟨rfl,rfl,rfl,mx,λk _ P9=>bo w ⟨g,i * 9+8,none⟩ _ k (λe=>P9 (by have Y:k=g:=e;rw[Y];exact Z)),λk _ C=>(qkl w J (i * 9+8) _ k).1 C⟩
 obtain⟨FW,M|⟨g',cap',cur,e,I7,K,U,T,R,Q⟩⟩:=G
 ·cases M.1
 injection e with z X W;injection z with z;injection z with z;subst z X W;have F:(ns.zip f)[i]?=some (n,f[i]'mw):=by rw[lu];exact⟨D,ag mw⟩
 have I:((ns.set i { n with cls:=c }).zip f)=(ns.zip f).set i ({ n with cls:=c },f[i]'mw):=by
  apply List.ext_getElem?;intro k;rw[List.getElem?_set,List.zip_eq_zipWith,List.zip_eq_zipWith,List.getElem?_zipWith,List.getElem?_zipWith,List.getElem?_set]
  by_cases C:i=k
  ·subst C
   simp[L,H]
  ·simp[C]
 refine⟨⟨f,by simp[H],⟨?_,.inr ⟨g,cap,cur.setIfInBounds (i * 9+8) (.int .i64 c),mx,I7,gD K _ _,by simpa using U,T,by simpa using R, ?_⟩⟩,λj m r q A=>?_⟩,u,P,λj=>(yC K).2 j⟩
 ·rw[I,qn6 (λx:RN×(Value×Value)=>kw x.1 x.2.1 x.2.2) (λa=>rfl) (.int .i64 c) (ns.zip f) i _ _ F rfl,List.length_set,List.length_set]
  exact FW
 ·rw[I,qn6 (λx:RN×(Value×Value)=>kw x.1 x.2.1 x.2.2) (λa=>rfl) (.int .i64 c) (ns.zip f) i _ _ F rfl,List.length_set,←Q,Array.toList_setIfInBounds,List.take_set]
 ·by_cases FZ:i=j
  ·subst FZ
   rw[List.getElem?_set_self L]at q;injection q with q;subst q;exact⟨(B i n r D A).1.kept u,(B i n r D A).2.kept u⟩
  ·rw[List.getElem?_set_ne FZ]at q
   exact⟨(B j m r q A).1.kept u,(B j m r q A).2.kept u⟩
def ze(ns:List RN)(cs:List Int):List RN:=(ns.zipIdx).map λx=>{ x.1 with cls:=if x.2<cs.length then cs.getD x.2 0 else x.1.cls }
theorem qip(ns:List RN):ze ns []=ns:=by
 unfold ze;apply List.ext_getElem?;intro i;rw[dd,List.getElem?_zipIdx];cases ns[i]?<;>simp
theorem xX:(ze ns cs)[i]?=(ns[i]?).map λn=>{ n with cls:=if i<cs.length then cs.getD i 0 else n.cls }:=by
 unfold ze;rw[dd,List.getElem?_zipIdx];cases ns[i]?<;>simp
theorem qcr(ns:List RN)(cs:List Int):(ze ns cs).length=ns.length:=by unfold ze;simp
theorem qs7(h:ns[cs.length]?=some n)(c:Int):(ze ns cs).set cs.length { n with cls:=c }=ze ns (cs++[c]):=by
 apply List.ext_getElem?;intro i;have e:=(au.1 h).1;rw[List.getElem?_set,xX,xX]
 by_cases hi:cs.length=i
 ·subst hi
  rw[bh rfl,bh (by rw[qcr];exact e),h];simp
 ·rw[aj hi]
  cases hn:ns[i]? with
  | none=>rfl
  | some m=>
   simp only[it]
   by_cases h2:i<cs.length
   ·have:i<(cs++[c]).length:=my
    simp[h2,bw h2];omega
   ·have:¬i<(cs++[c]).length:=my
    simp[h2];omega
end
section
structure NF(i:Nat)(n:RN)(o:Int):Prop where
 o0:0<=o
 o23:o<=23
 op:n.op=qD o
 ins:∀k∈n.ins,k<i
 two:o=8\/o=9->∃a b,n.ins=[a,b]
 few:n.ins.length<=3
def qd7(R:Sum Int (List Int))(top:Nat):Int×Int:=match R with
 | .inl q=>(4,q)
 | .inr cs=>if cs.getD top 0≠0/\cs.getD top 0≠1 then(4,0) else(0,0)
theorem qcf(h:ns[cs.length]?=some n):yk cs (ns.drop cs.length)=if qgd cs n=true then .inl n.at' else yk (cs++[hsc (qkj n.op)]) (ns.drop (cs.length+1)):=by
 have e:=(au.1 h).1;rw[ce e,(au.1 h).2,yk]
theorem va1(o:Int)(e:0<=o)(f:o<=23):((BS (qD o)).toList==[61])=(o==8)/\((BS (qD o)).toList==[60,62])=(o==9):=by
 rw[qM];have:∀i:Fin 24,(qD (i.val:Int)==[61])=((i.val:Int)==8)/\(qD (i.val:Int)==[60,62])=((i.val:Int)==9):=by decide +kernel
 have:=this ⟨o.toNat,mw⟩;rwa [show((o.toNat:Nat):Int)=o by omega]at this
structure ClW(w:World)(rb g LN cap:Nat)(ns:List RN)(cs:List Int)(wr:World):Prop where
 c0:wr.cell? ⟨rb,0,none⟩=some (.slice (some ⟨g,0,none⟩) LN cap)
 nodes:NodesAt wr rb (.slice (some ⟨g,0,none⟩) LN cap) (ze ns cs)
 kept:TKept rb w wr
 lt:rb<wr.heap.size
theorem ClW.below{f:World}(h:ClW w rb g LN cap ns cs wr)(e:Xb wr f):ClW w rb g LN cap ns cs f:=
 ⟨((qj e).1 _ _ h.lt).trans h.c0,h.nodes.below h.lt e,h.kept.trans (TKept.of_below e h.lt),bg h.lt e.size⟩
theorem ClW.cls(h:ClW w rb g LN cap ns cs wr)(f:k<cs.length)(q:cs.length<=ns.length):wr.cell? ⟨g,k * 9+8,none⟩=some (.int .i64 (jb cs k)):=by
 have e:(ze ns cs)[k]?=some { ns[k]'mw with cls:=cs.getD k 0 }:=by
  rw[xX,ag mw];simp[f]
 obtain⟨_,iv,lv,_,_,j⟩:=h.nodes.cells e;rw[j 8 mw];rfl
theorem ClW.set(h:ClW w rb g LN cap ns cs wr)(e:ns[cs.length]?=some n)(c:Int):ClW w rb g LN cap ns (cs++[c]) (wr.setCell ⟨g,cs.length * 9+8,none⟩ (.int .i64 c))/\TKept rb wr (wr.setCell ⟨g,cs.length * 9+8,none⟩ (.int .i64 c))/\g<wr.heap.size/\Xf wr g:=by
 have B:(ze ns cs)[cs.length]?=some n:=by rw[xX,e];simp
 obtain⟨j,f,A,z⟩:=h.nodes.setCls h.c0 B c;rw[qs7 e]at j;have u:g<wr.heap.size:=by obtain⟨C,_,q,_⟩:=h.nodes;exact(q.lt g rfl).2
 exact⟨⟨(aw (w:=wr) (a:=⟨rb,0,none⟩) A).trans h.c0,j,h.kept.trans f,by simpa using h.lt⟩,f,u,z⟩
theorem qj0(e:NF i n o):qgd cs n=((n.ins.any λk=>jf (wnt o) (jb cs k))||((o==8||o==9)&&(jb cs (n.ins.getD 0 0) != jb cs (n.ins.getD 1 0)&&jb cs (n.ins.getD 0 0) != 0&&jb cs (n.ins.getD 1 0) != 0))):=by
 unfold qgd;rw[e.op,gX e.o0 e.o23]
end
section
def vez(rb:Nat)(w:World)(ns:List RN)(er pl:Int)(e:Ending)(w':World):Prop:=
 e=.returned (.tuple #[.int .i64 er,.int .i64 pl])/\TKept rb w w'/\∃g LN cap cs,ClW w rb g LN cap ns cs w'
theorem qad(h0:ClW w rb g LN cap ns [] w)(hne:0<ns.length)(B8:ns.length<=1000)(hf:∀i n,ns[i]?=some n->∃o,NF i n o):
  nz 175 #[.pointer (some ⟨rb,0,none⟩),.int .i64 ((ns.length - 1:Nat):Int)] w (vez rb w ns (qd7 (yk [] ns) (ns.length - 1)).1 (qd7 (yk [] ns) (ns.length - 1)).2):=by
 obtain⟨R,hR⟩:∃r,yk [] ns=r:=⟨_,rfl⟩;rw[hR];have HR:=qd hR
 have dZ:LN=ns.length:=by
  obtain⟨rs,_,ho,_⟩:=h0.nodes;rw[qip]at ho;obtain⟨_,hx|⟨g',cap',cur,e,_⟩⟩:=ho
  ·cases hx.1
  ·injection e with _ e2 _
 obtain⟨J,oW⟩:∃t:Nat,ns.length - 1=t:=⟨_,rfl⟩;rw[oW];have V2:J<LN:=mw;have H0:=qd h0;have HF:=qd hf;have Y:=qd dZ;have HNE:=qd B8;clear h0 hR hf dZ oW B8 hne;go_enter func175,ntmps175
 go_wp2_with fail
 go_loopw [6] (λi wr=>∃cs:List Int,cs.length<=LN/\i=.int .i64 (cs.length:Int)/\Hid (R=yk cs (ns.drop cs.length))/\Hid (ClW w rb g LN cap ns cs wr)) (λi _=>LN - (intOf i).toNat)
 case atStart=>exact⟨[],bj _,rfl,qd (by rw[eo,db,q9 HR]),H0⟩
 case round=>
  obtain⟨cs,O5,rfl,BG,D⟩:=hrel;obtain⟨i,hi⟩:∃i,cs.length=i:=⟨_,rfl⟩;have f:=qd hi;rw[hi]at O5 BG ⊢;clear hi;have c0:=(q9 D).c0;have A0:=(q9 D).lt;have hmx:=q9 HNE;have QP:=q9 Y;have PW:LN<=1000:=mw;clear hmx QP
  by_cases hil:i<LN
  ·have PB:(i:Int)<(LN:Int):=mw
   have M7:(0:Int)<=(i:Int):=mw;obtain⟨n,hn⟩:∃n,ns[cs.length]?=some n:=⟨_,ag (by have:=q9 f;have:=q9 Y;omega)⟩;obtain⟨o,U⟩:=q9 HF _ n hn;have aW:(ze ns cs)[cs.length]?=some n:=by rw[xX,hn];simp
   obtain⟨nY,iv,lv,m7,Z6,C⟩:=(q9 D).nodes.cells aW;clear nY;rw[q9 f]at C;have e0:wr.cell? ⟨g,i * 9,none⟩=some (.string (BS (qD o))):=by have:=C 0 mw;rw[Nat.add_zero]at this;rw[←U.op];exact this
   have e1:wr.cell? ⟨g,i * 9+1,none⟩=some (.int .i64 n.at'):=C 1 mw;have e2:wr.cell? ⟨g,i * 9+2,none⟩=some iv:=C 2 mw;have e3:wr.cell? ⟨g,i * 9+3,none⟩=some (.string (BS n.str)):=C 3 mw;have e4:wr.cell? ⟨g,i * 9+4,none⟩=some (.string (BS n.esc)):=C 4 mw;have e5:wr.cell? ⟨g,i * 9+5,none⟩=some lv:=C 5 mw;have e6:wr.cell? ⟨g,i * 9+6,none⟩=some (.int .i64 n.num):=C 6 mw;have e7:wr.cell? ⟨g,i * 9+7,none⟩=some (.bool n.neg):=C 7 mw;have e8:wr.cell? ⟨g,i * 9+8,none⟩=some (.int .i64 n.cls):=C 8 mw;obtain⟨hS,LQ,wX,hgz⟩:=(q9 D).set hn (hsc o);rw[q9 f]at hS LQ;obtain⟨F,aU⟩:∃x,wnt o=x:=⟨_,rfl⟩;obtain⟨z,LA⟩:∃x,hsc o=x:=⟨_,rfl⟩;have HWN:Hid (∀w,nz 217 #[.string (BS (qD o))] w λe w'=>e=.returned (.tuple #[.int .i64 F,.int .i64 z])/\w'=w):=qd λw=>by rw[←aU,←LA];exact qm5 o U.o0 U.o23 w
   rw[LA]at hS LQ;have HS:=qd hS;have JQ:=qd (m7.kept LQ);obtain⟨w8,KN⟩:=va1 o U.o0 U.o23;have B:=qd U;have HN:=qd hn;have YL:=qd aU;have HHS:=qd LA;obtain⟨ia,ic,rfl⟩:=m7.form;obtain⟨la,lc,rfl⟩:=Z6.form;have nr:¬rb=wr.heap.size:=mw;have ng:¬g=wr.heap.size:=mw;obtain⟨A,nE⟩:∃x,(gK n.ins).length=x:=⟨_,rfl⟩;obtain⟨lT,mC⟩:∃x,(qu n.texts).length=x:=⟨_,rfl⟩;rw[nE]at e2 JQ;rw[mC]at e5;have fZ:Hid (n.ins.length=A):=qd (by rw[←nE];simp[gK]);have oP:=qd e1;obtain⟨W,hW⟩:∃W:World,W=(wr.setCell ⟨g,i * 9+8,none⟩ (.int .i64 z)).alloc (.cells #[.string (BS (qD o)),.int .i64 n.at',.slice ia A ic,.string (BS n.str),.string (BS n.esc),.slice la lT lc,.int .i64 n.num,.bool n.neg,.int .i64 n.cls] 241):=⟨_,rfl⟩;have lH:Below (wr.setCell ⟨g,i * 9+8,none⟩ (.int .i64 z)).heap.size (wr.setCell ⟨g,i * 9+8,none⟩ (.int .i64 z)) W:=hW ▸ nw.alloc nt _
   have CA:=qd (HS.below lH);have ZF:=qd (JQ.kept (TKept.of_below lH HS.lt));have cK:∀k,W.cell? ⟨wr.heap.size,k,none⟩=#[.string (BS (qD o)),.int .i64 n.at',.slice ia A ic,.string (BS n.str),.string (BS n.esc),.slice la lT lc,.int .i64 n.num,.bool n.neg,.int .i64 n.cls][k]?:=λk=>by rw[hW,cd _ _ _ _ mx]
   have mF:W.heap.size=wr.heap.size+1:=by rw[hW];simp
   have HW:=qd hW;have BE:=qd mF;have U9:=qd cK;clear hn U aW m7 Z6 C hS LQ aU LA nE mC lH cK hW mF
   go_wp2_with(go_at_call 217;refine(HWN _).mono ?_;rintro e w1⟨rfl,cD⟩;subst w1)
   rw[←q9 HW];clear e0 e1 e2 e3 e4 e5 e6 e7 e8;obtain⟨wo,rfl⟩:∃wo:World,wo=wr:=⟨_,rfl⟩
   go_loopw [10] (λk wq=>∃m:Nat,m<=A/\k=.int .i64 m/\Hid (∀j q,j<m->n.ins[j]?=some q->jf F (jb cs q)=false)/\Hid (Xb W wq)) (λk _=>A - (intOf k).toNat)
   case atStart=>exact⟨0,bj _,rfl,qd (λj q hj=>absurd hj mw),qd nw⟩
   case round=>
    obtain⟨m,hm,rfl,HM,BM⟩:=hrel;obtain⟨L0,rB⟩:=qj BM;have IE:=(q9 CA).below BM;have d0:wr.cell? ⟨rb,0,none⟩=some (.slice (some ⟨g,0,none⟩) LN cap):=IE.c0;have NO:=(q9 BM).size;have f0:wr.cell? ⟨wo.heap.size,0,none⟩=some (.string (BS (qD o))):=(L0 _ 0 (by have:=q9 BE;omega)).trans (U9 0);have f1:wr.cell? ⟨wo.heap.size,1,none⟩=some (.int .i64 n.at'):=(L0 _ 1 (by have:=q9 BE;omega)).trans (U9 1);have f2:wr.cell? ⟨wo.heap.size,2,none⟩=some (.slice ia A ic):=(L0 _ 2 (by have:=q9 BE;omega)).trans (U9 2);have DO:=(q9 ZF).kept (TKept.of_below BM CA.lt);have EF:=qd IE;have OW:A<=3:=by have:=q9 fZ;have:=(q9 B).few;omega
    by_cases hml:m<A
    ·obtain⟨q,G⟩:∃q,n.ins[m]?=some q:=⟨_,ag (by have:=q9 fZ;omega)⟩
     have hqi:q<i:=by have:=(q9 B).ins q (ch G);rwa [q9 f]at this
     obtain⟨q0,ca,Q,hqc⟩:=DO.get (k:=m) (u:=.int .i64 (q:Int)) (by simp[gK,G]);injection Q with Q D8 S4;clear D8 S4;subst Q;have O5:=IE.cls (k:=q) (by simp;have:=q9 f;omega) (by simp;have:=q9 f;have:=q9 Y;omega);rw[show jb (cs++[z]) q=jb cs q by unfold jb;rw[aq,aq,bw (by have:=q9 f;omega)]]at O5;obtain⟨c,L⟩:∃c,jb cs q=c:=⟨_,rfl⟩;rw[L]at O5
     have eF:Hid (jf F c=false->∀j r,j<m+1->n.ins[j]?=some r->jf F (jb cs r)=false):=qd λhf j r hj hr=>by
      by_cases hjm:j=m
      ·subst hjm;rw[G]at hr;injection hr with hr;subst hr;rw[L];exact hf
      ·exact q9 HM j r mw hr
     have HE:Hid (jf F c=true->qd7 R J=(4,n.at')):=qd λhf=>by
      have M:qgd cs n=true:=by
       rw[qj0 (q9 B),dk]
       left
       rw[List.any_eq_true];exact⟨q,ch G,by rw[q9 YL,L];exact hf⟩
      rw[q9 BG,←q9 f,qcf (q9 HN),bh M];rfl
     have sB:(0:Int)<=(m:Int):=mw;have mB:(m:Int)<(A:Int):=mw;have FF:(0:Int)<=(q:Int):=mw;have dS:(q:Int)<(LN:Int):=mw;clear G L L0 rB IE DO HM CA ZF BG HN
     by_cases hw:0<=F
     ·by_cases U0:c=0
      ·subst U0
       go_wp2_with fail
       go_quiet (fail)
       go_wp2_with fail
       go_roundw
       case rel=>exact⟨m+1,mw,by go_num,qd (eF (by unfold jf;simp)),qd (dr BM _)⟩
       case measure=>simp[intOf];omega
      ·by_cases W9:c=F
       ·have b1:(c != 0)=true:=by simpa using U0
        have b2:(c != F)=false:=by rw[W9];simp
        go_wp2_with fail
        go_quiet (fail)
        go_wp2_with fail
        go_roundw
        case rel=>exact⟨m+1,mw,by go_num,qd (eF (by unfold jf;rw[b2];simp)),qd (dr BM _)⟩
        case measure=>simp[intOf];omega
       ·have b1:(c != 0)=true:=by simpa using U0
        have b2:(c != F)=true:=by simpa using W9
        have rM:=qd (HE (by unfold jf;rw[b1,b2,de hw];rfl));clear HE eF
        go_wp2_with fail
        go_quiet (fail)
        go_wp2_with fail
        go_quiet (fail)
        go_wp2_with fail
        have IF:=λa b=>EF.below (dr (dr (Below.refl wr.heap.size wr) a) b)
        exact nx ⟨by rw[q9 rM],(IF _ _).kept,g,LN,cap,_,IF _ _⟩
     ·go_wp2_with fail
      go_quiet (fail)
      go_wp2_with fail
      go_roundw
      case rel=>exact⟨m+1,mw,by go_num,qd (eF (by unfold jf;rw[cw mw];simp)),qd (dr BM _)⟩
      case measure=>simp[intOf];omega
    ·have hml':¬(m:Int)<(A:Int):=mw
     have hmE:m=A:=mw
     have dP:Hid (∀q∈n.ins,jf F (jb cs q)=false):=qd λq G=>by
      obtain⟨j,hj⟩:=dy G;exact q9 HM j q (by have:=(au.1 hj).1;have:=q9 fZ;omega) hj
     have CF:Hid ((n.ins.any λk=>jf (wnt o) (jb cs k))=false):=qd (by
      rw[List.any_eq_false];intro q G
      rw[q9 YL,q9 dP q G];simp)
     have H:Hid (qgd cs n=false->R=yk (cs++[z]) (ns.drop (cs++[z]).length)):=qd λM=>by
      rw[q9 BG,←q9 f,qcf (q9 HN),aj (by rw[M];simp),B.op,gX B.o0 B.o23,q9 HHS,bu];rfl
     have EC:Hid (qgd cs n=true->qd7 R J=(4,n.at')):=qd λM=>by
      rw[q9 BG,←q9 f,qcf (q9 HN),bh M];rfl
     have I:Hid ((cs++[z]).length=i+1):=qd (by rw[bu,q9 f];rfl);clear L0 rB IE HM CA BG HN hmE
     by_cases h8:o=8\/o=9
     ·obtain⟨a,b,Z⟩:=(q9 B).two h8
      have sF:A=2:=by have:=q9 fZ;rw[Z]at this;exact this.symm
      have hai:a<i:=by have:=(q9 B).ins a (by rw[Z];simp);rwa [q9 f]at this
      have hbi:b<i:=by have:=(q9 B).ins b (by rw[Z];simp);rwa [q9 f]at this
      obtain⟨q0,ca,Q,hqa⟩:=DO.get (k:=0) (u:=.int .i64 (a:Int)) (by simp[gK,Z]);injection Q with Q D8 S4;clear D8 S4;subst Q;obtain⟨q1,cb,T,hqb⟩:=DO.get (k:=1) (u:=.int .i64 (b:Int)) (by simp[gK,Z]);injection T with T D8 S4;injection T with T;injection T with T;clear D8 S4;subst T;have WQ:=(q9 EF).cls (k:=a) (by simp;have:=q9 f;omega) (by simp;have:=q9 f;have:=q9 Y;omega);have aE:=(q9 EF).cls (k:=b) (by simp;have:=q9 f;omega) (by simp;have:=q9 f;have:=q9 Y;omega)
      have hcut:∀q,q<i->jb (cs++[z]) q=jb cs q:=λq G=>by
       unfold jb;rw[aq,aq,bw (by have:=q9 f;omega)]
      rw[hcut a hai]at WQ;rw[hcut b hbi]at aE
      have sM:qgd cs n=(jb cs a != jb cs b&&jb cs a != 0&&jb cs b != 0):=by
       rw[qj0 (q9 B),q9 CF,io,Z];rw[show(o==8||o==9)=true by rcases h8 with e|e<;>rw[e]<;>rfl,fm];rfl
      obtain⟨x,hx⟩:∃x,jb cs a=x:=⟨_,rfl⟩;obtain⟨y,hy⟩:∃y,jb cs b=y:=⟨_,rfl⟩;rw[hx]at WQ sM;rw[hy]at aE sM;have K:=qd sM;have DI:(0:Int)<=(a:Int):=mw;have A1:(0:Int)<=(b:Int):=mw;have rD:(a:Int)<(LN:Int):=mw;have A3:(b:Int)<(LN:Int):=mw;have IF:=λu=>EF.below (dr (Below.refl wr.heap.size wr) u)
      have hz:((BS (qD o)).toList==[61])=true\/(((BS (qD o)).toList==[61])=false/\((BS (qD o)).toList==[60,62])=true):=by
       rcases h8 with e|e
       ·left;rw[w8,e];rfl
       ·right;exact⟨by rw[w8,e];rfl,by rw[KN,e];rfl⟩
      subst sF;have CB:=qd IF;have JU:=qd (λu v=>EF.below (dr (dr (Below.refl wr.heap.size wr) u) v))
      have GK:(x != y)=false\/((x != y)=true/\(x != 0)=false)\/((x != y)=true/\(x != 0)=true/\(y != 0)=false)\/((x != y)=true/\(x != 0)=true/\(y != 0)=true):=by
       cases (x != y)<;>cases (x != 0)<;>cases (y != 0)<;>simp
      clear hx hy sM hcut DO w8 KN Z CF dP IF h8;rcases GK with P|⟨P,x2⟩|⟨P,x2,x3⟩|⟨P,x2,x3⟩
      ·rcases hz with O|⟨O,z9⟩
       all_goals
        have X:=qd (H (by rw[q9 K,P];simp));clear H EC K
        go_wp2_with fail
        go_quiet (fail)
        go_wp2_with fail
        go_quiet (fail)
        go_wp2_with fail
        go_roundw
        case rel=>exact⟨cs++[z],by rw[q9 I];omega,by rw[q9 I];go_num,X,qd (CB _)⟩
        case measure=>simp[intOf];omega
      ·rcases hz with O|⟨O,z9⟩
       all_goals
        have X:=qd (H (by rw[q9 K,P,x2];simp));clear H EC K
        go_wp2_with fail
        go_quiet (fail)
        go_wp2_with fail
        go_quiet (fail)
        go_wp2_with fail
        go_roundw
        case rel=>exact⟨cs++[z],by rw[q9 I];omega,by rw[q9 I];go_num,X,qd (CB _)⟩
        case measure=>simp[intOf];omega
      ·rcases hz with O|⟨O,z9⟩
       all_goals
        have X:=qd (H (by rw[q9 K,P,x2,x3];simp));clear H EC K
        go_wp2_with fail
        go_quiet (fail)
        go_wp2_with fail
        go_quiet (fail)
        go_wp2_with fail
        go_roundw
        case rel=>exact⟨cs++[z],by rw[q9 I];omega,by rw[q9 I];go_num,X,qd (CB _)⟩
        case measure=>simp[intOf];omega
      ·rcases hz with O|⟨O,z9⟩
       all_goals
        have rM:=qd (EC (by rw[q9 K,P,x2,x3];rfl));clear H EC K
        go_wp2_with fail
        go_quiet (fail)
        go_wp2_with fail
        go_quiet (fail)
        go_wp2_with fail
        go_quiet (fail)
        go_wp2_with fail
        exact nx ⟨by rw[q9 rM],(JU _ _).kept,g,LN,cap,_,q9 JU _ _⟩
     ·have y8:((BS (qD o)).toList==[61])=false:=by rw[w8,ae];omega
      have y9:((BS (qD o)).toList==[60,62])=false:=by rw[KN,ae];omega
      have M:qgd cs n=false:=by
       rw[qj0 (q9 B),q9 CF,io,ll]
       left
       rw[fa,ae,ae];omega
      have X:=qd (H M);clear DO w8 KN M H EC h8
      go_wp2_with fail
      go_roundw
      case rel=>exact⟨cs++[z],by rw[q9 I];omega,by rw[q9 I];go_num,X,EF⟩
      case measure=>simp[intOf];omega
  ·have PB:¬(i:Int)<(LN:Int):=mw
   have hiL:i=LN:=mw;have wE:(0:Int)<=(J:Int):=mw;have htl':(J:Int)<(LN:Int):=mw;have ct:=(q9 D).cls (k:=J) (by have:=q9 f;omega) (by have:=q9 f;have:=q9 Y;omega);obtain⟨c,L⟩:∃c,jb cs J=c:=⟨_,rfl⟩;rw[L]at ct
   have HE:Hid (qd7 R J=if c≠0/\c≠1 then(4,0) else(0,0)):=qd (by
    rw[q9 BG,di (by have:=q9 Y;omega),←L];rfl)
   clear L
   by_cases h1:c=0
   ·go_wp2_with fail
    exact nx ⟨by rw[q9 HE,aj mw],D.kept,g,LN,cap,cs,q9 D⟩
   ·by_cases h2:c=1
    ·go_wp2_with fail
     exact nx ⟨by rw[q9 HE,aj mw],D.kept,g,LN,cap,cs,q9 D⟩
    ·have b1:(c != 0)=true:=by simpa using h1
     have b2:(c != 1)=true:=by simpa using h2
     go_wp2_with fail
     exact nx ⟨by rw[q9 HE,bh ⟨h1,h2⟩],D.kept,g,LN,cap,cs,q9 D⟩
end
section
theorem qbq(h:(l++[n])[i]?=some m):(i<l.length/\l[i]?=some m)\/(i=l.length/\n=m):=by
 by_cases hi:i<l.length
 ·rw[bw hi]at h;exact .inl ⟨hi,h⟩
 ·right
  have e:=(au.1 h).1;simp at e;obtain rfl:i=l.length:=mw;exact⟨rfl,by simpa using h⟩
theorem qc1{k:List RN}(h:(l++k)[i]?=some m):(i<l.length/\l[i]?=some m)\/(l.length<=i/\k[i - l.length]?=some m):=by
 by_cases hi:i<l.length
 ·rw[bw hi]at h;exact .inl ⟨hi,h⟩
 ·rw[cj mw]at h;exact .inr ⟨mw,h⟩
theorem pV(j:0<=p.op)(q:p.op<=23)(f:∀k∈ins,k<i)(h:p.op=8\/p.op=9->∃a b,ins=[a,b])(e:ins.length<=3):∃o,NF i (js p ins neg) o:=⟨p.op,j,q,rfl,f,h,e⟩
theorem qeu:∀{t:Ast} {off:Nat} {l:List RN},Flat t off l->ShA t->∀i n,l[i]?=some n->∃o,NF (off+i) n o:=by
 intro t off l h
 induction h with
 | leaf p off=>
  intro e i n f;rcases i with _|i
  ·obtain rfl:js p [] false=n:=by simpa using f
   exact pV e.1 (by have:=e.2;omega) mx (by have:=e.2;omega) mx
  ·simp at f
 | @un p x off l hx ih=>
  intro e i n f;have C:=hx.pos;have H:=e.1;rcases qbq f with⟨D,u⟩|⟨rfl,rfl⟩
  ·exact ih e.2.2.2 i n u
  ·exact pV mw mw my mw mx
 | @bin p x y off l k hx hy ihx ihy=>
  intro e i n f;have C:=hx.pos;have F:=hy.pos;have H:=e.1;rcases qbq f with⟨D,u⟩|⟨rfl,rfl⟩
  ·rcases qc1 u with⟨B,j⟩|⟨B,j⟩
   ·exact ihx e.2.1 i n j
   ·have:=ihy e.2.2 (i - l.length) n j
    rwa [show off+l.length+(i - l.length)=off+i by omega]at this
  ·exact pV mw mw my (λ_=>⟨_,_,rfl⟩) mx
 | @tri p x y z off l k r hx hy hz ihx ihy ihz=>
  intro e i n f;have C:=hx.pos;have F:=hy.pos;have I:=hz.pos;have H:=e.1;rcases qbq f with⟨D,u⟩|⟨rfl,rfl⟩
  ·rcases qc1 u with⟨B,j⟩|⟨B,j⟩
   ·rcases qc1 j with⟨G,A⟩|⟨G,A⟩
    ·exact ihx e.2.1 i n A
    ·have:=ihy e.2.2.1 (i - l.length) n A
     rwa [show off+l.length+(i - l.length)=off+i by omega]at this
   ·have:=ihz e.2.2.2 (i - (l++k).length) n j
    simp only[bu]at B;rwa [show off+l.length+k.length+(i - (l++k).length)=off+i by simp;omega]at this
  ·exact pV mw mw my mw mx
 | @neg1 pl q x off l F hx ih=>
  intro e i n f;have C:=hx.pos;obtain⟨_,_,_,e⟩:=e;rcases qbq f with⟨D,u⟩|⟨rfl,rfl⟩
  ·exact ih e.2.2.2 i n u
  ·exact pV mw mw my mw mx
 | @neg3 pl q x y z off l k r F hx hy hz ihx ihy ihz=>
  intro e i n f;have C:=hx.pos;have J:=hy.pos;have I:=hz.pos;obtain⟨_,_,_,e⟩:=e;rcases qbq f with⟨D,u⟩|⟨rfl,rfl⟩
  ·rcases qc1 u with⟨B,j⟩|⟨B,j⟩
   ·rcases qc1 j with⟨G,A⟩|⟨G,A⟩
    ·exact ihx e.2.1 i n A
    ·have:=ihy e.2.2.1 (i - l.length) n A
     rwa [show off+l.length+(i - l.length)=off+i by omega]at this
   ·have:=ihz e.2.2.2 (i - (l++k).length) n j
    simp only[bu]at B;rwa [show off+l.length+k.length+(i - (l++k).length)=off+i by simp;omega]at this
  ·exact pV mw mw my mw mx
theorem qi7(h:(lvl s 12).E (qg s st0)=.ok t st):ShA t:=by
 obtain⟨L,u⟩:=qeo _ s.data.toList nt;have z:Str s (qg s st0) L:=qcn u st0 (bj _) (db);have A:=qC s st0 (bj _);have q:=(qm9 s 12).E (qg s st0) ⟨L,0⟩ A z rfl;rcases q.cases with⟨j,C,ts,e,f,_⟩|⟨B,pl,e,f⟩
 ·rw[e]at h
  injection h with h _;subst h;exact qp0 j ((ve6 12).E _ _ _ f).1
 ·rw[e]at h;cases h
theorem qtb(h:Flat t 0 ns)(f:ShA t):qd7 (yk [] ns) (ns.length - 1)=match qs9 (qv t) with
  | none=>(0,0)
  | some q=>(4,q):=by
 have e:=qzl h f [] rfl
 cases O5:qv t with
 | err q=>
  rw[O5]at e;have e:yk [] ns=.inl q:=e;rw[e];rfl
 | ok c=>
  rw[O5]at e;obtain⟨ds,u,z,j⟩:=e;rw[u,ej];show(if ds.getD (ns.length - 1) 0≠0/\ds.getD (ns.length - 1) 0≠1 then((4:Int),(0:Int)) else(0,0))=_;rw[j];rcases c4 (gm t c O5) with rfl|rfl|rfl|rfl<;>rfl
theorem RT.clw{j:Nat}(h:RT w rb s ns j st)(e:0<ns.length):∃g LN cap,ClW w rb g LN cap ns [] w:=by
 obtain⟨nv,f,q,_⟩:=h;obtain⟨g,cap,rfl,_⟩:=q.opAt (i:=0) (n:=ns[0]) (ag e);exact⟨g,ns.length,cap,f.c0,by rw[qip];exact q,TKept.refl rb w,f.lt⟩
theorem RE.c9{e:Int}{op m:Nat}(h:RE w rb s e pl op m):Xc w rb 9 (.int .i64 pl):=by obtain⟨nv,a,ns,h,_⟩:=h;exact h.c9
end
section
def qcx(n:RN):Pay:=⟨qkj n.op,n.at',n.num,n.str,n.esc,n.texts⟩
theorem xQ(e:0<=p.op)(f:p.op<=23):qcx (js p ins neg)=p:=by
 show(⟨qkj (qD p.op),p.place,p.num,p.str,p.esc,p.texts⟩:Pay)=p;rw[gX e f]
def qew(ps:List Pr)(vs:List V)(n:RN):V:=if n.neg=true then xP (ofN ps (qcx n) (n.ins.map λk=>vs.getD k nV)) else ofN ps (qcx n) (n.ins.map λk=>vs.getD k nV)
def gh(ps:List Pr):List V->List RN->List V
 | vs,[]=>vs
 | vs,n::t=>gh ps (vs++[qew ps vs n]) t
theorem pp(ps:List Pr)(vs:List V)(l k:List RN):gh ps vs (l++k)=gh ps (gh ps vs l) k:=by
 induction l generalizing vs with
 | nil=>rfl
 | cons n t ih=>rw[cm,gh,gh];exact ih _
theorem vcl(ps:List Pr):∀(l:List RN) (vs:List V),(gh ps vs l).length=vs.length+l.length:=by
 intro l
 induction l with
 | nil=>intro vs;rfl
 | cons n t ih=>intro vs;rw[gh,ih];simp;omega
theorem qv5(ps:List Pr)(vs:List V)(n:RN)(c:Int):qew ps vs { n with cls:=c }=qew ps vs n:=rfl
def qsi(ps:List Pr)(vs:List V)(l:List RN)(x:V):Prop:=∃ds,gh ps vs l=vs++ds/\ds.length=l.length/\ds.getD (l.length - 1) nV=x
theorem qei{es:List V}(h:vs.length<=k)(e:k<vs.length+ds.length):(vs++ds++es).getD k nV=ds.getD (k - vs.length) nV:=by
 rw[aq,aq,bi,cj h,bw mw]
theorem qeh(h:vs.length<=k)(e:k<vs.length+ds.length):(vs++ds).getD k nV=ds.getD (k - vs.length) nV:=by
 have:=qei (vs:=vs) (ds:=ds) (es:=[]) h e;rwa [ew]at this
theorem vm0(l:List V)(v:V):(l++[v]).getD l.length nV=v:=mx
theorem pI{ps:List Pr}(h:gh ps vs l=vs++ds)(hd:ds.length=l.length)(e:qew ps (vs++ds) n=x):qsi ps vs (l++[n]) x:=by
 refine⟨ds++[x], ?_,by simp[hd], ?_⟩
 ·rw[pp,h,gh,gh,e,bi]
 ·rw[show(l++[n]).length - 1=ds.length by simp[hd],vm0]
section
variable {ps:List Pr} {vs:List V} {off:Nat} {p:Pay} {neg:Bool}
theorem qyc(B:vs.length=off)(C:0<l.length)(z:0<=p.op)(A:p.op<=23)(e:qsi ps vs l x):qsi ps vs (l++[js p [off+l.length - 1] neg]) (if neg=true then xP (ofN ps p [x]) else ofN ps p [x]):=by
 obtain⟨ds,u,q,j⟩:=e;refine pI u q ?_;have f:(vs++ds).getD (off+l.length - 1) nV=x:=by rw[qeh mw mw,show off+l.length - 1 - vs.length=l.length - 1 by omega];exact j
 unfold qew;rw[xQ z A];show(if neg=true then xP (ofN ps p [(vs++ds).getD (off+l.length - 1) nV]) else ofN ps p [(vs++ds).getD (off+l.length - 1) nV])=_;rw[f]
theorem vdh{k:List RN}(J:vs.length=off)(K:0<l.length)(I:0<k.length)(B:0<=p.op)(H:p.op<=23)(j:qsi ps vs l x)(f:∀ds:List V,ds.length=l.length->qsi ps (vs++ds) k y):qsi ps vs (l++k++[js p [off+l.length - 1,off+l.length+k.length - 1] false]) (ofN ps p [x,y]):=by
 obtain⟨ds,A,e,z⟩:=j;obtain⟨es,F,D,C⟩:=f ds e;have G:gh ps vs (l++k)=vs++(ds++es):=by rw[pp,A,F,bi]
 refine pI G (by simp[e,D]) ?_;have u:(vs++(ds++es)).getD (off+l.length - 1) nV=x:=by rw[←bi,qei mw mw,show off+l.length - 1 - vs.length=l.length - 1 by omega];exact z
 have q:(vs++(ds++es)).getD (off+l.length+k.length - 1) nV=y:=by rw[←bi,qeh my my,show off+l.length+k.length - 1 - (vs++ds).length=k.length - 1 by simp;omega];exact C
 unfold qew;rw[xQ B H];show ofN ps p [(vs++(ds++es)).getD (off+l.length - 1) nV,(vs++(ds++es)).getD (off+l.length+k.length - 1) nV]=_;rw[u,q]
theorem qp8{k:List RN}{z:V}(T:vs.length=off)(U:0<l.length)(R:0<k.length)(W:0<r.length)(H:0<=p.op)(P:p.op<=23)(A:qsi ps vs l x)(u:∀ds:List V,ds.length=l.length->qsi ps (vs++ds) k y)(q:∀ds:List V,ds.length=l.length+k.length->qsi ps (vs++ds) r z):
  qsi ps vs (l++k++r++[js p [off+l.length - 1,off+l.length+k.length - 1,off+l.length+k.length+r.length - 1] neg]) (if neg=true then xP (ofN ps p [x,y,z]) else ofN ps p [x,y,z]):=by
 obtain⟨ds,G,f,F⟩:=A;obtain⟨es,J,j,I⟩:=u ds f;have O:gh ps vs (l++k)=vs++(ds++es):=by rw[pp,G,J,bi]
 obtain⟨e,M,L,K⟩:=q (ds++es) (by simp[f,j]);have Q:gh ps vs (l++k++r)=vs++(ds++es++e):=by rw[pp,O,M,bi]
 refine pI Q (by simp[f,j,L]) ?_
 have D:(vs++(ds++es++e)).getD (off+l.length - 1) nV=x:=by
  rw[bi ds,←bi vs,qei mw mw,show off+l.length - 1 - vs.length=l.length - 1 by omega];exact F
 have C:(vs++(ds++es++e)).getD (off+l.length+k.length - 1) nV=y:=by
  rw[bi ds,←bi vs,←bi (vs++ds),qei my my,show off+l.length+k.length - 1 - (vs++ds).length=k.length - 1 by simp;omega];exact I
 have B:(vs++(ds++es++e)).getD (off+l.length+k.length+r.length - 1) nV=z:=by
  rw[←bi vs,qeh my my,show off+l.length+k.length+r.length - 1 - (vs++(ds++es)).length=r.length - 1 by simp;omega];exact K
 unfold qew;rw[xQ H P];show(if neg=true then xP (ofN ps p [(vs++(ds++es++e)).getD (off+l.length - 1) nV,(vs++(ds++es++e)).getD (off+l.length+k.length - 1) nV,(vs++(ds++es++e)).getD (off+l.length+k.length+r.length - 1) nV]) else ofN ps p [(vs++(ds++es++e)).getD (off+l.length - 1) nV,(vs++(ds++es++e)).getD (off+l.length+k.length - 1) nV,(vs++(ds++es++e)).getD (off+l.length+k.length+r.length - 1) nV])=_;rw[D,C,B]
end
theorem vdi(ps:List Pr):∀{t:Ast} {off:Nat} {l:List RN},Flat t off l->ShA t->∀vs:List V,vs.length=off->qsi ps vs l (ofA ps t):=by
 intro t off l h
 induction h with
 | leaf p off=>
  intro e vs f;have u:=e.1;have z:=e.2;refine pI (l:=[]) (ds:=[]) (by rw[ew];rfl) rfl ?_;unfold qew;rw[xQ u mw];rfl
 | un p hx ih=>
  intro e vs f;have j:=e.1;exact qyc (neg:=false) f hx.pos mw mw (ih e.2.2.2 vs f)
 | bin p hx hy ihx ihy=>
  intro e vs f;have j:=e.1;exact vdh f hx.pos hy.pos mw mw (ihx e.2.1 vs f) (λds hd=>ihy e.2.2 (vs++ds) my)
 | tri p hx hy hz ihx ihy ihz=>
  intro e vs f;have j:=e.1;exact qp8 (neg:=false) f hx.pos hy.pos hz.pos mw mw (ihx e.2.1 vs f) (λds hd=>ihy e.2.2.1 (vs++ds) my) (λds hd=>ihz e.2.2.2 (vs++ds) my)
 | neg1 pl q hq hx ih=>
  intro e vs f;obtain⟨_,_,_,e⟩:=e;exact qyc (neg:=true) f hx.pos mw mw (ih e.2.2.2 vs f)
 | neg3 pl q hq hx hy hz ihx ihy ihz=>
  intro e vs f;obtain⟨_,_,_,e⟩:=e;exact qp8 (neg:=true) f hx.pos hy.pos hz.pos mw mw (ihx e.2.1 vs f) (λds hd=>ihy e.2.2.1 (vs++ds) my) (λds hd=>ihz e.2.2.2 (vs++ds) my)
theorem vck(ps:List Pr)(ns:List RN)(cs:List Int)(vs:List V):gh ps vs (ze ns cs)=gh ps vs ns:=by
 unfold ze
 have key:∀(l:List RN) (k:Nat) (vs:List V),gh ps vs ((l.zipIdx k).map λx=>{ x.1 with cls:=if x.2<cs.length then cs.getD x.2 0 else x.1.cls })=gh ps vs l:=by
  intro l
  induction l with
  | nil=>intro k vs;rfl
  | cons n t ih=>
   intro k vs;rw[List.zipIdx_cons,fe,gh,gh,qv5];exact ih _ _
 exact key ns 0 vs
end
section
section
variable {w:World} {a N c:Int} {iv lv inv ev:Value} {S E:mu} {neg:Bool}
theorem vco:nz 176 #[.agg #[.string ⟨#[110,117,109,98,101,114]⟩,.int .i64 a,iv,.string S,.string E,lv,.int .i64 N,.bool neg,.int .i64 c],inv,ev] w λe w'=>e=.returned (vV (iV N))/\Xb w w':=by
 go_enter func176,ntmps176
 go_wp2_with fail
 exact nx ⟨rfl,(nw.alloc nt _).alloc mx _⟩
theorem vcp:nz 176 #[.agg #[.string ⟨#[116,101,120,116]⟩,.int .i64 a,iv,.string S,.string E,lv,.int .i64 N,.bool neg,.int .i64 c],inv,ev] w λe w'=>e=.returned (vV (tV S.data.toList))/\Xb w w':=by
 go_enter func176,ntmps176
 go_wp2_with fail
 exact nx ⟨rfl,(nw.alloc nt _).alloc mx _⟩
theorem vcq:nz 176 #[.agg #[.string ⟨#[84,82,85,69]⟩,.int .i64 a,iv,.string S,.string E,lv,.int .i64 N,.bool neg,.int .i64 c],inv,ev] w λe w'=>e=.returned (vV (bV true))/\Xb w w':=by
 go_enter func176,ntmps176
 go_wp2_with(go_at_call 132;refine(vM _ _).mono ?_;rintro e w'⟨rfl,f⟩;obtain⟨j,q⟩:=qj f;simp only[vV])
 refine ak (by simp[go_sem,j]<;>rfl) rfl ⟨rfl, ?_⟩;exact((((qf (qI _ _ _) f).setCell mx _).setCell mx _).setCell mx _)
theorem vcr:nz 176 #[.agg #[.string ⟨#[70,65,76,83,69]⟩,.int .i64 a,iv,.string S,.string E,lv,.int .i64 N,.bool neg,.int .i64 c],inv,ev] w λe w'=>e=.returned (vV (bV false))/\Xb w w':=by
 go_enter func176,ntmps176
 go_wp2_with(go_at_call 132;refine(vM _ _).mono ?_;rintro e w'⟨rfl,f⟩;obtain⟨j,q⟩:=qj f;simp only[vV])
 refine ak (by simp[go_sem,j]<;>rfl) rfl ⟨rfl, ?_⟩;exact((((qf (qI _ _ _) f).setCell mx _).setCell mx _).setCell mx _)
theorem vcn{v:V}(h:∀w2,Xb w w2->nz 218 #[ev,.string S] w2 λe w'=>e=.returned (vV v)/\Xb w2 w'):nz 176 #[.agg #[.string ⟨#[110,97,109,101]⟩,.int .i64 a,iv,.string S,.string E,lv,.int .i64 N,.bool neg,.int .i64 c],inv,ev] w λe w'=>e=.returned (vV v)/\Xb w w':=by
 have H:=qd h;clear h;go_enter func176,ntmps176
 go_wp2_with(go_at_call 218;refine(H _ (qI _ _ _)).mono ?_;rintro e w'⟨rfl,f⟩;obtain⟨j,q⟩:=qj f;simp only[vV])
 refine ak (by simp[go_sem,j]<;>rfl) rfl ⟨rfl, ?_⟩;exact((((qf (qI _ _ _) f).setCell mx _).setCell mx _).setCell mx _)
theorem vcs{n:Nat}(A:0<n)(D:b<w.heap.size)(z:Xc w b 0 (.int .i64 x.kind))(u:Xc w b 1 (.int .i64 x.num))(q:Xc w b 2 (.string (BS x.str))):
  nz 176 #[.agg #[.string ⟨#[78,79,84]⟩,.int .i64 a,iv,.string S,.string E,lv,.int .i64 N,.bool neg,.int .i64 c],.slice (some ⟨b,0,none⟩) n cap,ev] w λe w'=>e=.returned (vV (xP x))/\Xb w w':=by
 have C:(0:Int)<(n:Int):=mw;have RN:=qd (λw=>qfn x w);simp only[vV]at RN;go_enter func176,ntmps176
 go_wp2_with(go_at_call 177;refine(RN _).mono ?_;rintro e w'⟨rfl,f⟩;obtain⟨j,B⟩:=qj f)
 refine ak (by simp[go_sem,j]<;>rfl) rfl ⟨rfl, ?_⟩;exact((((qf (qI _ _ _) f).setCell mx _).setCell mx _).setCell mx _)
end
end
section
section
variable {w:World} {a N c:Int} {iv lv ev:Value} {S E:mu} {neg:Bool}
theorem qx5{n:Nat}(u:0<n)(B:b<w.heap.size)(q:Xc w b 0 (.int .i64 x.kind)):
  nz 176 #[.agg #[.string ⟨#[78,85,76,76]⟩,.int .i64 a,iv,.string S,.string E,lv,.int .i64 N,.bool neg,.int .i64 c],.slice (some ⟨b,0,none⟩) n cap,ev] w λe w'=>e=.returned (vV (bV (x.kind==0)))/\Xb w w':=by
 have A:(0:Int)<(n:Int):=mw;go_enter func176,ntmps176
 go_wp2_with(go_at_call 132;refine(vM _ _).mono ?_;rintro e w'⟨rfl,f⟩;obtain⟨j,z⟩:=qj f;simp only[vV])
 refine ak (by simp[go_sem,j]<;>rfl) rfl ⟨rfl, ?_⟩;exact((((qf (qI _ _ _) f).setCell mx _).setCell mx _).setCell mx _)
theorem vct{n:Nat}(D:1<n)(I:b<w.heap.size)(C:Xc w b 0 (.int .i64 x.kind))(B:Xc w b 1 (.int .i64 x.num))(A:Xc w b 2 (.string (BS x.str)))(z:Xc w b 3 (.int .i64 y.kind))(u:Xc w b 4 (.int .i64 y.num))(q:Xc w b 5 (.string (BS y.str))):
  nz 176 #[.agg #[.string ⟨#[65,78,68]⟩,.int .i64 a,iv,.string S,.string E,lv,.int .i64 N,.bool neg,.int .i64 c],.slice (some ⟨b,0,none⟩) n cap,ev] w λe w'=>e=.returned (vV (qg3 x y))/\Xb w w':=by
 have G:(0:Int)<(n:Int):=mw;have H:(1:Int)<(n:Int):=mw;have RN:=qd (λw=>qnn x y w);simp only[vV]at RN;go_enter func176,ntmps176
 go_wp2_with fail
 go_region_with(go_at_call 220;refine(RN _).mono ?_;rintro e w'⟨rfl,f⟩;obtain⟨j,F⟩:=qj f)
 all_goals go_wp2_with fail
 all_goals refine ak (by simp[go_sem,j]<;>rfl) rfl ⟨rfl, ?_⟩
 all_goals exact((((qf (qI _ _ _).drew f).setCell mx _).setCell mx _).setCell mx _)
theorem vcu{n:Nat}(D:1<n)(I:b<w.heap.size)(C:Xc w b 0 (.int .i64 x.kind))(B:Xc w b 1 (.int .i64 x.num))(A:Xc w b 2 (.string (BS x.str)))(z:Xc w b 3 (.int .i64 y.kind))(u:Xc w b 4 (.int .i64 y.num))(q:Xc w b 5 (.string (BS y.str))):
  nz 176 #[.agg #[.string ⟨#[79,82]⟩,.int .i64 a,iv,.string S,.string E,lv,.int .i64 N,.bool neg,.int .i64 c],.slice (some ⟨b,0,none⟩) n cap,ev] w λe w'=>e=.returned (vV (orV x y))/\Xb w w':=by
 have G:(0:Int)<(n:Int):=mw;have H:(1:Int)<(n:Int):=mw;have RN:=qd (λw=>qwk x y w);simp only[vV]at RN;go_enter func176,ntmps176
 go_wp2_with fail
 go_region_with(go_at_call 221;refine(RN _).mono ?_;rintro e w'⟨rfl,f⟩;obtain⟨j,F⟩:=qj f)
 all_goals go_wp2_with fail
 all_goals refine ak (by simp[go_sem,j]<;>rfl) rfl ⟨rfl, ?_⟩
 all_goals exact((((qf (qI _ _ _).drew f).setCell mx _).setCell mx _).setCell mx _)
theorem vcv{n:Nat}(D:1<n)(I:b<w.heap.size)(C:Xc w b 0 (.int .i64 x.kind))(B:Xc w b 1 (.int .i64 x.num))(A:Xc w b 2 (.string (BS x.str)))(z:Xc w b 3 (.int .i64 y.kind))(u:Xc w b 4 (.int .i64 y.num))(q:Xc w b 5 (.string (BS y.str))):
  nz 176 #[.agg #[.string ⟨#[61]⟩,.int .i64 a,iv,.string S,.string E,lv,.int .i64 N,.bool neg,.int .i64 c],.slice (some ⟨b,0,none⟩) n cap,ev] w λe w'=>e=.returned (vV (eqV x y))/\Xb w w':=by
 have G:(0:Int)<(n:Int):=mw;have H:(1:Int)<(n:Int):=mw;have RN:=qd (λw=>qa1 x y w);simp only[vV]at RN;go_enter func176,ntmps176
 go_wp2_with fail
 go_region_with(go_at_call 222;refine(RN _).mono ?_;rintro e w'⟨rfl,f⟩;obtain⟨j,F⟩:=qj f)
 all_goals go_wp2_with fail
 all_goals refine ak (by simp[go_sem,j]<;>rfl) rfl ⟨rfl, ?_⟩
 all_goals exact((((qf (qI _ _ _).drew f).setCell mx _).setCell mx _).setCell mx _)
end
end
section
section
variable {w:World} {a N c:Int} {iv lv ev:Value} {S E:mu} {neg:Bool}
theorem qx0{n:Nat}(B:0<n)(F:b<w.heap.size)(A:Xc w b 0 (.int .i64 x.kind))(z:Xc w b 1 (.int .i64 x.num))(u:Xc w b 2 (.string (BS x.str)))(j:Rng x.num):
  nz 176 #[.agg #[.string ⟨#[112]⟩,.int .i64 a,iv,.string S,.string E,lv,.int .i64 N,.bool neg,.int .i64 c],.slice (some ⟨b,0,none⟩) n cap,ev] w λe w'=>e=.returned (vV (qiq (iV 0) x))/\Xb w w':=by
 have D:(0:Int)<(n:Int):=mw;have RN:=qd (λw=>qno (iV 0) x ⟨nh,nh⟩ j w);simp only[vV,iV]at RN;go_enter func176,ntmps176
 go_wp2_with(go_at_call 219;refine(RN _).mono ?_;rintro e w'⟨rfl,f⟩;obtain⟨q,C⟩:=qj f)
 refine ak (by simp[go_sem,q]<;>rfl) rfl ⟨rfl, ?_⟩;exact((((qf (qI _ _ _) f).setCell mx _).setCell mx _).setCell mx _)
theorem qx1{n:Nat}(B:0<n)(F:b<w.heap.size)(A:Xc w b 0 (.int .i64 x.kind))(z:Xc w b 1 (.int .i64 x.num))(u:Xc w b 2 (.string (BS x.str)))(j:Rng x.num):
  nz 176 #[.agg #[.string ⟨#[110]⟩,.int .i64 a,iv,.string S,.string E,lv,.int .i64 N,.bool neg,.int .i64 c],.slice (some ⟨b,0,none⟩) n cap,ev] w λe w'=>e=.returned (vV (qrs (iV 0) x))/\Xb w w':=by
 have D:(0:Int)<(n:Int):=mw;have RN:=qd (λw=>qnp (iV 0) x ⟨nh,nh⟩ j w);simp only[vV,iV]at RN;go_enter func176,ntmps176
 go_wp2_with(go_at_call 219;refine(RN _).mono ?_;rintro e w'⟨rfl,f⟩;obtain⟨q,C⟩:=qj f)
 refine ak (by simp[go_sem,q]<;>rfl) rfl ⟨rfl, ?_⟩;exact((((qf (qI _ _ _) f).setCell mx _).setCell mx _).setCell mx _)
end
end
end Go.Proofs.YtfkcaldjphakpaaGreatDoor
