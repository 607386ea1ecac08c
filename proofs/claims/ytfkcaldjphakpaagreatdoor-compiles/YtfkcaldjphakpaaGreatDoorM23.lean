/- The document's answer. -/
import Derived.Test.YtfkcaldjphakpaaGreatDoorM22
namespace Go.Proofs.YtfkcaldjphakpaaGreatDoor
open Go.RowKit Go.Proofs.Tryz
theorem c4{c:Int}(h:0<=c/\c<=3):c=0\/c=1\/c=2\/c=3:=by omega
theorem own1{o:Int}(ho:o=5\/o=14\/o=15\/o=21\/o=22\/o=23)(pl:Int){c:Int}(hc:0<=c/\c<=3):∃c',hsc o=cc c'/\qg1 o pl [.ok c]=if qi1 (wnt o) (cc c)=true then .err pl else .ok c':=by
 rcases ho with rfl|rfl|rfl|rfl|rfl|rfl<;>rcases c4 hc with rfl|rfl|rfl|rfl<;>first
  | exact⟨3,by decide,rfl⟩
  | exact⟨1,by decide,rfl⟩
theorem err1{o:Int}(ho:o=5\/o=14\/o=15)(pl q:Int):qg1 o pl [.err q]=.err q:=by rcases ho with rfl|rfl|rfl<;>rfl
theorem own2{o:Int}(ho:6<=o/\o<=13\/16<=o/\o<=19)(pl:Int){a b:Int}(ha:0<=a/\a<=3)(hb:0<=b/\b<=3):∃c',hsc o=cc c'/\qg1 o pl [.ok a,.ok b]=if(qi1 (wnt o) (cc a)||(qi1 (wnt o) (cc b)||false)||((o==8||o==9)&&(cc a != cc b&&cc a != 0&&cc b != 0)))=true then .err pl else .ok c':=by
 have h:o=6\/o=7\/o=8\/o=9\/o=10\/o=11\/o=12\/o=13\/o=16\/o=17\/o=18\/o=19:=by omega
 rcases h with rfl|rfl|rfl|rfl|rfl|rfl|rfl|rfl|rfl|rfl|rfl|rfl<;>rcases c4 ha with rfl|rfl|rfl|rfl<;>rcases c4 hb with rfl|rfl|rfl|rfl<;>first
  | exact⟨3,by decide,rfl⟩
  | exact⟨1,by decide,rfl⟩
theorem err2{o:Int}(ho:6<=o/\o<=13\/16<=o/\o<=19)(pl q:Int):(∀r,qg1 o pl [.err q,r]=.err q)/\∀a,qg1 o pl [.ok a,.err q]=.err q:=by
 have h:o=6\/o=7\/o=8\/o=9\/o=10\/o=11\/o=12\/o=13\/o=16\/o=17\/o=18\/o=19:=by omega
 rcases h with rfl|rfl|rfl|rfl|rfl|rfl|rfl|rfl|rfl|rfl|rfl|rfl<;>exact⟨λr=>rfl,λa=>rfl⟩
theorem own3(pl:Int){a b c:Int}(ha:0<=a/\a<=3)(hb:0<=b/\b<=3)(hc:0<=c/\c<=3):qg1 20 pl [.ok a,.ok b,.ok c]=if(qi1 2 (cc a)||(qi1 2 (cc b)||(qi1 2 (cc c)||false)))=true then .err pl else .ok 3:=by
 rcases c4 ha with rfl|rfl|rfl|rfl<;>rcases c4 hb with rfl|rfl|rfl|rfl<;>rcases c4 hc with rfl|rfl|rfl|rfl<;>rfl
theorem CEnd.err{cs:List Int}{l:List RN}{q:Int}(h:CEnd cs l (.err q))(k:List RN):qs4 cs (l++k)=.inl q:=by
 have h:qs4 cs l=.inl q:=h;rw[qr8,h]
theorem last_getD(l:List Int)(v:Int):(l++[v]).getD l.length 0=v:=by simp
theorem cls_un1{p:Pay}{x:Ast}{l:List RN}{cs:List Int}{off:Nat}{neg:Bool}(O5:cs.length=off)(hl:0<l.length)(ho:p.op=5\/p.op=14\/p.op=15\/p.op=21\/p.op=22\/p.op=23)(hx:CEnd cs l (qb3 x))(h0:p.op=21\/p.op=22\/p.op=23->∃c,qb3 x=.ok c):
  CEnd cs (l++[qi5 p [off+l.length - 1] neg]) (qb3 (.un p x)):=by
 show CEnd cs _ (qg1 p.op p.place [qb3 x])
 cases hc:qb3 x with
 | err q=>
  rw[hc]at hx h0;rw[err1 (by rcases ho with h|h|h|h|h|h;exact .inl h;exact .inr (.inl h);exact .inr (.inr h);all_goals(obtain⟨c,e⟩:=h0 (by omega);cases e))];exact hx.err _
 | ok c=>
  rw[hc]at hx;obtain⟨ds,h1,h2,h3⟩:=hx;have hr:=qz8 x c hc;obtain⟨c',hh,he⟩:=own1 ho p.place hr;have hn:jn1 (qi5 p [off+l.length - 1] neg).op=p.op:=op_of rfl (by omega) (by omega)
  have F0:qi0 (cs++ds) (off+l.length - 1)=cc c:=by
   have:=jt6 (cs:=cs) (ds:=ds) (es:=[]) (k:=off+l.length - 1) (by omega) (by omega);rw[List.append_nil]at this;rw[this,show off+l.length - 1 - cs.length=l.length - 1 by omega];exact h3
  have hb:ja2 (cs++ds) (qi5 p [off+l.length - 1] neg)=qi1 (wnt p.op) (cc c):=by
   unfold ja2;rw[hn]
   have e8:(p.op==8||p.op==9)=false:=by
    rw[Bool.or_eq_false_iff];exact⟨beq_eq_false_iff_ne.2 (by omega),beq_eq_false_iff_ne.2 (by omega)⟩
   rw[e8,Bool.false_and,Bool.or_false];show([off+l.length - 1].any λk=>qi1 (wnt p.op) (qi0 (cs++ds) k))=_;simp only[List.any_cons,List.any_nil,Bool.or_false,F0]
  rw[he]
  split
  ·rename_i hm
   show qs4 cs _=.inl _;rw[qt0 h1,if_pos (by rw[hb];exact hm)];rfl
  ·rename_i hm
   refine⟨ds++[hsc p.op], ?_,by simp[h2], ?_⟩
   ·rw[qt0 h1,if_neg (by rw[hb];exact hm),hn]
   ·rw[←hh];simp[h2]
theorem cls_bin1{p:Pay}{x y:Ast}{l k:List RN}{cs:List Int}{off:Nat}(O5:cs.length=off)(hl:0<l.length)(hkl:0<k.length)(ho:6<=p.op/\p.op<=13\/16<=p.op/\p.op<=19)(hx:CEnd cs l (qb3 x))(hy:∀ds:List Int,ds.length=l.length->CEnd (cs++ds) k (qb3 y)):
  CEnd cs (l++k++[qi5 p [off+l.length - 1,off+l.length+k.length - 1] false]) (qb3 (.bin p x y)):=by
 show CEnd cs _ (qg1 p.op p.place [qb3 x,qb3 y])
 cases hc:qb3 x with
 | err q=>
  rw[hc]at hx;rw[(err2 ho p.place q).1];show qs4 cs _=.inl q;rw[List.append_assoc];exact hx.err _
 | ok a=>
  rw[hc]at hx;obtain⟨ds,h1,h2,h3⟩:=hx;have hy:=hy ds h2
  cases hd:qb3 y with
  | err q=>
   rw[hd]at hy;rw[(err2 ho p.place q).2];show qs4 cs _=.inl q;rw[List.append_assoc,qr8,h1];exact hy.err _
  | ok b=>
   rw[hd]at hy;obtain⟨es,g1,g2,g3⟩:=hy;have bY:qs4 cs (l++k)=.inr (cs++(ds++es)):=by rw[qr8,h1];show qs4 (cs++ds) k=_;rw[g1,List.append_assoc]
   obtain⟨c',hh,he⟩:=own2 ho p.place (qz8 x a hc) (qz8 y b hd);have hn:jn1 (qi5 p [off+l.length - 1,off+l.length+k.length - 1] false).op=p.op:=op_of rfl (by omega) (by omega)
   have ha:qi0 (cs++(ds++es)) (off+l.length - 1)=cc a:=by
    rw[←List.append_assoc,jt6 (by omega) (by omega),show off+l.length - 1 - cs.length=l.length - 1 by omega];exact h3
   have T9:qi0 (cs++(ds++es)) (off+l.length+k.length - 1)=cc b:=by
    have:=jt6 (cs:=cs++ds) (ds:=es) (es:=[]) (k:=off+l.length+k.length - 1) (by simp;omega) (by simp;omega);rw[List.append_nil]at this;rw[←List.append_assoc,this,show off+l.length+k.length - 1 - (cs++ds).length=k.length - 1 by simp;omega];exact g3
   have hb:ja2 (cs++(ds++es)) (qi5 p [off+l.length - 1,off+l.length+k.length - 1] false)=(qi1 (wnt p.op) (cc a)||(qi1 (wnt p.op) (cc b)||false)||((p.op==8||p.op==9)&&(cc a != cc b&&cc a != 0&&cc b != 0))):=by
    unfold ja2;rw[hn,←ha,←T9];rfl
   rw[he]
   split
   ·rename_i hm
    show qs4 cs _=.inl _;rw[qt0 bY,if_pos (by rw[hb];exact hm)];rfl
   ·rename_i hm
    refine⟨ds++es++[hsc p.op], ?_,by simp[h2,g2], ?_⟩
    ·rw[qt0 bY,if_neg (by rw[hb];exact hm),hn]
    ·rw[←hh];simp[h2,g2]
theorem jq2{p:Pay}{x y z:Ast}{l k r:List RN}{cs:List Int}{off:Nat}{neg:Bool}(O5:cs.length=off)(hl:0<l.length)(hkl:0<k.length)(N7:0<r.length)(ho:p.op=20)(hx:CEnd cs l (qb3 x))(hy:∀ds:List Int,ds.length=l.length->CEnd (cs++ds) k (qb3 y))(hz:∀ds:List Int,ds.length=l.length+k.length->CEnd (cs++ds) r (qb3 z)):
  CEnd cs (l++k++r++[qi5 p [off+l.length - 1,off+l.length+k.length - 1,off+l.length+k.length+r.length - 1] neg]) (qb3 (.tri p x y z)):=by
 show CEnd cs _ (qg1 p.op p.place [qb3 x,qb3 y,qb3 z]);rw[ho]
 cases hc:qb3 x with
 | err q=>
  rw[hc]at hx;show qs4 cs _=.inl q;rw[List.append_assoc,List.append_assoc];exact hx.err _
 | ok a=>
  rw[hc]at hx;obtain⟨ds,h1,h2,h3⟩:=hx;have hy:=hy ds h2
  cases hd:qb3 y with
  | err q=>
   rw[hd]at hy;show qs4 cs _=.inl q;rw[List.append_assoc,List.append_assoc,qr8,h1];exact hy.err _
  | ok b=>
   rw[hd]at hy;obtain⟨es,g1,g2,g3⟩:=hy;have bY:qs4 cs (l++k)=.inr (cs++(ds++es)):=by rw[qr8,h1];show qs4 (cs++ds) k=_;rw[g1,List.append_assoc]
   have hz:=hz (ds++es) (by simp[h2,g2])
   cases hf:qb3 z with
   | err q=>
    rw[hf]at hz;show qs4 cs _=.inl q;rw[List.append_assoc,qr8,bY];exact hz.err _
   | ok c=>
    rw[hf]at hz;obtain⟨fs,f1,f2,f3⟩:=hz;have vN:qs4 cs (l++k++r)=.inr (cs++(ds++es++fs)):=by rw[qr8,bY];show qs4 (cs++(ds++es)) r=_;rw[f1,List.append_assoc]
    have hn:jn1 (qi5 p [off+l.length - 1,off+l.length+k.length - 1,off+l.length+k.length+r.length - 1] neg).op=20:=op_of ho (by decide) (by decide)
    have ha:qi0 (cs++(ds++es++fs)) (off+l.length - 1)=cc a:=by
     rw[List.append_assoc ds,←List.append_assoc cs,jt6 (by omega) (by omega),show off+l.length - 1 - cs.length=l.length - 1 by omega];exact h3
    have T9:qi0 (cs++(ds++es++fs)) (off+l.length+k.length - 1)=cc b:=by
     rw[List.append_assoc ds,←List.append_assoc cs,←List.append_assoc (cs++ds),jt6 (by simp;omega) (by simp;omega),show off+l.length+k.length - 1 - (cs++ds).length=k.length - 1 by simp;omega];exact g3
    have cU:qi0 (cs++(ds++es++fs)) (off+l.length+k.length+r.length - 1)=cc c:=by
     have:=jt6 (cs:=cs++(ds++es)) (ds:=fs) (es:=[]) (k:=off+l.length+k.length+r.length - 1) (by simp;omega) (by simp;omega);rw[List.append_nil]at this;rw[←List.append_assoc cs,this,show off+l.length+k.length+r.length - 1 - (cs++(ds++es)).length=r.length - 1 by simp;omega];exact f3
    have hb:ja2 (cs++(ds++es++fs)) (qi5 p [off+l.length - 1,off+l.length+k.length - 1,off+l.length+k.length+r.length - 1] neg)=(qi1 2 (cc a)||(qi1 2 (cc b)||(qi1 2 (cc c)||false))):=by
     unfold ja2;rw[hn,←ha,←T9,←cU];rw[show(((20:Int)==8)||((20:Int)==9))=false from rfl,Bool.false_and,Bool.or_false];rfl
    rw[own3 p.place (qz8 x a hc) (qz8 y b hd) (qz8 z c hf)]
    split
    ·rename_i hm
     show qs4 cs _=.inl _;rw[qt0 vN,if_pos (by rw[hb];exact hm)];rfl
    ·rename_i hm
     refine⟨ds++es++fs++[hsc 20], ?_,by simp[h2,g2,f2], ?_⟩
     ·rw[qt0 vN,if_neg (by rw[hb];exact hm),hn]
     ·rw[show(l++k++r++[qi5 p [off+l.length - 1,off+l.length+k.length - 1,off+l.length+k.length+r.length - 1] neg]).length - 1=(ds++es++fs).length by simp only[List.length_append,List.length_singleton];omega,last_getD]
      decide
theorem cls_not{pl:Int}{x:Ast}(h:∀c,qb3 x=.ok c->c=3):qb3 (.un ⟨5,pl,0,[],[],[]⟩ x)=qb3 x:=by
 show qg1 5 pl [qb3 x]=_
 cases hx:qb3 x with
 | err q=>rfl
 | ok c=>rw[h c hx];rfl
theorem jm8{x:Ast}(h:ShA x)(h0:opA x=0):qb3 x=.ok 0:=by
 cases x with
 | leaf p=>show qg1 p.op p.place []=_;rw[show p.op=0 from h0];rfl
 | un p x=>exact absurd h.1 (by have:p.op=0:=h0;omega)
 | bin p x y=>exact absurd h.1 (by have:p.op=0:=h0;omega)
 | tri p x y z=>exact absurd h.1 (by have:p.op=0:=h0;omega)
theorem cls_flat:∀{t:Ast} {off:Nat} {l:List RN},Flat t off l->ShA t->∀cs:List Int,cs.length=off->CEnd cs l (qb3 t):=by
 intro t off l h
 induction h with
 | leaf p off=>intro hs cs hc;exact cls_leaf off hs hc
 | un p hx ih=>
  intro hs cs hc;exact cls_un1 hc hx.pos hs.1 (ih hs.2.2.2 cs hc) (λe=>⟨0,jm8 hs.2.2.2 (hs.2.2.1 e)⟩)
 | bin p hx hy ihx ihy=>
  intro hs cs hc;exact cls_bin1 hc hx.pos hy.pos hs.1 (ihx hs.2.1 cs hc) (λds hd=>ihy hs.2.2 (cs++ds) (by simp;omega))
 | tri p hx hy hz ihx ihy ihz=>
  intro hs cs hc;exact jq2 hc hx.pos hy.pos hz.pos hs.1 (ihx hs.2.1 cs hc) (λds hd=>ihy hs.2.2.1 (cs++ds) (by simp;omega)) (λds hd=>ihz hs.2.2.2 (cs++ds) (by simp;omega))
 | neg1 pl q hq hx ih=>
  intro hs cs hc;obtain⟨_,_,_,hs⟩:=hs;have mG:q.op=21\/q.op=22\/q.op=23:=hq
  rw[cls_not (λc e=>by
   have:qg1 q.op q.place [qb3 _]=.ok c:=e;rw[jm8 hs.2.2.2 (hs.2.2.1 mG)]at this
   rcases mG with e|e|e<;>rw[e]at this<;>(injection this with this;exact this.symm))]
  exact cls_un1 hc hx.pos hs.1 (ih hs.2.2.2 cs hc) (λe=>⟨0,jm8 hs.2.2.2 (hs.2.2.1 e)⟩)
 | neg3 pl q hq hx hy hz ihx ihy ihz=>
  intro hs cs hc;obtain⟨_,_,_,hs⟩:=hs
  rw[cls_not (λc e=>by
   have:qg1 q.op q.place [qb3 _,qb3 _,qb3 _]=.ok c:=e;rw[hq]at this;have h2:qt7 1 q.place 3 _=.ok c:=this;unfold qt7 at h2
   split at h2
   ·injection h2 with h2;exact h2.symm
   ·cases h2)]
  exact jq2 hc hx.pos hy.pos hz.pos hs.1 (ihx hs.2.1 cs hc) (λds hd=>ihy hs.2.2.1 (cs++ds) (by simp;omega)) (λds hd=>ihz hs.2.2.2 (cs++ds) (by simp;omega))
theorem NodesAt.cells{w:World}{rb g LN cap:Nat}{ns:List RN}(h:NodesAt w rb (.slice (some ⟨g,0,none⟩) LN cap) ns){i:Nat}{n:RN}(hi:ns[i]?=some n):
  LN=ns.length/\∃iv lv,RowOf w rb 3 iv (vb2 n.ins)/\RowOf w rb 9 lv (qa1 n.texts)/\∀k,k<9->w.cell? ⟨g,i * 9+k,none⟩=(qx2 n iv lv)[k]?:=by
 obtain⟨rs,hl,ho,hn⟩:=h;have A1:=(List.getElem?_eq_some_iff.1 hi).1
 have fU:LN=ns.length:=by
  obtain⟨_,hx|⟨g',cap',cur,e,_⟩⟩:=ho
  ·cases hx.1
  ·injection e with _ e2 _
 subst fU;obtain⟨r,hr⟩:∃r,rs[i]?=some r:=⟨rs[i],List.getElem?_eq_getElem (by omega)⟩;have hz:(ns.zip rs)[i]?=some (n,r):=by rw[List.getElem?_zip_eq_some];exact⟨hi,hr⟩
 refine⟨rfl,r.1,r.2,(hn i n r hi hr).1,(hn i n r hi hr).2,λk hk=>?_⟩;rw[ho.cellAt (i * 9+k) (by omega)];exact flat9 (λx:RN×(Value×Value)=>qx2 x.1 x.2.1 x.2.2) (λa=>rfl) (ns.zip rs) i (n,r) hz k hk
theorem RowOf.get{w:World}{rb:Nat}{ty:TypeId}{v:Value}{vs:List Value}(h:RowOf w rb ty v vs){k:Nat}{u:Value}(hk:vs[k]?=some u):∃q cap,v=.slice (some ⟨q,0,none⟩) vs.length cap/\w.cell? ⟨q,k,none⟩=some u:=by
 rcases h with⟨rfl,_⟩|⟨q,cap,c,fr,hv,_,hc,_,hx⟩
 ·simp at hk
 ·refine⟨q,cap,hv, ?_⟩
  have:=hx k u hk;simp[World.cell?,hc,this]
theorem jr2{α:Type}(f:α->List Value)(hf:∀a,(f a).length=9)(v:Value):∀(l:List α) (i:Nat) (a a':α),l[i]?=some a->f a'=(f a).set 8 v->(l.set i a').flatMap f=(l.flatMap f).set (i * 9+8) v:=by
 intro l
 induction l with
 | nil=>intro i a a' h;simp at h
 | cons b l ih=>
  intro i a a' h he
  cases i with
  | zero=>
   simp at h;subst h;rw[List.set_cons_zero,List.flatMap_cons,List.flatMap_cons,he,List.set_append_left _ _ (by rw[hf];omega)]
  | succ i=>
   rw[List.set_cons_succ,List.flatMap_cons,List.flatMap_cons,List.set_append_right _ _ (by rw[hf];omega),hf,ih i a a' (by simpa using h) he,show(i+1) * 9+8 - 9=i * 9+8 by omega]
theorem NodesAt.setCls{w:World}{rb g LN cap:Nat}{ns:List RN}(h:NodesAt w rb (.slice (some ⟨g,0,none⟩) LN cap) ns)(c0:w.cell? ⟨rb,0,none⟩=some (.slice (some ⟨g,0,none⟩) LN cap)){i:Nat}{n:RN}(hi:ns[i]?=some n)(c:Int):
  NodesAt (w.setCell ⟨g,i * 9+8,none⟩ (.int .i64 c)) rb (.slice (some ⟨g,0,none⟩) LN cap) (ns.set i { n with cls:=c })/\TKept rb w (w.setCell ⟨g,i * 9+8,none⟩ (.int .i64 c))/\(w.setCell ⟨g,i * 9+8,none⟩ (.int .i64 c)).heap[rb]?=w.heap[rb]?/\∀j,w.frozen? ⟨g,j,none⟩=false:=by
 obtain⟨rs,hl,ho,hn⟩:=h;have A1:=(List.getElem?_eq_some_iff.1 hi).1;have Z1:vb1 w rb g:=.inr ⟨_,c0,rfl⟩;have SV:=ho.lt g rfl;have V4:g≠rb:=by omega
 have hb:(w.setCell ⟨g,i * 9+8,none⟩ (.int .i64 c)).heap[rb]?=w.heap[rb]?:=Below.heap_setCell w ⟨g,i * 9+8,none⟩ _ rb (λe=>V4 e.symm)
 have hK:TKept rb w (w.setCell ⟨g,i * 9+8,none⟩ (.int .i64 c)):=by
  refine⟨rfl,rfl,rfl,by simp,λk _ D7=>Below.heap_setCell w ⟨g,i * 9+8,none⟩ _ k (λe=>D7 (by have e':k=g:=e;rw[e'];exact Z1)),λk _ hk=>(jn3 w V4 (i * 9+8) _ k).1 hk⟩
 obtain⟨rX,hx|⟨g',cap',cur,e,K7,J1,h1,h2,h3,h4⟩⟩:=ho
 ·cases hx.1
 injection e with e1 e2 e3;injection e1 with e1;injection e1 with e1;subst e1 e2 e3;have hz:(ns.zip rs)[i]?=some (n,rs[i]'(by omega)):=by rw[List.getElem?_zip_eq_some];exact⟨hi,List.getElem?_eq_getElem (by omega)⟩
 have V6:((ns.set i { n with cls:=c }).zip rs)=(ns.zip rs).set i ({ n with cls:=c },rs[i]'(by omega)):=by
  apply List.ext_getElem?;intro k;rw[List.getElem?_set,List.zip_eq_zipWith,List.zip_eq_zipWith,List.getElem?_zipWith,List.getElem?_zipWith,List.getElem?_set]
  by_cases hk:i=k
  ·subst hk
   simp[A1,hl]
  ·simp[hk]
 refine⟨⟨rs,by simp[hl],⟨?_,.inr ⟨g,cap,cur.setIfInBounds (i * 9+8) (.int .i64 c),by simp,K7,va5 J1 _ _,by simpa using h1,h2,by simpa using h3, ?_⟩⟩,λj m r hj hr=>?_⟩,hK,hb,λj=>(qt5 J1).2 j⟩
 ·rw[V6,jr2 (λx:RN×(Value×Value)=>qx2 x.1 x.2.1 x.2.2) (λa=>rfl) (.int .i64 c) (ns.zip rs) i _ _ hz rfl,List.length_set,List.length_set]
  exact rX
 ·rw[V6,jr2 (λx:RN×(Value×Value)=>qx2 x.1 x.2.1 x.2.2) (λa=>rfl) (.int .i64 c) (ns.zip rs) i _ _ hz rfl,List.length_set,←h4,Array.toList_setIfInBounds,List.take_set]
 ·by_cases sG:i=j
  ·subst sG
   rw[List.getElem?_set_self A1]at hj;injection hj with hj;subst hj;exact⟨(hn i n r hi hr).1.kept hK,(hn i n r hi hr).2.kept hK⟩
  ·rw[List.getElem?_set_ne sG]at hj
   exact⟨(hn j m r hj hr).1.kept hK,(hn j m r hj hr).2.kept hK⟩
def qr4(ns:List RN)(cs:List Int):List RN:=(ns.zipIdx).map λx=>{ x.1 with cls:=if x.2<cs.length then cs.getD x.2 0 else x.1.cls }
theorem jh2(ns:List RN):qr4 ns []=ns:=by
 unfold qr4;apply List.ext_getElem?;intro i;rw[List.getElem?_map,List.getElem?_zipIdx];cases ns[i]?<;>simp
theorem qu9{ns:List RN}{cs:List Int}{i:Nat}:(qr4 ns cs)[i]?=(ns[i]?).map λn=>{ n with cls:=if i<cs.length then cs.getD i 0 else n.cls }:=by
 unfold qr4;rw[List.getElem?_map,List.getElem?_zipIdx];cases ns[i]?<;>simp
theorem jh1(ns:List RN)(cs:List Int):(qr4 ns cs).length=ns.length:=by unfold qr4;simp
theorem zb1{ns:List RN}{cs:List Int}{n:RN}(h:ns[cs.length]?=some n)(c:Int):(qr4 ns cs).set cs.length { n with cls:=c }=qr4 ns (cs++[c]):=by
 apply List.ext_getElem?;intro i;have A1:=(List.getElem?_eq_some_iff.1 h).1;rw[List.getElem?_set,qu9,qu9]
 by_cases hi:cs.length=i
 ·subst hi
  rw[if_pos rfl,if_pos (by rw[jh1];exact A1),h];simp
 ·rw[if_neg hi]
  cases hn:ns[i]? with
  | none=>rfl
  | some m=>
   simp only[Option.map_some]
   by_cases h2:i<cs.length
   ·have:i<(cs++[c]).length:=by simp;omega
    simp[h2,List.getElem?_append_left h2];omega
   ·have:¬i<(cs++[c]).length:=by simp;omega
    simp[h2];omega
structure NF(i:Nat)(n:RN)(o:Int):Prop where
 o0:0<=o
 o23:o<=23
 op:n.op=qb7 o
 ins:∀k∈n.ins,k<i
 two:o=8\/o=9->∃a b,n.ins=[a,b]
 few:n.ins.length<=3
def vr4(R:Sum Int (List Int))(top:Nat):Int×Int:=match R with
 | .inl q=>(4,q)
 | .inr cs=>if cs.getD top 0≠0/\cs.getD top 0≠1 then(4,0) else(0,0)
theorem vp2{ns:List RN}{cs:List Int}{n:RN}(h:ns[cs.length]?=some n):qs4 cs (ns.drop cs.length)=if ja2 cs n=true then .inl n.at' else qs4 (cs++[hsc (jn1 n.op)]) (ns.drop (cs.length+1)):=by
 have A1:=(List.getElem?_eq_some_iff.1 h).1;rw[List.drop_eq_getElem_cons A1,(List.getElem?_eq_some_iff.1 h).2,qs4]
theorem eq_words(o:Int)(h0:0<=o)(L9:o<=23):((BS (qb7 o)).toList==[61])=(o==8)/\((BS (qb7 o)).toList==[60,62])=(o==9):=by
 rw[qc9];have:∀i:Fin 24,(qb7 (i.val:Int)==[61])=((i.val:Int)==8)/\(qb7 (i.val:Int)==[60,62])=((i.val:Int)==9):=by decide +kernel
 have:=this ⟨o.toNat,by omega⟩;rwa [show((o.toNat:Nat):Int)=o by omega]at this
structure ClW(w:World)(rb g LN cap:Nat)(ns:List RN)(cs:List Int)(wr:World):Prop where
 c0:wr.cell? ⟨rb,0,none⟩=some (.slice (some ⟨g,0,none⟩) LN cap)
 nodes:NodesAt wr rb (.slice (some ⟨g,0,none⟩) LN cap) (qr4 ns cs)
 kept:TKept rb w wr
 lt:rb<wr.heap.size
theorem ClW.below{w:World}{rb g LN cap:Nat}{ns:List RN}{cs:List Int}{wr wq:World}(h:ClW w rb g LN cap ns cs wr)(hb:Below wr.heap.size wr wq):ClW w rb g LN cap ns cs wq:=
 ⟨((qb0 hb).1 _ _ h.lt).trans h.c0,h.nodes.below h.lt hb,h.kept.trans (TKept.of_below hb h.lt),Nat.lt_of_lt_of_le h.lt hb.size⟩
theorem ClW.cls{w:World}{rb g LN cap:Nat}{ns:List RN}{cs:List Int}{wr:World}(h:ClW w rb g LN cap ns cs wr){k:Nat}(hk:k<cs.length)(hl:cs.length<=ns.length):wr.cell? ⟨g,k * 9+8,none⟩=some (.int .i64 (qi0 cs k)):=by
 have hn:(qr4 ns cs)[k]?=some { ns[k]'(by omega) with cls:=cs.getD k 0 }:=by
  rw[qu9,List.getElem?_eq_getElem (by omega)];simp[hk]
 obtain⟨_,iv,lv,_,_,hc⟩:=h.nodes.cells hn;rw[hc 8 (by omega)];rfl
theorem ClW.set{w:World}{rb g LN cap:Nat}{ns:List RN}{cs:List Int}{wr:World}(h:ClW w rb g LN cap ns cs wr){n:RN}(hn:ns[cs.length]?=some n)(c:Int):ClW w rb g LN cap ns (cs++[c]) (wr.setCell ⟨g,cs.length * 9+8,none⟩ (.int .i64 c))/\TKept rb wr (wr.setCell ⟨g,cs.length * 9+8,none⟩ (.int .i64 c))/\g<wr.heap.size/\∀j,wr.frozen? ⟨g,j,none⟩=false:=by
 have lV:(qr4 ns cs)[cs.length]?=some n:=by rw[qu9,hn];simp
 obtain⟨h1,h2,h3,h4⟩:=h.nodes.setCls h.c0 lV c;rw[zb1 hn]at h1;have hg:g<wr.heap.size:=by obtain⟨rs,_,ho,_⟩:=h.nodes;exact(ho.lt g rfl).2
 exact⟨⟨(World.cell?_of_block (w:=wr) (a:=⟨rb,0,none⟩) h3).trans h.c0,h1,h.kept.trans h2,by simpa using h.lt⟩,h2,hg,h4⟩
theorem ji1{i:Nat}{cs:List Int}{n:RN}{o:Int}(hf:NF i n o):ja2 cs n=((n.ins.any λk=>qi1 (wnt o) (qi0 cs k))||((o==8||o==9)&&(qi0 cs (n.ins.getD 0 0) != qi0 cs (n.ins.getD 1 0)&&qi0 cs (n.ins.getD 0 0) != 0&&qi0 cs (n.ins.getD 1 0) != 0))):=by
 unfold ja2;rw[hf.op,vc3 hf.o0 hf.o23]
def ClsPost(rb:Nat)(w:World)(ns:List RN)(er pl:Int)(e:Ending)(w':World):Prop:=
 e=.returned (.tuple #[.int .i64 er,.int .i64 pl])/\TKept rb w w'/\∃g LN cap cs,ClW w rb g LN cap ns cs w'
set_option maxHeartbeats 16000000 in
set_option maxRecDepth 100000 in
theorem vh0{w:World}{rb g LN cap:Nat}{ns:List RN}(h0:ClW w rb g LN cap ns [] w)(C1:0<ns.length)(C7:ns.length<=1000)(hf:∀i n,ns[i]?=some n->∃o,NF i n o):
  Calls prog 175 #[.pointer (some ⟨rb,0,none⟩),.int .i64 ((ns.length - 1:Nat):Int)] w (ClsPost rb w ns (vr4 (qs4 [] ns) (ns.length - 1)).1 (vr4 (qs4 [] ns) (ns.length - 1)).2):=by
 obtain⟨R,hR⟩:∃r,qs4 [] ns=r:=⟨_,rfl⟩;rw[hR];have HR:=j3 hR
 have fU:LN=ns.length:=by
  obtain⟨rs,_,ho,_⟩:=h0.nodes;rw[jh2]at ho;obtain⟨_,hx|⟨g',cap',cur,e,_⟩⟩:=ho
  ·cases hx.1
  ·injection e with _ e2 _
 obtain⟨tp,iX⟩:∃t:Nat,ns.length - 1=t:=⟨_,rfl⟩;rw[iX];have U2:tp<LN:=by omega
 have H0:=j3 h0;have HF:=j3 hf;have aE:=j3 fU;have iP:=j3 C7;clear h0 hR hf fU iX C7 C1;go_enter func175,ntmps175
 go_wp2_with fail
 go_loopw [6] (λi wr=>∃cs:List Int,cs.length<=LN/\i=.int .i64 (cs.length:Int)/\Hid (R=qs4 cs (ns.drop cs.length))/\Hid (ClW w rb g LN cap ns cs wr)) (λi _=>LN - (intOf i).toNat)
 case atStart=>exact⟨[],Nat.zero_le _,rfl,j3 (by rw[List.length_nil,List.drop_zero,q9 HR]),H0⟩
 case round=>
  obtain⟨cs,R7,rfl,oX,HC⟩:=hrel;obtain⟨i,hi⟩:∃i,cs.length=i:=⟨_,rfl⟩;have HI:=j3 hi;rw[hi]at R7 oX ⊢;clear hi;have c0:=(q9 HC).c0;have A1:=(q9 HC).lt;have LT:=q9 iP;have AJ:=q9 aE;have zI:LN<=1000:=by omega
  clear LT AJ
  by_cases hil:i<LN
  ·have yO:(i:Int)<(LN:Int):=by omega
   have O8:(0:Int)<=(i:Int):=by omega
   obtain⟨n,hn⟩:∃n,ns[cs.length]?=some n:=⟨_,List.getElem?_eq_getElem (by have:=q9 HI;have:=q9 aE;omega)⟩;obtain⟨o,gS⟩:=q9 HF _ n hn;have lV:(qr4 ns cs)[cs.length]?=some n:=by rw[qu9,hn];simp
   obtain⟨oK,iv,lv,aB,t8,Z2⟩:=(q9 HC).nodes.cells lV;clear oK;rw[q9 HI]at Z2;have e0:wr.cell? ⟨g,i * 9,none⟩=some (.string (BS (qb7 o))):=by have:=Z2 0 (by omega);rw[Nat.add_zero]at this;rw[←gS.op];exact this
   have e1:wr.cell? ⟨g,i * 9+1,none⟩=some (.int .i64 n.at'):=Z2 1 (by omega);have e2:wr.cell? ⟨g,i * 9+2,none⟩=some iv:=Z2 2 (by omega);have e3:wr.cell? ⟨g,i * 9+3,none⟩=some (.string (BS n.str)):=Z2 3 (by omega);have e4:wr.cell? ⟨g,i * 9+4,none⟩=some (.string (BS n.esc)):=Z2 4 (by omega);have e5:wr.cell? ⟨g,i * 9+5,none⟩=some lv:=Z2 5 (by omega);have e6:wr.cell? ⟨g,i * 9+6,none⟩=some (.int .i64 n.num):=Z2 6 (by omega);have e7:wr.cell? ⟨g,i * 9+7,none⟩=some (.bool n.neg):=Z2 7 (by omega);have e8:wr.cell? ⟨g,i * 9+8,none⟩=some (.int .i64 n.cls):=Z2 8 (by omega);obtain⟨hS,vZ,sI,SU⟩:=(q9 HC).set hn (hsc o);rw[q9 HI]at hS vZ;obtain⟨wt,a8⟩:∃x,wnt o=x:=⟨_,rfl⟩;obtain⟨hs,vP⟩:∃x,hsc o=x:=⟨_,rfl⟩;have OQ:Hid (∀w,Calls prog 217 #[.string (BS (qb7 o))] w λe w'=>e=.returned (.tuple #[.int .i64 wt,.int .i64 hs])/\w'=w):=j3 λw=>by rw[←a8,←vP];exact jp5 o gS.o0 gS.o23 w
   rw[vP]at hS vZ;have HS:=j3 hS;have uO:=j3 (aB.kept vZ);obtain⟨w8,vD⟩:=eq_words o gS.o0 gS.o23;have iR:=j3 gS;have HN:=j3 hn;have IB:=j3 a8;have PK:=j3 vP;obtain⟨ia,ic,rfl⟩:=aB.form;obtain⟨la,lc,rfl⟩:=t8.form;have nr:¬rb=wr.heap.size:=by omega
   have ng:¬g=wr.heap.size:=by omega
   obtain⟨lI,nP⟩:∃x,(vb2 n.ins).length=x:=⟨_,rfl⟩;obtain⟨lT,sC⟩:∃x,(qa1 n.texts).length=x:=⟨_,rfl⟩;rw[nP]at e2 uO;rw[sC]at e5;have kZ:Hid (n.ins.length=lI):=j3 (by rw[←nP];simp[vb2]);have mM:=j3 e1;obtain⟨W,hW⟩:∃W:World,W=(wr.setCell ⟨g,i * 9+8,none⟩ (.int .i64 hs)).alloc (.cells #[.string (BS (qb7 o)),.int .i64 n.at',.slice ia lI ic,.string (BS n.str),.string (BS n.esc),.slice la lT lc,.int .i64 n.num,.bool n.neg,.int .i64 n.cls] 241):=⟨_,rfl⟩;have jH:Below (wr.setCell ⟨g,i * 9+8,none⟩ (.int .i64 hs)).heap.size (wr.setCell ⟨g,i * 9+8,none⟩ (.int .i64 hs)) W:=hW ▸ (Below.refl _ _).alloc (Nat.le_refl _) _
   have pF:=j3 ((q9 HS).below jH);have IX:=j3 ((q9 uO).kept (TKept.of_below jH (q9 HS).lt));have gW:∀k,W.cell? ⟨wr.heap.size,k,none⟩=#[.string (BS (qb7 o)),.int .i64 n.at',.slice ia lI ic,.string (BS n.str),.string (BS n.esc),.slice la lT lc,.int .i64 n.num,.bool n.neg,.int .i64 n.cls][k]?:=λk=>by rw[hW,World.cell?_alloc_at _ _ _ _ (by simp)]
   have oG:W.heap.size=wr.heap.size+1:=by rw[hW];simp
   have HW:=j3 hW;have uB:=j3 oG;have fI:=j3 gW;clear hn gS lV aB t8 Z2 hS vZ a8 vP nP sC jH gW hW oG
   go_wp2_with(go_at_call 217;refine(q9 OQ _).mono ?_;rintro e w1⟨rfl,aH⟩;subst w1)
   rw[←q9 HW];clear e0 e1 e2 e3 e4 e5 e6 e7 e8;obtain⟨wo,rfl⟩:∃wo:World,wo=wr:=⟨_,rfl⟩
   go_loopw [10] (λk wq=>∃m:Nat,m<=lI/\k=.int .i64 m/\Hid (∀j q,j<m->n.ins[j]?=some q->qi1 wt (qi0 cs q)=false)/\Hid (Below W.heap.size W wq)) (λk _=>lI - (intOf k).toNat)
   case atStart=>exact⟨0,Nat.zero_le _,rfl,j3 (λj q hj=>absurd hj (by omega)),j3 (Below.refl _ _)⟩
   case round=>
    obtain⟨m,hm,rfl,HM,BM⟩:=hrel;obtain⟨b9,vR⟩:=qb0 (q9 BM);have tK:=(q9 pF).below (q9 BM);have d0:wr.cell? ⟨rb,0,none⟩=some (.slice (some ⟨g,0,none⟩) LN cap):=tK.c0;have DY:=(q9 BM).size;have f0:wr.cell? ⟨wo.heap.size,0,none⟩=some (.string (BS (qb7 o))):=(b9 _ 0 (by have:=q9 uB;omega)).trans (q9 fI 0);have f1:wr.cell? ⟨wo.heap.size,1,none⟩=some (.int .i64 n.at'):=(b9 _ 1 (by have:=q9 uB;omega)).trans (q9 fI 1);have f2:wr.cell? ⟨wo.heap.size,2,none⟩=some (.slice ia lI ic):=(b9 _ 2 (by have:=q9 uB;omega)).trans (q9 fI 2);have qC:=(q9 IX).kept (TKept.of_below (q9 BM) (q9 pF).lt);have qO:=j3 tK;have FC:lI<=3:=by have:=q9 kZ;have:=(q9 iR).few;omega
    by_cases hml:m<lI
    ·obtain⟨q,hq⟩:∃q,n.ins[m]?=some q:=⟨_,List.getElem?_eq_getElem (by have:=q9 kZ;omega)⟩
     have SD:q<i:=by have:=(q9 iR).ins q (List.mem_of_getElem? hq);rwa [q9 HI]at this
     obtain⟨q0,ca,nS,SE⟩:=qC.get (k:=m) (u:=.int .i64 (q:Int)) (by simp[vb2,hq]);injection nS with nS F8 Q9;clear F8 Q9;subst nS;have R7:=tK.cls (k:=q) (by simp;have:=q9 HI;omega) (by simp;have:=q9 HI;have:=q9 aE;omega);rw[show qi0 (cs++[hs]) q=qi0 cs q by unfold qi0;rw[List.getD_eq_getElem?_getD,List.getD_eq_getElem?_getD,List.getElem?_append_left (by have:=q9 HI;omega)]]at R7;obtain⟨c,hc⟩:∃c,qi0 cs q=c:=⟨_,rfl⟩;rw[hc]at R7
     have dR:Hid (qi1 wt c=false->∀j r,j<m+1->n.ins[j]?=some r->qi1 wt (qi0 cs r)=false):=j3 λhf j r hj hr=>by
      by_cases hjm:j=m
      ·subst hjm;rw[hq]at hr;injection hr with hr;subst hr;rw[hc];exact hf
      ·exact q9 HM j r (by omega) hr
     have HE:Hid (qi1 wt c=true->vr4 R tp=(4,n.at')):=j3 λhf=>by
      have hb:ja2 cs n=true:=by
       rw[ji1 (q9 iR),Bool.or_eq_true]
       left
       rw[List.any_eq_true];exact⟨q,List.mem_of_getElem? hq,by rw[q9 IB,hc];exact hf⟩
      rw[q9 oX,←q9 HI,vp2 (q9 HN),if_pos hb];rfl
     have yG:(0:Int)<=(m:Int):=by omega
     have jZ:(m:Int)<(lI:Int):=by omega
     have EQ:(0:Int)<=(q:Int):=by omega
     have iZ:(q:Int)<(LN:Int):=by omega
     clear hq hc b9 vR tK qC HM pF IX oX HN
     by_cases hw:0<=wt
     ·by_cases aM:c=0
      ·subst aM
       go_wp2_with fail
       go_quiet (fail)
       go_wp2_with fail
       go_roundw
       case rel=>exact⟨m+1,by omega,by go_num,j3 (q9 dR (by unfold qi1;simp)),j3 (Go.below_drewN (q9 BM) _)⟩
       case measure=>simp[intOf];omega
      ·by_cases U6:c=wt
       ·have b1:(c != 0)=true:=by simpa using aM
        have b2:(c != wt)=false:=by rw[U6];simp
        go_wp2_with fail
        go_quiet (fail)
        go_wp2_with fail
        go_roundw
        case rel=>exact⟨m+1,by omega,by go_num,j3 (q9 dR (by unfold qi1;rw[b2];simp)),j3 (Go.below_drewN (q9 BM) _)⟩
        case measure=>simp[intOf];omega
       ·have b1:(c != 0)=true:=by simpa using aM
        have b2:(c != wt)=true:=by simpa using U6
        have jM:=j3 (q9 HE (by unfold qi1;rw[b1,b2,decide_eq_true hw];rfl));clear HE dR
        go_wp2_with fail
        go_quiet (fail)
        go_wp2_with fail
        go_quiet (fail)
        go_wp2_with fail
        have tL:=λa b=>(q9 qO).below (Go.below_drewN (Go.below_drewN (Below.refl wr.heap.size wr) a) b)
        exact bodyPost_ret (by simp[results,results175,go_sem];rfl) rfl ⟨by rw[q9 jM],(tL _ _).kept,g,LN,cap,_,tL _ _⟩
     ·go_wp2_with fail
      go_quiet (fail)
      go_wp2_with fail
      go_roundw
      case rel=>exact⟨m+1,by omega,by go_num,j3 (q9 dR (by unfold qi1;rw[decide_eq_false (by omega)];simp)),j3 (Go.below_drewN (q9 BM) _)⟩
      case measure=>simp[intOf];omega
    ·have LW:¬(m:Int)<(lI:Int):=by omega
     have LX:m=lI:=by omega
     have bT:Hid (∀q∈n.ins,qi1 wt (qi0 cs q)=false):=j3 λq hq=>by
      obtain⟨j,hj⟩:=List.getElem?_of_mem hq;exact q9 HM j q (by have:=(List.getElem?_eq_some_iff.1 hj).1;have:=q9 kZ;omega) hj
     have pJ:Hid ((n.ins.any λk=>qi1 (wnt o) (qi0 cs k))=false):=j3 (by
      rw[List.any_eq_false];intro q hq
      rw[q9 IB,q9 bT q hq];simp)
     have T5:Hid (ja2 cs n=false->R=qs4 (cs++[hs]) (ns.drop (cs++[hs]).length)):=j3 λhb=>by
      rw[q9 oX,←q9 HI,vp2 (q9 HN),if_neg (by rw[hb];simp),(q9 iR).op,vc3 (q9 iR).o0 (q9 iR).o23,q9 PK,List.length_append];rfl
     have qM:Hid (ja2 cs n=true->vr4 R tp=(4,n.at')):=j3 λhb=>by
      rw[q9 oX,←q9 HI,vp2 (q9 HN),if_pos hb];rfl
     have mK:Hid ((cs++[hs]).length=i+1):=j3 (by rw[List.length_append,q9 HI];rfl);clear b9 vR tK HM pF oX HN LX
     by_cases h8:o=8\/o=9
     ·obtain⟨a,b,aV⟩:=(q9 iR).two h8
      have lW:lI=2:=by have:=q9 kZ;rw[aV]at this;exact this.symm
      have ND:a<i:=by have:=(q9 iR).ins a (by rw[aV];simp);rwa [q9 HI]at this
      have NA:b<i:=by have:=(q9 iR).ins b (by rw[aV];simp);rwa [q9 HI]at this
      obtain⟨q0,ca,nS,SG⟩:=qC.get (k:=0) (u:=.int .i64 (a:Int)) (by simp[vb2,aV]);injection nS with nS F8 Q9;clear F8 Q9;subst nS;obtain⟨q1,cb,nR,SF⟩:=qC.get (k:=1) (u:=.int .i64 (b:Int)) (by simp[vb2,aV]);injection nR with nR F8 Q9;injection nR with nR;injection nR with nR;clear F8 Q9;subst nR;have FF:=(q9 qO).cls (k:=a) (by simp;have:=q9 HI;omega) (by simp;have:=q9 HI;have:=q9 aE;omega);have Z0:=(q9 qO).cls (k:=b) (by simp;have:=q9 HI;omega) (by simp;have:=q9 HI;have:=q9 aE;omega)
      have hcut:∀q,q<i->qi0 (cs++[hs]) q=qi0 cs q:=λq hq=>by
       unfold qi0;rw[List.getD_eq_getElem?_getD,List.getD_eq_getElem?_getD,List.getElem?_append_left (by have:=q9 HI;omega)]
      rw[hcut a ND]at FF;rw[hcut b NA]at Z0
      have kK:ja2 cs n=(qi0 cs a != qi0 cs b&&qi0 cs a != 0&&qi0 cs b != 0):=by
       rw[ji1 (q9 iR),q9 pJ,Bool.false_or,aV];rw[show(o==8||o==9)=true by rcases h8 with e|e<;>rw[e]<;>rfl,Bool.true_and];rfl
      obtain⟨x,hx⟩:∃x,qi0 cs a=x:=⟨_,rfl⟩;obtain⟨y,hy⟩:∃y,qi0 cs b=y:=⟨_,rfl⟩;rw[hx]at FF kK;rw[hy]at Z0 kK;have dU:=j3 kK;have tC:(0:Int)<=(a:Int):=by omega
      have A7:(0:Int)<=(b:Int):=by omega
      have kM:(a:Int)<(LN:Int):=by omega
      have B9:(b:Int)<(LN:Int):=by omega
      have tL:=λu=>(q9 qO).below (Go.below_drewN (Below.refl wr.heap.size wr) u)
      have hz:((BS (qb7 o)).toList==[61])=true\/(((BS (qb7 o)).toList==[61])=false/\((BS (qb7 o)).toList==[60,62])=true):=by
       rcases h8 with e|e
       ·left;rw[w8,e];rfl
       ·right;exact⟨by rw[w8,e];rfl,by rw[vD,e];rfl⟩
      subst lW;have pG:=j3 tL;have uR:=j3 (λu v=>(q9 qO).below (Go.below_drewN (Go.below_drewN (Below.refl wr.heap.size wr) u) v))
      have sQ:(x != y)=false\/((x != y)=true/\(x != 0)=false)\/((x != y)=true/\(x != 0)=true/\(y != 0)=false)\/((x != y)=true/\(x != 0)=true/\(y != 0)=true):=by
       cases (x != y)<;>cases (x != 0)<;>cases (y != 0)<;>simp
      clear hx hy kK hcut qC w8 vD aV pJ bT tL h8;rcases sQ with x1|⟨x1,x2⟩|⟨x1,x2,x3⟩|⟨x1,x2,x3⟩
      ·rcases hz with z8|⟨z8,z9⟩
       all_goals
        have bP:=j3 (q9 T5 (by rw[q9 dU,x1];simp));clear T5 qM dU
        go_wp2_with fail
        go_quiet (fail)
        go_wp2_with fail
        go_quiet (fail)
        go_wp2_with fail
        go_roundw
        case rel=>exact⟨cs++[hs],by rw[q9 mK];omega,by rw[q9 mK];go_num,bP,j3 (q9 pG _)⟩
        case measure=>simp[intOf];omega
      ·rcases hz with z8|⟨z8,z9⟩
       all_goals
        have bP:=j3 (q9 T5 (by rw[q9 dU,x1,x2];simp));clear T5 qM dU
        go_wp2_with fail
        go_quiet (fail)
        go_wp2_with fail
        go_quiet (fail)
        go_wp2_with fail
        go_roundw
        case rel=>exact⟨cs++[hs],by rw[q9 mK];omega,by rw[q9 mK];go_num,bP,j3 (q9 pG _)⟩
        case measure=>simp[intOf];omega
      ·rcases hz with z8|⟨z8,z9⟩
       all_goals
        have bP:=j3 (q9 T5 (by rw[q9 dU,x1,x2,x3];simp));clear T5 qM dU
        go_wp2_with fail
        go_quiet (fail)
        go_wp2_with fail
        go_quiet (fail)
        go_wp2_with fail
        go_roundw
        case rel=>exact⟨cs++[hs],by rw[q9 mK];omega,by rw[q9 mK];go_num,bP,j3 (q9 pG _)⟩
        case measure=>simp[intOf];omega
      ·rcases hz with z8|⟨z8,z9⟩
       all_goals
        have jM:=j3 (q9 qM (by rw[q9 dU,x1,x2,x3];rfl));clear T5 qM dU
        go_wp2_with fail
        go_quiet (fail)
        go_wp2_with fail
        go_quiet (fail)
        go_wp2_with fail
        go_quiet (fail)
        go_wp2_with fail
        exact bodyPost_ret (by simp[results,results175,go_sem];rfl) rfl ⟨by rw[q9 jM],(q9 uR _ _).kept,g,LN,cap,_,q9 uR _ _⟩
     ·have y8:((BS (qb7 o)).toList==[61])=false:=by rw[w8,beq_eq_false_iff_ne];omega
      have y9:((BS (qb7 o)).toList==[60,62])=false:=by rw[vD,beq_eq_false_iff_ne];omega
      have hb:ja2 cs n=false:=by
       rw[ji1 (q9 iR),q9 pJ,Bool.false_or,Bool.and_eq_false_iff]
       left
       rw[Bool.or_eq_false_iff,beq_eq_false_iff_ne,beq_eq_false_iff_ne];omega
      have bP:=j3 (q9 T5 hb);clear qC w8 vD hb T5 qM h8
      go_wp2_with fail
      go_roundw
      case rel=>exact⟨cs++[hs],by rw[q9 mK];omega,by rw[q9 mK];go_num,bP,qO⟩
      case measure=>simp[intOf];omega
  ·have yO:¬(i:Int)<(LN:Int):=by omega
   have SS:i=LN:=by omega
   have mX:(0:Int)<=(tp:Int):=by omega
   have KZ:(tp:Int)<(LN:Int):=by omega
   have ct:=(q9 HC).cls (k:=tp) (by have:=q9 HI;omega) (by have:=q9 HI;have:=q9 aE;omega);obtain⟨c,hc⟩:∃c,qi0 cs tp=c:=⟨_,rfl⟩;rw[hc]at ct
   have HE:Hid (vr4 R tp=if c≠0/\c≠1 then(4,0) else(0,0)):=j3 (by
    rw[q9 oX,List.drop_of_length_le (by have:=q9 aE;omega),←hc];rfl)
   clear hc
   by_cases h1:c=0
   ·go_wp2_with fail
    exact bodyPost_ret (by simp[results,results175,go_sem];rfl) rfl ⟨by rw[q9 HE,if_neg (by omega)],(q9 HC).kept,g,LN,cap,cs,q9 HC⟩
   ·by_cases h2:c=1
    ·go_wp2_with fail
     exact bodyPost_ret (by simp[results,results175,go_sem];rfl) rfl ⟨by rw[q9 HE,if_neg (by omega)],(q9 HC).kept,g,LN,cap,cs,q9 HC⟩
    ·have b1:(c != 0)=true:=by simpa using h1
     have b2:(c != 1)=true:=by simpa using h2
     go_wp2_with fail
     exact bodyPost_ret (by simp[results,results175,go_sem];rfl) rfl ⟨by rw[q9 HE,if_pos ⟨h1,h2⟩],(q9 HC).kept,g,LN,cap,cs,q9 HC⟩
end Go.Proofs.YtfkcaldjphakpaaGreatDoor
