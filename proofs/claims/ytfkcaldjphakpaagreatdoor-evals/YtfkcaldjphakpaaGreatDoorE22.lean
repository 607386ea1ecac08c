/- The document's answer: the classes of a term's nodes are its classes. The document's answer: what a node's cells hold; a class is set. The document's answer: the classes of a tree. -/
import Derived.Test.YtfkcaldjphakpaaGreatDoorWRq35
import Derived.Deep.QuietTactic
import Derived.BigQuiet
namespace Go.Proofs.YtfkcaldjphakpaaGreatDoor
open Go.RowKit
section
theorem c4 {c:Int} (h:0≤c∧c≤3):c=0∨c=1∨c=2∨c=3:=by omega
theorem own1 {o:Int} (ho:o=5∨o=14∨o=15∨o=21∨o=22∨o=23) (pl:Int) {c:Int} (hc:0≤c∧c≤3):∃c',hsc o=cc c'∧qm2 o pl [.ok c]=if qh5 (wnt o) (cc c)=true then .err pl else .ok c':=by
 rcases ho with rfl|rfl|rfl|rfl|rfl|rfl<;>rcases c4 hc with rfl|rfl|rfl|rfl<;>first
  | exact ⟨3,by decide,rfl⟩
  | exact ⟨1,by decide,rfl⟩
theorem err1 {o:Int} (ho:o=5∨o=14∨o=15) (pl q:Int):qm2 o pl [.err q]=.err q:=by rcases ho with rfl|rfl|rfl<;>rfl
theorem own2 {o:Int} (ho:6≤o∧o≤13∨16≤o∧o≤19) (pl:Int) {a b:Int} (ha:0≤a∧a≤3) (hb:0≤b∧b≤3):∃c',hsc o=cc c'∧qm2 o pl [.ok a,.ok b]=if (qh5 (wnt o) (cc a)||(qh5 (wnt o) (cc b)||false)||((o==8||o==9)&&(cc a != cc b&&cc a != 0&&cc b != 0)))=true then .err pl else .ok c':=by
 have h:o=6∨o=7∨o=8∨o=9∨o=10∨o=11∨o=12∨o=13∨o=16∨o=17∨o=18∨o=19:=by omega
 rcases h with rfl|rfl|rfl|rfl|rfl|rfl|rfl|rfl|rfl|rfl|rfl|rfl<;>rcases c4 ha with rfl|rfl|rfl|rfl<;>rcases c4 hb with rfl|rfl|rfl|rfl<;>first
  | exact ⟨3,by decide,rfl⟩
  | exact ⟨1,by decide,rfl⟩
theorem err2 {o:Int} (ho:6≤o∧o≤13∨16≤o∧o≤19) (pl q:Int):(∀r,qm2 o pl [.err q,r]=.err q)∧∀a,qm2 o pl [.ok a,.err q]=.err q:=by
 have h:o=6∨o=7∨o=8∨o=9∨o=10∨o=11∨o=12∨o=13∨o=16∨o=17∨o=18∨o=19:=by omega
 rcases h with rfl|rfl|rfl|rfl|rfl|rfl|rfl|rfl|rfl|rfl|rfl|rfl<;>exact ⟨fun r=>rfl,fun a=>rfl⟩
theorem own3 (pl:Int) {a b c:Int} (ha:0≤a∧a≤3) (hb:0≤b∧b≤3) (hc:0≤c∧c≤3):qm2 20 pl [.ok a,.ok b,.ok c]=if (qh5 2 (cc a)||(qh5 2 (cc b)||(qh5 2 (cc c)||false)))=true then .err pl else .ok 3:=by
 rcases c4 ha with rfl|rfl|rfl|rfl<;>rcases c4 hb with rfl|rfl|rfl|rfl<;>rcases c4 hc with rfl|rfl|rfl|rfl<;>rfl
theorem CEnd.err {cs:List Int} {l:List RN} {q:Int} (h:CEnd cs l (.err q)) (k:List RN):qq3 cs (l++k)=.inl q:=by
 have h:qq3 cs l=.inl q:=h
 rw [qp5,h]
theorem last_getD (l:List Int) (v:Int):(l++[v]).getD l.length 0=v:=by simp
theorem cls_un1 {p:Pay} {x:Ast} {l:List RN} {cs:List Int} {off:Nat} {neg:Bool} (hcs:cs.length=off) (hl:0<l.length) (ho:p.op=5∨p.op=14∨p.op=15∨p.op=21∨p.op=22∨p.op=23) (hx:CEnd cs l (qc8 x)) (h0:p.op=21∨p.op=22∨p.op=23→∃c,qc8 x=.ok c) :
  CEnd cs (l++[qi3 p [off+l.length - 1] neg]) (qc8 (.un p x)):=by
 show CEnd cs _ (qm2 p.op p.place [qc8 x])
 cases hc:qc8 x with
 | err q=>
  rw [hc] at hx h0
  rw [err1 (by rcases ho with h|h|h|h|h|h;exact .inl h;exact .inr (.inl h);exact .inr (.inr h);all_goals (obtain ⟨c,e⟩:=h0 (by omega);cases e))]
  exact hx.err _
 | ok c=>
  rw [hc] at hx
  obtain ⟨ds,h1,h2,h3⟩:=hx
  have hr:=qv1 x c hc
  obtain ⟨c',hh,he⟩:=own1 ho p.place hr
  have hn:vw1 (qi3 p [off+l.length - 1] neg).op=p.op:=op_of rfl (by omega) (by omega)
  have hat:qh4 (cs++ds) (off+l.length - 1)=cc c:=by
   have:=jb7 (cs:=cs) (ds:=ds) (es:=[]) (k:=off+l.length - 1) (by omega) (by omega)
   rw [List.append_nil] at this
   rw [this,show off+l.length - 1 - cs.length=l.length - 1 by omega];exact h3
  have hb:vm4 (cs++ds) (qi3 p [off+l.length - 1] neg)=qh5 (wnt p.op) (cc c):=by
   unfold vm4
   rw [hn]
   have e8:(p.op==8||p.op==9)=false:=by
    rw [Bool.or_eq_false_iff];exact ⟨beq_eq_false_iff_ne.2 (by omega),beq_eq_false_iff_ne.2 (by omega)⟩
   rw [e8,Bool.false_and,Bool.or_false]
   show ([off+l.length - 1].any fun k=>qh5 (wnt p.op) (qh4 (cs++ds) k))=_
   simp only [List.any_cons,List.any_nil,Bool.or_false,hat]
  rw [he]
  split
  ·rename_i hm
   show qq3 cs _=.inl _
   rw [qq8 h1,if_pos (by rw [hb];exact hm)]
   rfl
  ·rename_i hm
   refine ⟨ds++[hsc p.op], ?_,by simp [h2], ?_⟩
   ·rw [qq8 h1,if_neg (by rw [hb];exact hm),hn]
   ·rw [←hh];simp [h2]
theorem cls_bin1 {p:Pay} {x y:Ast} {l k:List RN} {cs:List Int} {off:Nat} (hcs:cs.length=off) (hl:0<l.length) (hkl:0<k.length) (ho:6≤p.op∧p.op≤13∨16≤p.op∧p.op≤19) (hx:CEnd cs l (qc8 x)) (hy:∀ds:List Int,ds.length=l.length→CEnd (cs++ds) k (qc8 y)) :
  CEnd cs (l++k++[qi3 p [off+l.length - 1,off+l.length+k.length - 1] false]) (qc8 (.bin p x y)):=by
 show CEnd cs _ (qm2 p.op p.place [qc8 x,qc8 y])
 cases hc:qc8 x with
 | err q=>
  rw [hc] at hx
  rw [(err2 ho p.place q).1]
  show qq3 cs _=.inl q
  rw [List.append_assoc];exact hx.err _
 | ok a=>
  rw [hc] at hx
  obtain ⟨ds,h1,h2,h3⟩:=hx
  have hy:=hy ds h2
  cases hd:qc8 y with
  | err q=>
   rw [hd] at hy
   rw [(err2 ho p.place q).2]
   show qq3 cs _=.inl q
   rw [List.append_assoc,qp5,h1]
   exact hy.err _
  | ok b=>
   rw [hd] at hy
   obtain ⟨es,g1,g2,g3⟩:=hy
   have hlk:qq3 cs (l++k)=.inr (cs++(ds++es)):=by rw [qp5,h1];show qq3 (cs++ds) k=_;rw [g1,List.append_assoc]
   obtain ⟨c',hh,he⟩:=own2 ho p.place (qv1 x a hc) (qv1 y b hd)
   have hn:vw1 (qi3 p [off+l.length - 1,off+l.length+k.length - 1] false).op=p.op:=op_of rfl (by omega) (by omega)
   have ha:qh4 (cs++(ds++es)) (off+l.length - 1)=cc a:=by
    rw [←List.append_assoc,jb7 (by omega) (by omega),show off+l.length - 1 - cs.length=l.length - 1 by omega];exact h3
   have hb':qh4 (cs++(ds++es)) (off+l.length+k.length - 1)=cc b:=by
    have:=jb7 (cs:=cs++ds) (ds:=es) (es:=[]) (k:=off+l.length+k.length - 1) (by simp;omega) (by simp;omega)
    rw [List.append_nil] at this
    rw [←List.append_assoc,this,show off+l.length+k.length - 1 - (cs++ds).length=k.length - 1 by simp;omega];exact g3
   have hb:vm4 (cs++(ds++es)) (qi3 p [off+l.length - 1,off+l.length+k.length - 1] false)=(qh5 (wnt p.op) (cc a)||(qh5 (wnt p.op) (cc b)||false)||((p.op==8||p.op==9)&&(cc a != cc b&&cc a != 0&&cc b != 0))):=by
    unfold vm4
    rw [hn,←ha,←hb']
    rfl
   rw [he]
   split
   ·rename_i hm
    show qq3 cs _=.inl _
    rw [qq8 hlk,if_pos (by rw [hb];exact hm)]
    rfl
   ·rename_i hm
    refine ⟨ds++es++[hsc p.op], ?_,by simp [h2,g2], ?_⟩
    ·rw [qq8 hlk,if_neg (by rw [hb];exact hm),hn]
    ·rw [←hh];simp [h2,g2]
theorem vy9 {p:Pay} {x y z:Ast} {l k r:List RN} {cs:List Int} {off:Nat} {neg:Bool} (hcs:cs.length=off) (hl:0<l.length) (hkl:0<k.length) (hrl:0<r.length) (ho:p.op=20) (hx:CEnd cs l (qc8 x)) (hy:∀ds:List Int,ds.length=l.length→CEnd (cs++ds) k (qc8 y)) (hz:∀ds:List Int,ds.length=l.length+k.length→CEnd (cs++ds) r (qc8 z)) :
  CEnd cs (l++k++r++[qi3 p [off+l.length - 1,off+l.length+k.length - 1,off+l.length+k.length+r.length - 1] neg]) (qc8 (.tri p x y z)):=by
 show CEnd cs _ (qm2 p.op p.place [qc8 x,qc8 y,qc8 z])
 rw [ho]
 cases hc:qc8 x with
 | err q=>
  rw [hc] at hx
  show qq3 cs _=.inl q
  rw [List.append_assoc,List.append_assoc];exact hx.err _
 | ok a=>
  rw [hc] at hx
  obtain ⟨ds,h1,h2,h3⟩:=hx
  have hy:=hy ds h2
  cases hd:qc8 y with
  | err q=>
   rw [hd] at hy
   show qq3 cs _=.inl q
   rw [List.append_assoc,List.append_assoc,qp5,h1]
   exact hy.err _
  | ok b=>
   rw [hd] at hy
   obtain ⟨es,g1,g2,g3⟩:=hy
   have hlk:qq3 cs (l++k)=.inr (cs++(ds++es)):=by rw [qp5,h1];show qq3 (cs++ds) k=_;rw [g1,List.append_assoc]
   have hz:=hz (ds++es) (by simp [h2,g2])
   cases hf:qc8 z with
   | err q=>
    rw [hf] at hz
    show qq3 cs _=.inl q
    rw [List.append_assoc,qp5,hlk]
    exact hz.err _
   | ok c=>
    rw [hf] at hz
    obtain ⟨fs,f1,f2,f3⟩:=hz
    have hlr:qq3 cs (l++k++r)=.inr (cs++(ds++es++fs)):=by rw [qp5,hlk];show qq3 (cs++(ds++es)) r=_;rw [f1,List.append_assoc]
    have hn:vw1 (qi3 p [off+l.length - 1,off+l.length+k.length - 1,off+l.length+k.length+r.length - 1] neg).op=20:=op_of ho (by decide) (by decide)
    have ha:qh4 (cs++(ds++es++fs)) (off+l.length - 1)=cc a:=by
     rw [List.append_assoc ds,←List.append_assoc cs,jb7 (by omega) (by omega),show off+l.length - 1 - cs.length=l.length - 1 by omega];exact h3
    have hb':qh4 (cs++(ds++es++fs)) (off+l.length+k.length - 1)=cc b:=by
     rw [List.append_assoc ds,←List.append_assoc cs,←List.append_assoc (cs++ds),jb7 (by simp;omega) (by simp;omega),show off+l.length+k.length - 1 - (cs++ds).length=k.length - 1 by simp;omega];exact g3
    have hc':qh4 (cs++(ds++es++fs)) (off+l.length+k.length+r.length - 1)=cc c:=by
     have:=jb7 (cs:=cs++(ds++es)) (ds:=fs) (es:=[]) (k:=off+l.length+k.length+r.length - 1) (by simp;omega) (by simp;omega)
     rw [List.append_nil] at this
     rw [←List.append_assoc cs,this,show off+l.length+k.length+r.length - 1 - (cs++(ds++es)).length=r.length - 1 by simp;omega];exact f3
    have hb:vm4 (cs++(ds++es++fs)) (qi3 p [off+l.length - 1,off+l.length+k.length - 1,off+l.length+k.length+r.length - 1] neg)=(qh5 2 (cc a)||(qh5 2 (cc b)||(qh5 2 (cc c)||false))):=by
     unfold vm4
     rw [hn,←ha,←hb',←hc']
     rw [show (((20:Int)==8)||((20:Int)==9))=false from rfl,Bool.false_and,Bool.or_false]
     rfl
    rw [own3 p.place (qv1 x a hc) (qv1 y b hd) (qv1 z c hf)]
    split
    ·rename_i hm
     show qq3 cs _=.inl _
     rw [qq8 hlr,if_pos (by rw [hb];exact hm)]
     rfl
    ·rename_i hm
     refine ⟨ds++es++fs++[hsc 20], ?_,by simp [h2,g2,f2], ?_⟩
     ·rw [qq8 hlr,if_neg (by rw [hb];exact hm),hn]
     ·rw [show (l++k++r++[qi3 p [off+l.length - 1,off+l.length+k.length - 1,off+l.length+k.length+r.length - 1] neg]).length - 1=(ds++es++fs).length by simp only [List.length_append,List.length_singleton];omega,last_getD]
      decide
theorem cls_not {pl:Int} {x:Ast} (h:∀c,qc8 x=.ok c→c=3):qc8 (.un ⟨5,pl,0,[],[],[]⟩ x)=qc8 x:=by
 show qm2 5 pl [qc8 x]=_
 cases hx:qc8 x with
 | err q=>rfl
 | ok c=>rw [h c hx];rfl
theorem vv8 {x:Ast} (h:ShA x) (h0:opA x=0):qc8 x=.ok 0:=by
 cases x with
 | leaf p=>show qm2 p.op p.place []=_;rw [show p.op=0 from h0];rfl
 | un p x=>exact absurd h.1 (by have:p.op=0:=h0;omega)
 | bin p x y=>exact absurd h.1 (by have:p.op=0:=h0;omega)
 | tri p x y z=>exact absurd h.1 (by have:p.op=0:=h0;omega)
theorem cls_flat:∀{t:Ast} {off:Nat} {l:List RN},Flat t off l→ShA t→∀cs:List Int,cs.length=off→CEnd cs l (qc8 t):=by
 intro t off l h
 induction h with
 | leaf p off=>intro hs cs hc;exact cls_leaf off hs hc
 | un p hx ih=>
  intro hs cs hc
  exact cls_un1 hc hx.pos hs.1 (ih hs.2.2.2 cs hc) (fun e=>⟨0,vv8 hs.2.2.2 (hs.2.2.1 e)⟩)
 | bin p hx hy ihx ihy=>
  intro hs cs hc
  exact cls_bin1 hc hx.pos hy.pos hs.1 (ihx hs.2.1 cs hc) (fun ds hd=>ihy hs.2.2 (cs++ds) (by simp;omega))
 | tri p hx hy hz ihx ihy ihz=>
  intro hs cs hc
  exact vy9 hc hx.pos hy.pos hz.pos hs.1 (ihx hs.2.1 cs hc) (fun ds hd=>ihy hs.2.2.1 (cs++ds) (by simp;omega)) (fun ds hd=>ihz hs.2.2.2 (cs++ds) (by simp;omega))
 | neg1 pl q hq hx ih=>
  intro hs cs hc
  obtain ⟨_,_,_,hs⟩:=hs
  have h21:q.op=21∨q.op=22∨q.op=23:=hq
  rw [cls_not (fun c e=>by
   have:qm2 q.op q.place [qc8 _]=.ok c:=e
   rw [vv8 hs.2.2.2 (hs.2.2.1 h21)] at this
   rcases h21 with e|e|e<;>rw [e] at this<;>(injection this with this;exact this.symm))]
  exact cls_un1 hc hx.pos hs.1 (ih hs.2.2.2 cs hc) (fun e=>⟨0,vv8 hs.2.2.2 (hs.2.2.1 e)⟩)
 | neg3 pl q hq hx hy hz ihx ihy ihz=>
  intro hs cs hc
  obtain ⟨_,_,_,hs⟩:=hs
  rw [cls_not (fun c e=>by
   have:qm2 q.op q.place [qc8 _,qc8 _,qc8 _]=.ok c:=e
   rw [hq] at this
   have h2:demR 1 q.place 3 _=.ok c:=this
   unfold demR at h2
   split at h2
   ·injection h2 with h2;exact h2.symm
   ·cases h2)]
  exact vy9 hc hx.pos hy.pos hz.pos hs.1 (ihx hs.2.1 cs hc) (fun ds hd=>ihy hs.2.2.1 (cs++ds) (by simp;omega)) (fun ds hd=>ihz hs.2.2.2 (cs++ds) (by simp;omega))
end
section
theorem NodesAt.cells {w:World} {rb g LN cap:Nat} {ns:List RN} (h:NodesAt w rb (.slice (some ⟨g,0,none⟩) LN cap) ns) {i:Nat} {n:RN} (hi:ns[i]?=some n) :
  LN=ns.length∧∃iv lv,RowOf w rb 3 iv (qv6 n.ins)∧RowOf w rb 9 lv (x9 n.texts)∧∀k,k<9→w.cell? ⟨g,i * 9+k,none⟩=(qt4 n iv lv)[k]?:=by
 obtain ⟨rs,hl,ho,hn⟩:=h
 have hlt:=(List.getElem?_eq_some_iff.1 hi).1
 have hLN:LN=ns.length:=by
  obtain ⟨_,hx|⟨g',cap',cur,e,_⟩⟩:=ho
  ·cases hx.1
  ·injection e with _ e2 _
 subst hLN
 obtain ⟨r,hr⟩:∃r,rs[i]?=some r:=⟨rs[i],List.getElem?_eq_getElem (by omega)⟩
 have hz:(ns.zip rs)[i]?=some (n,r):=by rw [List.getElem?_zip_eq_some];exact ⟨hi,hr⟩
 refine ⟨rfl,r.1,r.2,(hn i n r hi hr).1,(hn i n r hi hr).2,fun k hk=>?_⟩
 rw [ho.cellAt (i * 9+k) (by omega)]
 exact flat9 (fun x:RN×(Value×Value)=>qt4 x.1 x.2.1 x.2.2) (fun a=>rfl) (ns.zip rs) i (n,r) hz k hk
theorem RowOf.get {w:World} {rb:Nat} {ty:TypeId} {v:Value} {vs:List Value} (h:RowOf w rb ty v vs) {k:Nat} {u:Value} (hk:vs[k]?=some u):∃q cap,v=.slice (some ⟨q,0,none⟩) vs.length cap∧w.cell? ⟨q,k,none⟩=some u:=by
 rcases h with ⟨rfl,_⟩|⟨q,cap,c,fr,hv,_,hc,_,hx⟩
 ·simp at hk
 ·refine ⟨q,cap,hv, ?_⟩
  have:=hx k u hk
  simp [World.cell?,hc,this]
theorem vz3 {α:Type} (f:α→List Value) (hf:∀a,(f a).length=9) (v:Value):∀(l:List α) (i:Nat) (a a':α),l[i]?=some a→f a'=(f a).set 8 v→(l.set i a').flatMap f=(l.flatMap f).set (i * 9+8) v:=by
 intro l
 induction l with
 | nil=>intro i a a' h;simp at h
 | cons b l ih=>
  intro i a a' h he
  cases i with
  | zero=>
   simp at h;subst h
   rw [List.set_cons_zero,List.flatMap_cons,List.flatMap_cons,he,List.set_append_left _ _ (by rw [hf];omega)]
  | succ i=>
   rw [List.set_cons_succ,List.flatMap_cons,List.flatMap_cons,List.set_append_right _ _ (by rw [hf];omega),hf,ih i a a' (by simpa using h) he,show (i+1) * 9+8 - 9=i * 9+8 by omega]
theorem NodesAt.setCls {w:World} {rb g LN cap:Nat} {ns:List RN} (h:NodesAt w rb (.slice (some ⟨g,0,none⟩) LN cap) ns) (c0:w.cell? ⟨rb,0,none⟩=some (.slice (some ⟨g,0,none⟩) LN cap)) {i:Nat} {n:RN} (hi:ns[i]?=some n) (c:Int) :
  NodesAt (w.setCell ⟨g,i * 9+8,none⟩ (.int .i64 c)) rb (.slice (some ⟨g,0,none⟩) LN cap) (ns.set i { n with cls:=c })∧TKept rb w (w.setCell ⟨g,i * 9+8,none⟩ (.int .i64 c))∧(w.setCell ⟨g,i * 9+8,none⟩ (.int .i64 c)).heap[rb]?=w.heap[rb]?∧∀j,w.frozen? ⟨g,j,none⟩=false:=by
 obtain ⟨rs,hl,ho,hn⟩:=h
 have hlt:=(List.getElem?_eq_some_iff.1 hi).1
 have hgo:qv5 w rb g:=.inr ⟨_,c0,rfl⟩
 have hgb:=ho.lt g rfl
 have hgr:g≠rb:=by omega
 have hb:(w.setCell ⟨g,i * 9+8,none⟩ (.int .i64 c)).heap[rb]?=w.heap[rb]?:=Below.heap_setCell w ⟨g,i * 9+8,none⟩ _ rb (fun e=>hgr e.symm)
 have hK:TKept rb w (w.setCell ⟨g,i * 9+8,none⟩ (.int .i64 c)):=by
  refine ⟨rfl,rfl,rfl,by simp,fun k _ hno=>Below.heap_setCell w ⟨g,i * 9+8,none⟩ _ k (fun e=>hno (by have e':k=g:=e;rw [e'];exact hgo)),fun k _ hk=>(vw3 w hgr (i * 9+8) _ k).1 hk⟩
 obtain ⟨hll,hx|⟨g',cap',cur,e,hbg,hgg,h1,h2,h3,h4⟩⟩:=ho
 ·cases hx.1
 injection e with e1 e2 e3
 injection e1 with e1
 injection e1 with e1
 subst e1 e2 e3
 have hz:(ns.zip rs)[i]?=some (n,rs[i]'(by omega)):=by rw [List.getElem?_zip_eq_some];exact ⟨hi,List.getElem?_eq_getElem (by omega)⟩
 have hset:((ns.set i { n with cls:=c }).zip rs)=(ns.zip rs).set i ({ n with cls:=c },rs[i]'(by omega)):=by
  apply List.ext_getElem?
  intro k
  rw [List.getElem?_set,List.zip_eq_zipWith,List.zip_eq_zipWith,List.getElem?_zipWith,List.getElem?_zipWith,List.getElem?_set]
  by_cases hk:i=k
  ·subst hk
   simp [hlt,hl]
  ·simp [hk]
 refine ⟨⟨rs,by simp [hl],⟨?_,.inr ⟨g,cap,cur.setIfInBounds (i * 9+8) (.int .i64 c),by simp,hbg,qv2 hgg _ _,by simpa using h1,h2,by simpa using h3, ?_⟩⟩,fun j m r hj hr=>?_⟩,hK,hb,fun j=>(qr1 hgg).2 j⟩
 ·rw [hset,vz3 (fun x:RN×(Value×Value)=>qt4 x.1 x.2.1 x.2.2) (fun a=>rfl) (.int .i64 c) (ns.zip rs) i _ _ hz rfl,List.length_set,List.length_set]
  exact hll
 ·rw [hset,vz3 (fun x:RN×(Value×Value)=>qt4 x.1 x.2.1 x.2.2) (fun a=>rfl) (.int .i64 c) (ns.zip rs) i _ _ hz rfl,List.length_set,←h4,Array.toList_setIfInBounds,List.take_set]
 ·by_cases hij:i=j
  ·subst hij
   rw [List.getElem?_set_self hlt] at hj
   injection hj with hj
   subst hj
   exact ⟨(hn i n r hi hr).1.kept hK,(hn i n r hi hr).2.kept hK⟩
  ·rw [List.getElem?_set_ne hij] at hj
   exact ⟨(hn j m r hj hr).1.kept hK,(hn j m r hj hr).2.kept hK⟩
def qp1 (ns:List RN) (cs:List Int):List RN:=(ns.zipIdx).map fun x=>{ x.1 with cls:=if x.2<cs.length then cs.getD x.2 0 else x.1.cls }
theorem vt0 (ns:List RN):qp1 ns []=ns:=by
 unfold qp1
 apply List.ext_getElem?
 intro i
 rw [List.getElem?_map,List.getElem?_zipIdx]
 cases ns[i]?<;>simp
theorem qs3 {ns:List RN} {cs:List Int} {i:Nat}:(qp1 ns cs)[i]?=(ns[i]?).map fun n=>{ n with cls:=if i<cs.length then cs.getD i 0 else n.cls }:=by
 unfold qp1
 rw [List.getElem?_map,List.getElem?_zipIdx]
 cases ns[i]?<;>simp
theorem vs9 (ns:List RN) (cs:List Int):(qp1 ns cs).length=ns.length:=by unfold qp1;simp
theorem jh8 {ns:List RN} {cs:List Int} {n:RN} (h:ns[cs.length]?=some n) (c:Int):(qp1 ns cs).set cs.length { n with cls:=c }=qp1 ns (cs++[c]):=by
 apply List.ext_getElem?
 intro i
 have hlt:=(List.getElem?_eq_some_iff.1 h).1
 rw [List.getElem?_set,qs3,qs3]
 by_cases hi:cs.length=i
 ·subst hi
  rw [if_pos rfl,if_pos (by rw [vs9];exact hlt),h]
  simp
 ·rw [if_neg hi]
  cases hn:ns[i]? with
  | none=>rfl
  | some m=>
   simp only [Option.map_some]
   by_cases h2:i<cs.length
   ·have:i<(cs++[c]).length:=by simp;omega
    simp [h2,List.getElem?_append_left h2]
    omega
   ·have:¬i<(cs++[c]).length:=by simp;omega
    simp [h2]
    omega
end
section
structure NF (i:Nat) (n:RN) (o:Int):Prop where
 o0:0≤o
 o23:o≤23
 op:n.op=qc6 o
 ins:∀k∈n.ins,k<i
 two:o=8∨o=9→∃a b,n.ins=[a,b]
 few:n.ins.length≤3
def ve4 (R:Sum Int (List Int)) (top:Nat):Int×Int:=match R with
 | .inl q=>(4,q)
 | .inr cs=>if cs.getD top 0≠0∧cs.getD top 0≠1 then (4,0) else (0,0)
theorem vc9 {ns:List RN} {cs:List Int} {n:RN} (h:ns[cs.length]?=some n):qq3 cs (ns.drop cs.length)=if vm4 cs n=true then .inl n.at' else qq3 (cs++[hsc (vw1 n.op)]) (ns.drop (cs.length+1)):=by
 have hlt:=(List.getElem?_eq_some_iff.1 h).1
 rw [List.drop_eq_getElem_cons hlt,(List.getElem?_eq_some_iff.1 h).2,qq3]
theorem eq_words (o:Int) (h0:0≤o) (h23:o≤23):((BS (qc6 o)).toList==[61])=(o==8)∧((BS (qc6 o)).toList==[60,62])=(o==9):=by
 rw [qi0]
 have:∀i:Fin 24,(qc6 (i.val:Int)==[61])=((i.val:Int)==8)∧(qc6 (i.val:Int)==[60,62])=((i.val:Int)==9):=by decide +kernel
 have:=this ⟨o.toNat,by omega⟩
 rwa [show ((o.toNat:Nat):Int)=o by omega] at this
structure ClW (w:World) (rb g LN cap:Nat) (ns:List RN) (cs:List Int) (wr:World):Prop where
 c0:wr.cell? ⟨rb,0,none⟩=some (.slice (some ⟨g,0,none⟩) LN cap)
 nodes:NodesAt wr rb (.slice (some ⟨g,0,none⟩) LN cap) (qp1 ns cs)
 kept:TKept rb w wr
 lt:rb<wr.heap.size
theorem ClW.below {w:World} {rb g LN cap:Nat} {ns:List RN} {cs:List Int} {wr wq:World} (h:ClW w rb g LN cap ns cs wr) (hb:Below wr.heap.size wr wq):ClW w rb g LN cap ns cs wq:=
 ⟨((v9 hb).1 _ _ h.lt).trans h.c0,h.nodes.below h.lt hb,h.kept.trans (TKept.of_below hb h.lt),Nat.lt_of_lt_of_le h.lt hb.size⟩
theorem ClW.cls {w:World} {rb g LN cap:Nat} {ns:List RN} {cs:List Int} {wr:World} (h:ClW w rb g LN cap ns cs wr) {k:Nat} (hk:k<cs.length) (hl:cs.length≤ns.length):wr.cell? ⟨g,k * 9+8,none⟩=some (.int .i64 (qh4 cs k)):=by
 have hn:(qp1 ns cs)[k]?=some { ns[k]'(by omega) with cls:=cs.getD k 0 }:=by
  rw [qs3,List.getElem?_eq_getElem (by omega)]
  simp [hk]
 obtain ⟨_,iv,lv,_,_,hc⟩:=h.nodes.cells hn
 rw [hc 8 (by omega)]
 rfl
theorem ClW.set {w:World} {rb g LN cap:Nat} {ns:List RN} {cs:List Int} {wr:World} (h:ClW w rb g LN cap ns cs wr) {n:RN} (hn:ns[cs.length]?=some n) (c:Int):ClW w rb g LN cap ns (cs++[c]) (wr.setCell ⟨g,cs.length * 9+8,none⟩ (.int .i64 c))∧TKept rb wr (wr.setCell ⟨g,cs.length * 9+8,none⟩ (.int .i64 c))∧g<wr.heap.size∧∀j,wr.frozen? ⟨g,j,none⟩=false:=by
 have hn':(qp1 ns cs)[cs.length]?=some n:=by rw [qs3,hn];simp
 obtain ⟨h1,h2,h3,h4⟩:=h.nodes.setCls h.c0 hn' c
 rw [jh8 hn] at h1
 have hg:g<wr.heap.size:=by obtain ⟨rs,_,ho,_⟩:=h.nodes;exact (ho.lt g rfl).2
 exact ⟨⟨(World.cell?_of_block (w:=wr) (a:=⟨rb,0,none⟩) h3).trans h.c0,h1,h.kept.trans h2,by simpa using h.lt⟩,h2,hg,h4⟩
theorem vt2 {i:Nat} {cs:List Int} {n:RN} {o:Int} (hf:NF i n o):vm4 cs n=((n.ins.any fun k=>qh5 (wnt o) (qh4 cs k))||((o==8||o==9)&&(qh4 cs (n.ins.getD 0 0) != qh4 cs (n.ins.getD 1 0)&&qh4 cs (n.ins.getD 0 0) != 0&&qh4 cs (n.ins.getD 1 0) != 0))):=by
 unfold vm4;rw [hf.op,qw2 hf.o0 hf.o23]
end
end Go.Proofs.YtfkcaldjphakpaaGreatDoor
