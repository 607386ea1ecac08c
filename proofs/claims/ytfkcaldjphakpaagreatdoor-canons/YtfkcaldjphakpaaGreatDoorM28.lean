/- The document's answer: the classes of a term's nodes are its classes. The document's answer: what a node's cells hold; a class is set. The document's answer: the classes of a tree. The document's answer: classes. -/
import Derived.Test.YtfkcaldjphakpaaGreatDoorM27
import Derived.Deep.QuietTactic
import Derived.BigQuiet
namespace Go.Proofs.YtfkcaldjphakpaaGreatDoor
open Go.RowKit
section
theorem c4 {c:Int} (h:0≤c∧c≤3):c=0∨c=1∨c=2∨c=3:=by omega
theorem own1 {o:Int} (ho:o=5∨o=14∨o=15∨o=21∨o=22∨o=23) (pl:Int) {c:Int} (hc:0≤c∧c≤3):∃c',hsc o=cc c'∧qh2 o pl [.ok c]=if qi9 (wnt o) (cc c)=true then .err pl else .ok c':=by
 rcases ho with rfl|rfl|rfl|rfl|rfl|rfl<;>rcases c4 hc with rfl|rfl|rfl|rfl<;>first
  | exact ⟨3,by decide,rfl⟩
  | exact ⟨1,by decide,rfl⟩
theorem err1 {o:Int} (ho:o=5∨o=14∨o=15) (pl q:Int):qh2 o pl [.err q]=.err q:=by rcases ho with rfl|rfl|rfl<;>rfl
theorem own2 {o:Int} (ho:6≤o∧o≤13∨16≤o∧o≤19) (pl:Int) {a b:Int} (ha:0≤a∧a≤3) (hb:0≤b∧b≤3):∃c',hsc o=cc c'∧qh2 o pl [.ok a,.ok b]=if (qi9 (wnt o) (cc a)||(qi9 (wnt o) (cc b)||false)||((o==8||o==9)&&(cc a != cc b&&cc a != 0&&cc b != 0)))=true then .err pl else .ok c':=by
 have h:o=6∨o=7∨o=8∨o=9∨o=10∨o=11∨o=12∨o=13∨o=16∨o=17∨o=18∨o=19:=by omega
 rcases h with rfl|rfl|rfl|rfl|rfl|rfl|rfl|rfl|rfl|rfl|rfl|rfl<;>rcases c4 ha with rfl|rfl|rfl|rfl<;>rcases c4 hb with rfl|rfl|rfl|rfl<;>first
  | exact ⟨3,by decide,rfl⟩
  | exact ⟨1,by decide,rfl⟩
theorem err2 {o:Int} (ho:6≤o∧o≤13∨16≤o∧o≤19) (pl q:Int):(∀r,qh2 o pl [.err q,r]=.err q)∧∀a,qh2 o pl [.ok a,.err q]=.err q:=by
 have h:o=6∨o=7∨o=8∨o=9∨o=10∨o=11∨o=12∨o=13∨o=16∨o=17∨o=18∨o=19:=by omega
 rcases h with rfl|rfl|rfl|rfl|rfl|rfl|rfl|rfl|rfl|rfl|rfl|rfl<;>exact ⟨fun r=>rfl,fun a=>rfl⟩
theorem own3 (pl:Int) {a b c:Int} (ha:0≤a∧a≤3) (hb:0≤b∧b≤3) (hc:0≤c∧c≤3):qh2 20 pl [.ok a,.ok b,.ok c]=if (qi9 2 (cc a)||(qi9 2 (cc b)||(qi9 2 (cc c)||false)))=true then .err pl else .ok 3:=by
 rcases c4 ha with rfl|rfl|rfl|rfl<;>rcases c4 hb with rfl|rfl|rfl|rfl<;>rcases c4 hc with rfl|rfl|rfl|rfl<;>rfl
theorem CEnd.err {cs:List Int} {l:List RN} {q:Int} (h:CEnd cs l (.err q)) (k:List RN):qr7 cs (l++k)=.inl q:=by
 have h:qr7 cs l=.inl q:=h
 rw [qr1,h]
theorem last_getD (l:List Int) (v:Int):(l++[v]).getD l.length 0=v:=by simp
theorem cls_un1 {p:Pay} {x:Ast} {l:List RN} {cs:List Int} {off:Nat} {neg:Bool} (hcs:cs.length=off) (hl:0<l.length) (ho:p.op=5∨p.op=14∨p.op=15∨p.op=21∨p.op=22∨p.op=23) (hx:CEnd cs l (qa4 x)) (h0:p.op=21∨p.op=22∨p.op=23→∃c,qa4 x=.ok c) :
  CEnd cs (l++[qj5 p [off+l.length - 1] neg]) (qa4 (.un p x)):=by
 show CEnd cs _ (qh2 p.op p.place [qa4 x])
 cases hc:qa4 x with
 | err q=>
  rw [hc] at hx h0
  rw [err1 (by rcases ho with h|h|h|h|h|h;exact .inl h;exact .inr (.inl h);exact .inr (.inr h);all_goals (obtain ⟨c,e⟩:=h0 (by omega);cases e))]
  exact hx.err _
 | ok c=>
  rw [hc] at hx
  obtain ⟨ds,h1,h2,h3⟩:=hx
  have hr:=qx1 x c hc
  obtain ⟨c',hh,he⟩:=own1 ho p.place hr
  have hn:ja7 (qj5 p [off+l.length - 1] neg).op=p.op:=op_of rfl (by omega) (by omega)
  have hat:qi8 (cs++ds) (off+l.length - 1)=cc c:=by
   have:=jg1 (cs:=cs) (ds:=ds) (es:=[]) (k:=off+l.length - 1) (by omega) (by omega)
   rw [List.append_nil] at this
   rw [this,show off+l.length - 1 - cs.length=l.length - 1 by omega];exact h3
  have hb:vr3 (cs++ds) (qj5 p [off+l.length - 1] neg)=qi9 (wnt p.op) (cc c):=by
   unfold vr3
   rw [hn]
   have e8:(p.op==8||p.op==9)=false:=by
    rw [Bool.or_eq_false_iff];exact ⟨beq_eq_false_iff_ne.2 (by omega),beq_eq_false_iff_ne.2 (by omega)⟩
   rw [e8,Bool.false_and,Bool.or_false]
   show ([off+l.length - 1].any fun k=>qi9 (wnt p.op) (qi8 (cs++ds) k))=_
   simp only [List.any_cons,List.any_nil,Bool.or_false,hat]
  rw [he]
  split
  ·rename_i hm
   show qr7 cs _=.inl _
   rw [qs0 h1,if_pos (by rw [hb];exact hm)]
   rfl
  ·rename_i hm
   refine ⟨ds++[hsc p.op], ?_,by simp [h2], ?_⟩
   ·rw [qs0 h1,if_neg (by rw [hb];exact hm),hn]
   ·rw [←hh];simp [h2]
theorem cls_bin1 {p:Pay} {x y:Ast} {l k:List RN} {cs:List Int} {off:Nat} (hcs:cs.length=off) (hl:0<l.length) (hkl:0<k.length) (ho:6≤p.op∧p.op≤13∨16≤p.op∧p.op≤19) (hx:CEnd cs l (qa4 x)) (hy:∀ds:List Int,ds.length=l.length→CEnd (cs++ds) k (qa4 y)) :
  CEnd cs (l++k++[qj5 p [off+l.length - 1,off+l.length+k.length - 1] false]) (qa4 (.bin p x y)):=by
 show CEnd cs _ (qh2 p.op p.place [qa4 x,qa4 y])
 cases hc:qa4 x with
 | err q=>
  rw [hc] at hx
  rw [(err2 ho p.place q).1]
  show qr7 cs _=.inl q
  rw [List.append_assoc];exact hx.err _
 | ok a=>
  rw [hc] at hx
  obtain ⟨ds,h1,h2,h3⟩:=hx
  have hy:=hy ds h2
  cases hd:qa4 y with
  | err q=>
   rw [hd] at hy
   rw [(err2 ho p.place q).2]
   show qr7 cs _=.inl q
   rw [List.append_assoc,qr1,h1]
   exact hy.err _
  | ok b=>
   rw [hd] at hy
   obtain ⟨es,g1,g2,g3⟩:=hy
   have hlk:qr7 cs (l++k)=.inr (cs++(ds++es)):=by rw [qr1,h1];show qr7 (cs++ds) k=_;rw [g1,List.append_assoc]
   obtain ⟨c',hh,he⟩:=own2 ho p.place (qx1 x a hc) (qx1 y b hd)
   have hn:ja7 (qj5 p [off+l.length - 1,off+l.length+k.length - 1] false).op=p.op:=op_of rfl (by omega) (by omega)
   have ha:qi8 (cs++(ds++es)) (off+l.length - 1)=cc a:=by
    rw [←List.append_assoc,jg1 (by omega) (by omega),show off+l.length - 1 - cs.length=l.length - 1 by omega];exact h3
   have hb':qi8 (cs++(ds++es)) (off+l.length+k.length - 1)=cc b:=by
    have:=jg1 (cs:=cs++ds) (ds:=es) (es:=[]) (k:=off+l.length+k.length - 1) (by simp;omega) (by simp;omega)
    rw [List.append_nil] at this
    rw [←List.append_assoc,this,show off+l.length+k.length - 1 - (cs++ds).length=k.length - 1 by simp;omega];exact g3
   have hb:vr3 (cs++(ds++es)) (qj5 p [off+l.length - 1,off+l.length+k.length - 1] false)=(qi9 (wnt p.op) (cc a)||(qi9 (wnt p.op) (cc b)||false)||((p.op==8||p.op==9)&&(cc a != cc b&&cc a != 0&&cc b != 0))):=by
    unfold vr3
    rw [hn,←ha,←hb']
    rfl
   rw [he]
   split
   ·rename_i hm
    show qr7 cs _=.inl _
    rw [qs0 hlk,if_pos (by rw [hb];exact hm)]
    rfl
   ·rename_i hm
    refine ⟨ds++es++[hsc p.op], ?_,by simp [h2,g2], ?_⟩
    ·rw [qs0 hlk,if_neg (by rw [hb];exact hm),hn]
    ·rw [←hh];simp [h2,g2]
theorem jd4 {p:Pay} {x y z:Ast} {l k r:List RN} {cs:List Int} {off:Nat} {neg:Bool} (hcs:cs.length=off) (hl:0<l.length) (hkl:0<k.length) (hrl:0<r.length) (ho:p.op=20) (hx:CEnd cs l (qa4 x)) (hy:∀ds:List Int,ds.length=l.length→CEnd (cs++ds) k (qa4 y)) (hz:∀ds:List Int,ds.length=l.length+k.length→CEnd (cs++ds) r (qa4 z)) :
  CEnd cs (l++k++r++[qj5 p [off+l.length - 1,off+l.length+k.length - 1,off+l.length+k.length+r.length - 1] neg]) (qa4 (.tri p x y z)):=by
 show CEnd cs _ (qh2 p.op p.place [qa4 x,qa4 y,qa4 z])
 rw [ho]
 cases hc:qa4 x with
 | err q=>
  rw [hc] at hx
  show qr7 cs _=.inl q
  rw [List.append_assoc,List.append_assoc];exact hx.err _
 | ok a=>
  rw [hc] at hx
  obtain ⟨ds,h1,h2,h3⟩:=hx
  have hy:=hy ds h2
  cases hd:qa4 y with
  | err q=>
   rw [hd] at hy
   show qr7 cs _=.inl q
   rw [List.append_assoc,List.append_assoc,qr1,h1]
   exact hy.err _
  | ok b=>
   rw [hd] at hy
   obtain ⟨es,g1,g2,g3⟩:=hy
   have hlk:qr7 cs (l++k)=.inr (cs++(ds++es)):=by rw [qr1,h1];show qr7 (cs++ds) k=_;rw [g1,List.append_assoc]
   have hz:=hz (ds++es) (by simp [h2,g2])
   cases hf:qa4 z with
   | err q=>
    rw [hf] at hz
    show qr7 cs _=.inl q
    rw [List.append_assoc,qr1,hlk]
    exact hz.err _
   | ok c=>
    rw [hf] at hz
    obtain ⟨fs,f1,f2,f3⟩:=hz
    have hlr:qr7 cs (l++k++r)=.inr (cs++(ds++es++fs)):=by rw [qr1,hlk];show qr7 (cs++(ds++es)) r=_;rw [f1,List.append_assoc]
    have hn:ja7 (qj5 p [off+l.length - 1,off+l.length+k.length - 1,off+l.length+k.length+r.length - 1] neg).op=20:=op_of ho (by decide) (by decide)
    have ha:qi8 (cs++(ds++es++fs)) (off+l.length - 1)=cc a:=by
     rw [List.append_assoc ds,←List.append_assoc cs,jg1 (by omega) (by omega),show off+l.length - 1 - cs.length=l.length - 1 by omega];exact h3
    have hb':qi8 (cs++(ds++es++fs)) (off+l.length+k.length - 1)=cc b:=by
     rw [List.append_assoc ds,←List.append_assoc cs,←List.append_assoc (cs++ds),jg1 (by simp;omega) (by simp;omega),show off+l.length+k.length - 1 - (cs++ds).length=k.length - 1 by simp;omega];exact g3
    have hc':qi8 (cs++(ds++es++fs)) (off+l.length+k.length+r.length - 1)=cc c:=by
     have:=jg1 (cs:=cs++(ds++es)) (ds:=fs) (es:=[]) (k:=off+l.length+k.length+r.length - 1) (by simp;omega) (by simp;omega)
     rw [List.append_nil] at this
     rw [←List.append_assoc cs,this,show off+l.length+k.length+r.length - 1 - (cs++(ds++es)).length=r.length - 1 by simp;omega];exact f3
    have hb:vr3 (cs++(ds++es++fs)) (qj5 p [off+l.length - 1,off+l.length+k.length - 1,off+l.length+k.length+r.length - 1] neg)=(qi9 2 (cc a)||(qi9 2 (cc b)||(qi9 2 (cc c)||false))):=by
     unfold vr3
     rw [hn,←ha,←hb',←hc']
     rw [show (((20:Int)==8)||((20:Int)==9))=false from rfl,Bool.false_and,Bool.or_false]
     rfl
    rw [own3 p.place (qx1 x a hc) (qx1 y b hd) (qx1 z c hf)]
    split
    ·rename_i hm
     show qr7 cs _=.inl _
     rw [qs0 hlr,if_pos (by rw [hb];exact hm)]
     rfl
    ·rename_i hm
     refine ⟨ds++es++fs++[hsc 20], ?_,by simp [h2,g2,f2], ?_⟩
     ·rw [qs0 hlr,if_neg (by rw [hb];exact hm),hn]
     ·rw [show (l++k++r++[qj5 p [off+l.length - 1,off+l.length+k.length - 1,off+l.length+k.length+r.length - 1] neg]).length - 1=(ds++es++fs).length by simp only [List.length_append,List.length_singleton];omega,last_getD]
      decide
theorem cls_not {pl:Int} {x:Ast} (h:∀c,qa4 x=.ok c→c=3):qa4 (.un ⟨5,pl,0,[],[],[]⟩ x)=qa4 x:=by
 show qh2 5 pl [qa4 x]=_
 cases hx:qa4 x with
 | err q=>rfl
 | ok c=>rw [h c hx];rfl
theorem ja4 {x:Ast} (h:ShA x) (h0:opA x=0):qa4 x=.ok 0:=by
 cases x with
 | leaf p=>show qh2 p.op p.place []=_;rw [show p.op=0 from h0];rfl
 | un p x=>exact absurd h.1 (by have:p.op=0:=h0;omega)
 | bin p x y=>exact absurd h.1 (by have:p.op=0:=h0;omega)
 | tri p x y z=>exact absurd h.1 (by have:p.op=0:=h0;omega)
theorem cls_flat:∀{t:Ast} {off:Nat} {l:List RN},Flat t off l→ShA t→∀cs:List Int,cs.length=off→CEnd cs l (qa4 t):=by
 intro t off l h
 induction h with
 | leaf p off=>intro hs cs hc;exact cls_leaf off hs hc
 | un p hx ih=>
  intro hs cs hc
  exact cls_un1 hc hx.pos hs.1 (ih hs.2.2.2 cs hc) (fun e=>⟨0,ja4 hs.2.2.2 (hs.2.2.1 e)⟩)
 | bin p hx hy ihx ihy=>
  intro hs cs hc
  exact cls_bin1 hc hx.pos hy.pos hs.1 (ihx hs.2.1 cs hc) (fun ds hd=>ihy hs.2.2 (cs++ds) (by simp;omega))
 | tri p hx hy hz ihx ihy ihz=>
  intro hs cs hc
  exact jd4 hc hx.pos hy.pos hz.pos hs.1 (ihx hs.2.1 cs hc) (fun ds hd=>ihy hs.2.2.1 (cs++ds) (by simp;omega)) (fun ds hd=>ihz hs.2.2.2 (cs++ds) (by simp;omega))
 | neg1 pl q hq hx ih=>
  intro hs cs hc
  obtain ⟨_,_,_,hs⟩:=hs
  have h21:q.op=21∨q.op=22∨q.op=23:=hq
  rw [cls_not (fun c e=>by
   have:qh2 q.op q.place [qa4 _]=.ok c:=e
   rw [ja4 hs.2.2.2 (hs.2.2.1 h21)] at this
   rcases h21 with e|e|e<;>rw [e] at this<;>(injection this with this;exact this.symm))]
  exact cls_un1 hc hx.pos hs.1 (ih hs.2.2.2 cs hc) (fun e=>⟨0,ja4 hs.2.2.2 (hs.2.2.1 e)⟩)
 | neg3 pl q hq hx hy hz ihx ihy ihz=>
  intro hs cs hc
  obtain ⟨_,_,_,hs⟩:=hs
  rw [cls_not (fun c e=>by
   have:qh2 q.op q.place [qa4 _,qa4 _,qa4 _]=.ok c:=e
   rw [hq] at this
   have h2:qt5 1 q.place 3 _=.ok c:=this
   unfold qt5 at h2
   split at h2
   ·injection h2 with h2;exact h2.symm
   ·cases h2)]
  exact jd4 hc hx.pos hy.pos hz.pos hs.1 (ihx hs.2.1 cs hc) (fun ds hd=>ihy hs.2.2.1 (cs++ds) (by simp;omega)) (fun ds hd=>ihz hs.2.2.2 (cs++ds) (by simp;omega))
end
section
theorem NodesAt.cells {w:World} {rb g LN cap:Nat} {ns:List RN} (h:NodesAt w rb (.slice (some ⟨g,0,none⟩) LN cap) ns) {i:Nat} {n:RN} (hi:ns[i]?=some n) :
  LN=ns.length∧∃iv lv,RowOf w rb 3 iv (qy3 n.ins)∧RowOf w rb 9 lv (qa0 n.texts)∧∀k,k<9→w.cell? ⟨g,i * 9+k,none⟩=(qv1 n iv lv)[k]?:=by
 obtain ⟨rs,hl,ho,hn⟩:=h
 have hlt:=(List.getElem?_eq_some_iff.1 hi).1
 have hLN:LN=ns.length:=by
  obtain ⟨_,hx|⟨g',cap',cur,e,_⟩⟩:=ho
  ·cases hx.1
  ·injection e with _ e2 _
 subst hLN
 obtain ⟨r,hr⟩:∃r,rs[i]?=some r:=⟨rs[i],List.getElem?_eq_getElem (by omega)⟩
 have hz:(ns.zip rs)[i]?=some (n,r):=by rw [List.getElem?_zip_eq_some];exact ⟨hi,hr⟩
 refine ⟨rfl,r.1,r.2,(hn i n r hi hr).1,(hn i n r hi hr).2,fun k hk=>?_⟩
 rw [ho.cellAt (i * 9+k) (by omega)]
 exact flat9 (fun x:RN×(Value×Value)=>qv1 x.1 x.2.1 x.2.2) (fun a=>rfl) (ns.zip rs) i (n,r) hz k hk
theorem RowOf.get {w:World} {rb:Nat} {ty:TypeId} {v:Value} {vs:List Value} (h:RowOf w rb ty v vs) {k:Nat} {u:Value} (hk:vs[k]?=some u):∃q cap,v=.slice (some ⟨q,0,none⟩) vs.length cap∧w.cell? ⟨q,k,none⟩=some u:=by
 rcases h with ⟨rfl,_⟩|⟨q,cap,c,fr,hv,_,hc,_,hx⟩
 ·simp at hk
 ·refine ⟨q,cap,hv, ?_⟩
  have:=hx k u hk
  simp [World.cell?,hc,this]
theorem je3 {α:Type} (f:α→List Value) (hf:∀a,(f a).length=9) (v:Value):∀(l:List α) (i:Nat) (a a':α),l[i]?=some a→f a'=(f a).set 8 v→(l.set i a').flatMap f=(l.flatMap f).set (i * 9+8) v:=by
 intro l
 induction l with
 | nil=>intro i a a' h;simp at h
 | cons b l ih=>
  intro i a a' h he
  cases i with
  | zero=>
   simp at h;subst h
   rw [List.set_cons_zero,List.flatMap_cons,List.flatMap_cons,he,List.set_append_left _ _ (by rw [hf];omega)]
  | succ i=>
   rw [List.set_cons_succ,List.flatMap_cons,List.flatMap_cons,List.set_append_right _ _ (by rw [hf];omega),hf,ih i a a' (by simpa using h) he,show (i+1) * 9+8 - 9=i * 9+8 by omega]
theorem NodesAt.setCls {w:World} {rb g LN cap:Nat} {ns:List RN} (h:NodesAt w rb (.slice (some ⟨g,0,none⟩) LN cap) ns) (c0:w.cell? ⟨rb,0,none⟩=some (.slice (some ⟨g,0,none⟩) LN cap)) {i:Nat} {n:RN} (hi:ns[i]?=some n) (c:Int) :
  NodesAt (w.setCell ⟨g,i * 9+8,none⟩ (.int .i64 c)) rb (.slice (some ⟨g,0,none⟩) LN cap) (ns.set i { n with cls:=c })∧TKept rb w (w.setCell ⟨g,i * 9+8,none⟩ (.int .i64 c))∧(w.setCell ⟨g,i * 9+8,none⟩ (.int .i64 c)).heap[rb]?=w.heap[rb]?∧∀j,w.frozen? ⟨g,j,none⟩=false:=by
 obtain ⟨rs,hl,ho,hn⟩:=h
 have hlt:=(List.getElem?_eq_some_iff.1 hi).1
 have hgo:qy2 w rb g:=.inr ⟨_,c0,rfl⟩
 have hgb:=ho.lt g rfl
 have hgr:g≠rb:=by omega
 have hb:(w.setCell ⟨g,i * 9+8,none⟩ (.int .i64 c)).heap[rb]?=w.heap[rb]?:=Below.heap_setCell w ⟨g,i * 9+8,none⟩ _ rb (fun e=>hgr e.symm)
 have hK:TKept rb w (w.setCell ⟨g,i * 9+8,none⟩ (.int .i64 c)):=by
  refine ⟨rfl,rfl,rfl,by simp,fun k _ hno=>Below.heap_setCell w ⟨g,i * 9+8,none⟩ _ k (fun e=>hno (by have e':k=g:=e;rw [e'];exact hgo)),fun k _ hk=>(ja9 w hgr (i * 9+8) _ k).1 hk⟩
 obtain ⟨hll,hx|⟨g',cap',cur,e,hbg,hgg,h1,h2,h3,h4⟩⟩:=ho
 ·cases hx.1
 injection e with e1 e2 e3
 injection e1 with e1
 injection e1 with e1
 subst e1 e2 e3
 have hz:(ns.zip rs)[i]?=some (n,rs[i]'(by omega)):=by rw [List.getElem?_zip_eq_some];exact ⟨hi,List.getElem?_eq_getElem (by omega)⟩
 have hset:((ns.set i { n with cls:=c }).zip rs)=(ns.zip rs).set i ({ n with cls:=c },rs[i]'(by omega)):=by
  apply List.ext_getElem?
  intro k
  rw [List.getElem?_set,List.zip_eq_zipWith,List.zip_eq_zipWith,List.getElem?_zipWith,List.getElem?_zipWith,List.getElem?_set]
  by_cases hk:i=k
  ·subst hk
   simp [hlt,hl]
  ·simp [hk]
 refine ⟨⟨rs,by simp [hl],⟨?_,.inr ⟨g,cap,cur.setIfInBounds (i * 9+8) (.int .i64 c),by simp,hbg,qx6 hgg _ _,by simpa using h1,h2,by simpa using h3, ?_⟩⟩,fun j m r hj hr=>?_⟩,hK,hb,fun j=>(qs3 hgg).2 j⟩
 ·rw [hset,je3 (fun x:RN×(Value×Value)=>qv1 x.1 x.2.1 x.2.2) (fun a=>rfl) (.int .i64 c) (ns.zip rs) i _ _ hz rfl,List.length_set,List.length_set]
  exact hll
 ·rw [hset,je3 (fun x:RN×(Value×Value)=>qv1 x.1 x.2.1 x.2.2) (fun a=>rfl) (.int .i64 c) (ns.zip rs) i _ _ hz rfl,List.length_set,←h4,Array.toList_setIfInBounds,List.take_set]
 ·by_cases hij:i=j
  ·subst hij
   rw [List.getElem?_set_self hlt] at hj
   injection hj with hj
   subst hj
   exact ⟨(hn i n r hi hr).1.kept hK,(hn i n r hi hr).2.kept hK⟩
  ·rw [List.getElem?_set_ne hij] at hj
   exact ⟨(hn j m r hj hr).1.kept hK,(hn j m r hj hr).2.kept hK⟩
def qq8 (ns:List RN) (cs:List Int):List RN:=(ns.zipIdx).map fun x=>{ x.1 with cls:=if x.2<cs.length then cs.getD x.2 0 else x.1.cls }
theorem vx1 (ns:List RN):qq8 ns []=ns:=by
 unfold qq8
 apply List.ext_getElem?
 intro i
 rw [List.getElem?_map,List.getElem?_zipIdx]
 cases ns[i]?<;>simp
theorem qt2 {ns:List RN} {cs:List Int} {i:Nat}:(qq8 ns cs)[i]?=(ns[i]?).map fun n=>{ n with cls:=if i<cs.length then cs.getD i 0 else n.cls }:=by
 unfold qq8
 rw [List.getElem?_map,List.getElem?_zipIdx]
 cases ns[i]?<;>simp
theorem vx0 (ns:List RN) (cs:List Int):(qq8 ns cs).length=ns.length:=by unfold qq8;simp
theorem jp2 {ns:List RN} {cs:List Int} {n:RN} (h:ns[cs.length]?=some n) (c:Int):(qq8 ns cs).set cs.length { n with cls:=c }=qq8 ns (cs++[c]):=by
 apply List.ext_getElem?
 intro i
 have hlt:=(List.getElem?_eq_some_iff.1 h).1
 rw [List.getElem?_set,qt2,qt2]
 by_cases hi:cs.length=i
 ·subst hi
  rw [if_pos rfl,if_pos (by rw [vx0];exact hlt),h]
  simp
 ·rw [if_neg hi]
  cases hn:ns[i]? with
  | none=>rfl
  | some m=>
   simp only [Option.map_some]
   by_cases h2:i<cs.length
   ·have:i<(cs++[c]).length:=by simp;omega
    simp [h2,List.getElem?_append_left h2]
    omega
   ·have:¬i<(cs++[c]).length:=by simp;omega
    simp [h2]
    omega
end
section
structure NF (i:Nat) (n:RN) (o:Int):Prop where
 o0:0≤o
 o23:o≤23
 op:n.op=qb9 o
 ins:∀k∈n.ins,k<i
 two:o=8∨o=9→∃a b,n.ins=[a,b]
 few:n.ins.length≤3
def vi8 (R:Sum Int (List Int)) (top:Nat):Int×Int:=match R with
 | .inl q=>(4,q)
 | .inr cs=>if cs.getD top 0≠0∧cs.getD top 0≠1 then (4,0) else (0,0)
theorem vh3 {ns:List RN} {cs:List Int} {n:RN} (h:ns[cs.length]?=some n):qr7 cs (ns.drop cs.length)=if vr3 cs n=true then .inl n.at' else qr7 (cs++[hsc (ja7 n.op)]) (ns.drop (cs.length+1)):=by
 have hlt:=(List.getElem?_eq_some_iff.1 h).1
 rw [List.drop_eq_getElem_cons hlt,(List.getElem?_eq_some_iff.1 h).2,qr7]
theorem eq_words (o:Int) (h0:0≤o) (h23:o≤23):((BS (qb9 o)).toList==[61])=(o==8)∧((BS (qb9 o)).toList==[60,62])=(o==9):=by
 rw [qe0]
 have:∀i:Fin 24,(qb9 (i.val:Int)==[61])=((i.val:Int)==8)∧(qb9 (i.val:Int)==[60,62])=((i.val:Int)==9):=by decide +kernel
 have:=this ⟨o.toNat,by omega⟩
 rwa [show ((o.toNat:Nat):Int)=o by omega] at this
structure ClW (w:World) (rb g LN cap:Nat) (ns:List RN) (cs:List Int) (wr:World):Prop where
 c0:wr.cell? ⟨rb,0,none⟩=some (.slice (some ⟨g,0,none⟩) LN cap)
 nodes:NodesAt wr rb (.slice (some ⟨g,0,none⟩) LN cap) (qq8 ns cs)
 kept:TKept rb w wr
 lt:rb<wr.heap.size
theorem ClW.below {w:World} {rb g LN cap:Nat} {ns:List RN} {cs:List Int} {wr wq:World} (h:ClW w rb g LN cap ns cs wr) (hb:Below wr.heap.size wr wq):ClW w rb g LN cap ns cs wq:=
 ⟨((qa9 hb).1 _ _ h.lt).trans h.c0,h.nodes.below h.lt hb,h.kept.trans (TKept.of_below hb h.lt),Nat.lt_of_lt_of_le h.lt hb.size⟩
theorem ClW.cls {w:World} {rb g LN cap:Nat} {ns:List RN} {cs:List Int} {wr:World} (h:ClW w rb g LN cap ns cs wr) {k:Nat} (hk:k<cs.length) (hl:cs.length≤ns.length):wr.cell? ⟨g,k * 9+8,none⟩=some (.int .i64 (qi8 cs k)):=by
 have hn:(qq8 ns cs)[k]?=some { ns[k]'(by omega) with cls:=cs.getD k 0 }:=by
  rw [qt2,List.getElem?_eq_getElem (by omega)]
  simp [hk]
 obtain ⟨_,iv,lv,_,_,hc⟩:=h.nodes.cells hn
 rw [hc 8 (by omega)]
 rfl
theorem ClW.set {w:World} {rb g LN cap:Nat} {ns:List RN} {cs:List Int} {wr:World} (h:ClW w rb g LN cap ns cs wr) {n:RN} (hn:ns[cs.length]?=some n) (c:Int):ClW w rb g LN cap ns (cs++[c]) (wr.setCell ⟨g,cs.length * 9+8,none⟩ (.int .i64 c))∧TKept rb wr (wr.setCell ⟨g,cs.length * 9+8,none⟩ (.int .i64 c))∧g<wr.heap.size∧∀j,wr.frozen? ⟨g,j,none⟩=false:=by
 have hn':(qq8 ns cs)[cs.length]?=some n:=by rw [qt2,hn];simp
 obtain ⟨h1,h2,h3,h4⟩:=h.nodes.setCls h.c0 hn' c
 rw [jp2 hn] at h1
 have hg:g<wr.heap.size:=by obtain ⟨rs,_,ho,_⟩:=h.nodes;exact (ho.lt g rfl).2
 exact ⟨⟨(World.cell?_of_block (w:=wr) (a:=⟨rb,0,none⟩) h3).trans h.c0,h1,h.kept.trans h2,by simpa using h.lt⟩,h2,hg,h4⟩
theorem vx7 {i:Nat} {cs:List Int} {n:RN} {o:Int} (hf:NF i n o):vr3 cs n=((n.ins.any fun k=>qi9 (wnt o) (qi8 cs k))||((o==8||o==9)&&(qi8 cs (n.ins.getD 0 0) != qi8 cs (n.ins.getD 1 0)&&qi8 cs (n.ins.getD 0 0) != 0&&qi8 cs (n.ins.getD 1 0) != 0))):=by
 unfold vr3;rw [hf.op,qy9 hf.o0 hf.o23]
end
section
def ClsPost (rb:Nat) (w:World) (ns:List RN) (er pl:Int) (e:Ending) (w':World):Prop:=
 e=.returned (.tuple #[.int .i64 er,.int .i64 pl])∧TKept rb w w'∧∃g LN cap cs,ClW w rb g LN cap ns cs w'
set_option maxHeartbeats 16000000 in
set_option maxRecDepth 100000 in
theorem vc3 {w:World} {rb g LN cap:Nat} {ns:List RN} (h0:ClW w rb g LN cap ns [] w) (hne:0<ns.length) (hlen:ns.length≤1000) (hf:∀i n,ns[i]?=some n→∃o,NF i n o) :
  Calls Tryz.prog 175 #[.pointer (some ⟨rb,0,none⟩),.int .i64 ((ns.length - 1:Nat):Int)] w (ClsPost rb w ns (vi8 (qr7 [] ns) (ns.length - 1)).1 (vi8 (qr7 [] ns) (ns.length - 1)).2):=by
 obtain ⟨R,hR⟩:∃r,qr7 [] ns=r:=⟨_,rfl⟩
 rw [hR]
 have HR:=j4 hR
 have hLN:LN=ns.length:=by
  obtain ⟨rs,_,ho,_⟩:=h0.nodes
  rw [vx1] at ho
  obtain ⟨_,hx|⟨g',cap',cur,e,_⟩⟩:=ho
  ·cases hx.1
  ·injection e with _ e2 _
 obtain ⟨tp,htp⟩:∃t:Nat,ns.length - 1=t:=⟨_,rfl⟩
 rw [htp]
 have htl:tp<LN:=by omega
 have H0:=j4 h0
 have HF:=j4 hf
 have HLN:=j4 hLN
 have HNE:=j4 hlen
 clear h0 hR hf hLN htp hlen hne
 go_enter Tryz.func175,Tryz.ntmps175
 go_wp2_with fail
 go_loopw [6] (fun i wr=>∃cs:List Int,cs.length≤LN∧i=.int .i64 (cs.length:Int)∧Hid (R=qr7 cs (ns.drop cs.length))∧Hid (ClW w rb g LN cap ns cs wr)) (fun i _=>LN - (intOf i).toNat)
 case atStart=>exact ⟨[],Nat.zero_le _,rfl,j4 (by rw [List.length_nil,List.drop_zero,q9 HR]),H0⟩
 case round=>
  obtain ⟨cs,hcl,rfl,HRc,HC⟩:=hrel
  obtain ⟨i,hi⟩:∃i,cs.length=i:=⟨_,rfl⟩
  have HI:=j4 hi
  rw [hi] at hcl HRc ⊢
  clear hi
  have c0:=(q9 HC).c0
  have hlt:=(q9 HC).lt
  have hmx:=q9 HNE
  have hLNe:=q9 HLN
  have hb1000:LN≤1000:=by omega
  clear hmx hLNe
  by_cases hil:i<LN
  ·have hil':(i:Int)<(LN:Int):=by omega
   have hi0:(0:Int)≤(i:Int):=by omega
   obtain ⟨n,hn⟩:∃n,ns[cs.length]?=some n:=⟨_,List.getElem?_eq_getElem (by have:=q9 HI;have:=q9 HLN;omega)⟩
   obtain ⟨o,hfo⟩:=q9 HF _ n hn
   have hn':(qq8 ns cs)[cs.length]?=some n:=by rw [qt2,hn];simp
   obtain ⟨hLN2,iv,lv,hiv,hlv,hc9⟩:=(q9 HC).nodes.cells hn'
   clear hLN2
   rw [q9 HI] at hc9
   have e0:wr.cell? ⟨g,i * 9,none⟩=some (.string (BS (qb9 o))):=by have:=hc9 0 (by omega);rw [Nat.add_zero] at this;rw [←hfo.op];exact this
   have e1:wr.cell? ⟨g,i * 9+1,none⟩=some (.int .i64 n.at'):=hc9 1 (by omega)
   have e2:wr.cell? ⟨g,i * 9+2,none⟩=some iv:=hc9 2 (by omega)
   have e3:wr.cell? ⟨g,i * 9+3,none⟩=some (.string (BS n.str)):=hc9 3 (by omega)
   have e4:wr.cell? ⟨g,i * 9+4,none⟩=some (.string (BS n.esc)):=hc9 4 (by omega)
   have e5:wr.cell? ⟨g,i * 9+5,none⟩=some lv:=hc9 5 (by omega)
   have e6:wr.cell? ⟨g,i * 9+6,none⟩=some (.int .i64 n.num):=hc9 6 (by omega)
   have e7:wr.cell? ⟨g,i * 9+7,none⟩=some (.bool n.neg):=hc9 7 (by omega)
   have e8:wr.cell? ⟨g,i * 9+8,none⟩=some (.int .i64 n.cls):=hc9 8 (by omega)
   obtain ⟨hS,hSK,hgl,hgz⟩:=(q9 HC).set hn (hsc o)
   rw [q9 HI] at hS hSK
   obtain ⟨wt,hwt⟩:∃x,wnt o=x:=⟨_,rfl⟩
   obtain ⟨hs,hhs⟩:∃x,hsc o=x:=⟨_,rfl⟩
   have HWN:Hid (∀w,Calls Tryz.prog 217 #[.string (BS (qb9 o))] w fun e w'=>e=.returned (.tuple #[.int .i64 wt,.int .i64 hs])∧w'=w):=j4 fun w=>by rw [←hwt,←hhs];exact jc5 o hfo.o0 hfo.o23 w
   rw [hhs] at hS hSK
   have HS:=j4 hS
   have HIV2:=j4 (hiv.kept hSK)
   obtain ⟨w8,hw8⟩:=eq_words o hfo.o0 hfo.o23
   have HFO:=j4 hfo
   have HN:=j4 hn
   have HWT:=j4 hwt
   have HHS:=j4 hhs
   obtain ⟨ia,ic,rfl⟩:=hiv.form
   obtain ⟨la,lc,rfl⟩:=hlv.form
   have nr:¬rb=wr.heap.size:=by omega
   have ng:¬g=wr.heap.size:=by omega
   obtain ⟨lI,hlI⟩:∃x,(qy3 n.ins).length=x:=⟨_,rfl⟩
   obtain ⟨lT,hlT⟩:∃x,(qa0 n.texts).length=x:=⟨_,rfl⟩
   rw [hlI] at e2 HIV2
   rw [hlT] at e5
   have HLI:Hid (n.ins.length=lI):=j4 (by rw [←hlI];simp [qy3])
   have HAT:=j4 e1
   obtain ⟨W,hW⟩:∃W:World,W=(wr.setCell ⟨g,i * 9+8,none⟩ (.int .i64 hs)).alloc (.cells #[.string (BS (qb9 o)),.int .i64 n.at',.slice ia lI ic,.string (BS n.str),.string (BS n.esc),.slice la lT lc,.int .i64 n.num,.bool n.neg,.int .i64 n.cls] 241):=⟨_,rfl⟩
   have hWb:Below (wr.setCell ⟨g,i * 9+8,none⟩ (.int .i64 hs)).heap.size (wr.setCell ⟨g,i * 9+8,none⟩ (.int .i64 hs)) W:=hW ▸ (Below.refl _ _).alloc (Nat.le_refl _) _
   have HCW:=j4 ((q9 HS).below hWb)
   have HIW:=j4 ((q9 HIV2).kept (TKept.of_below hWb (q9 HS).lt))
   have hcp:∀k,W.cell? ⟨wr.heap.size,k,none⟩=#[.string (BS (qb9 o)),.int .i64 n.at',.slice ia lI ic,.string (BS n.str),.string (BS n.esc),.slice la lT lc,.int .i64 n.num,.bool n.neg,.int .i64 n.cls][k]?:=fun k=>by rw [hW,World.cell?_alloc_at _ _ _ _ (by simp)]
   have hWz:W.heap.size=wr.heap.size+1:=by rw [hW];simp
   have HW:=j4 hW
   have HWz:=j4 hWz
   have HCP:=j4 hcp
   clear hn hfo hn' hiv hlv hc9 hS hSK hwt hhs hlI hlT hWb hcp hW hWz
   go_wp2_with (go_at_call 217;refine (q9 HWN _).mono ?_;rintro e w1 ⟨rfl,hw1⟩;subst w1)
   rw [←q9 HW]
   clear e0 e1 e2 e3 e4 e5 e6 e7 e8
   obtain ⟨wo,rfl⟩:∃wo:World,wo=wr:=⟨_,rfl⟩
   go_loopw [10] (fun k wq=>∃m:Nat,m≤lI∧k=.int .i64 m∧Hid (∀j q,j<m→n.ins[j]?=some q→qi9 wt (qi8 cs q)=false)∧Hid (Below W.heap.size W wq)) (fun k _=>lI - (intOf k).toNat)
   case atStart=>exact ⟨0,Nat.zero_le _,rfl,j4 (fun j q hj=>absurd hj (by omega)),j4 (Below.refl _ _)⟩
   case round=>
    obtain ⟨m,hm,rfl,HM,BM⟩:=hrel
    obtain ⟨hcb,hfb⟩:=qa9 (q9 BM)
    have hCq:=(q9 HCW).below (q9 BM)
    have d0:wr.cell? ⟨rb,0,none⟩=some (.slice (some ⟨g,0,none⟩) LN cap):=hCq.c0
    have hzq:=(q9 BM).size
    have f0:wr.cell? ⟨wo.heap.size,0,none⟩=some (.string (BS (qb9 o))):=(hcb _ 0 (by have:=q9 HWz;omega)).trans (q9 HCP 0)
    have f1:wr.cell? ⟨wo.heap.size,1,none⟩=some (.int .i64 n.at'):=(hcb _ 1 (by have:=q9 HWz;omega)).trans (q9 HCP 1)
    have f2:wr.cell? ⟨wo.heap.size,2,none⟩=some (.slice ia lI ic):=(hcb _ 2 (by have:=q9 HWz;omega)).trans (q9 HCP 2)
    have hIq:=(q9 HIW).kept (TKept.of_below (q9 BM) (q9 HCW).lt)
    have HCQ:=j4 hCq
    have hl3:lI≤3:=by have:=q9 HLI;have:=(q9 HFO).few;omega
    by_cases hml:m<lI
    ·obtain ⟨q,hq⟩:∃q,n.ins[m]?=some q:=⟨_,List.getElem?_eq_getElem (by have:=q9 HLI;omega)⟩
     have hqi:q<i:=by have:=(q9 HFO).ins q (List.mem_of_getElem? hq);rwa [q9 HI] at this
     obtain ⟨q0,ca,hia,hqc⟩:=hIq.get (k:=m) (u:=.int .i64 (q:Int)) (by simp [qy3,hq])
     injection hia with hia hz2 hz3
     clear hz2 hz3
     subst hia
     have hcl:=hCq.cls (k:=q) (by simp;have:=q9 HI;omega) (by simp;have:=q9 HI;have:=q9 HLN;omega)
     rw [show qi8 (cs++[hs]) q=qi8 cs q by unfold qi8;rw [List.getD_eq_getElem?_getD,List.getD_eq_getElem?_getD,List.getElem?_append_left (by have:=q9 HI;omega)]] at hcl
     obtain ⟨c,hc⟩:∃c,qi8 cs q=c:=⟨_,rfl⟩
     rw [hc] at hcl
     have HM2:Hid (qi9 wt c=false→∀j r,j<m+1→n.ins[j]?=some r→qi9 wt (qi8 cs r)=false):=j4 fun hf j r hj hr=>by
      by_cases hjm:j=m
      ·subst hjm;rw [hq] at hr;injection hr with hr;subst hr;rw [hc];exact hf
      ·exact q9 HM j r (by omega) hr
     have HE:Hid (qi9 wt c=true→vi8 R tp=(4,n.at')):=j4 fun hf=>by
      have hb:vr3 cs n=true:=by
       rw [vx7 (q9 HFO),Bool.or_eq_true]
       left
       rw [List.any_eq_true]
       exact ⟨q,List.mem_of_getElem? hq,by rw [q9 HWT,hc];exact hf⟩
      rw [q9 HRc,←q9 HI,vh3 (q9 HN),if_pos hb];rfl
     have hm0:(0:Int)≤(m:Int):=by omega
     have hm1:(m:Int)<(lI:Int):=by omega
     have hq1:(0:Int)≤(q:Int):=by omega
     have hq2:(q:Int)<(LN:Int):=by omega
     clear hq hc hcb hfb hCq hIq HM HCW HIW HRc HN
     by_cases hw:0≤wt
     ·by_cases hc0:c=0
      ·subst hc0
       go_wp2_with fail
       go_quiet (fail)
       go_wp2_with fail
       go_roundw
       case rel=>exact ⟨m+1,by omega,by go_num,j4 (q9 HM2 (by unfold qi9;simp)),j4 (Go.below_drewN (q9 BM) _)⟩
       case measure=>simp [intOf];omega
      ·by_cases hcw:c=wt
       ·have b1:(c != 0)=true:=by simpa using hc0
        have b2:(c != wt)=false:=by rw [hcw];simp
        go_wp2_with fail
        go_quiet (fail)
        go_wp2_with fail
        go_roundw
        case rel=>exact ⟨m+1,by omega,by go_num,j4 (q9 HM2 (by unfold qi9;rw [b2];simp)),j4 (Go.below_drewN (q9 BM) _)⟩
        case measure=>simp [intOf];omega
       ·have b1:(c != 0)=true:=by simpa using hc0
        have b2:(c != wt)=true:=by simpa using hcw
        have HE2:=j4 (q9 HE (by unfold qi9;rw [b1,b2,decide_eq_true hw];rfl))
        clear HE HM2
        go_wp2_with fail
        go_quiet (fail)
        go_wp2_with fail
        go_quiet (fail)
        go_wp2_with fail
        have hCF:=fun a b=>(q9 HCQ).below (Go.below_drewN (Go.below_drewN (Below.refl wr.heap.size wr) a) b)
        exact bodyPost_ret (by simp [results,Tryz.results175,go_sem];rfl) rfl ⟨by rw [q9 HE2],(hCF _ _).kept,g,LN,cap,_,hCF _ _⟩
     ·go_wp2_with fail
      go_quiet (fail)
      go_wp2_with fail
      go_roundw
      case rel=>exact ⟨m+1,by omega,by go_num,j4 (q9 HM2 (by unfold qi9;rw [decide_eq_false (by omega)];simp)),j4 (Go.below_drewN (q9 BM) _)⟩
      case measure=>simp [intOf];omega
    ·have hml':¬(m:Int)<(lI:Int):=by omega
     have hmE:m=lI:=by omega
     have HALL:Hid (∀q∈n.ins,qi9 wt (qi8 cs q)=false):=j4 fun q hq=>by
      obtain ⟨j,hj⟩:=List.getElem?_of_mem hq
      exact q9 HM j q (by have:=(List.getElem?_eq_some_iff.1 hj).1;have:=q9 HLI;omega) hj
     have HANY:Hid ((n.ins.any fun k=>qi9 (wnt o) (qi8 cs k))=false):=j4 (by
      rw [List.any_eq_false]
      intro q hq
      rw [q9 HWT,q9 HALL q hq];simp)
     have HNEXT:Hid (vr3 cs n=false→R=qr7 (cs++[hs]) (ns.drop (cs++[hs]).length)):=j4 fun hb=>by
      rw [q9 HRc,←q9 HI,vh3 (q9 HN),if_neg (by rw [hb];simp),(q9 HFO).op,qy9 (q9 HFO).o0 (q9 HFO).o23,q9 HHS,List.length_append];rfl
     have HEB:Hid (vr3 cs n=true→vi8 R tp=(4,n.at')):=j4 fun hb=>by
      rw [q9 HRc,←q9 HI,vh3 (q9 HN),if_pos hb];rfl
     have HLE:Hid ((cs++[hs]).length=i+1):=j4 (by rw [List.length_append,q9 HI];rfl)
     clear hcb hfb hCq HM HCW HRc HN hmE
     by_cases h8:o=8∨o=9
     ·obtain ⟨a,b,hab⟩:=(q9 HFO).two h8
      have hl2:lI=2:=by have:=q9 HLI;rw [hab] at this;exact this.symm
      have hai:a<i:=by have:=(q9 HFO).ins a (by rw [hab];simp);rwa [q9 HI] at this
      have hbi:b<i:=by have:=(q9 HFO).ins b (by rw [hab];simp);rwa [q9 HI] at this
      obtain ⟨q0,ca,hia,hqa⟩:=hIq.get (k:=0) (u:=.int .i64 (a:Int)) (by simp [qy3,hab])
      injection hia with hia hz2 hz3
      clear hz2 hz3
      subst hia
      obtain ⟨q1,cb,hib,hqb⟩:=hIq.get (k:=1) (u:=.int .i64 (b:Int)) (by simp [qy3,hab])
      injection hib with hib hz2 hz3
      injection hib with hib
      injection hib with hib
      clear hz2 hz3
      subst hib
      have hka:=(q9 HCQ).cls (k:=a) (by simp;have:=q9 HI;omega) (by simp;have:=q9 HI;have:=q9 HLN;omega)
      have hkb:=(q9 HCQ).cls (k:=b) (by simp;have:=q9 HI;omega) (by simp;have:=q9 HI;have:=q9 HLN;omega)
      have hcut:∀q,q<i→qi8 (cs++[hs]) q=qi8 cs q:=fun q hq=>by
       unfold qi8
       rw [List.getD_eq_getElem?_getD,List.getD_eq_getElem?_getD,List.getElem?_append_left (by have:=q9 HI;omega)]
      rw [hcut a hai] at hka
      rw [hcut b hbi] at hkb
      have hbad:vr3 cs n=(qi8 cs a != qi8 cs b&&qi8 cs a != 0&&qi8 cs b != 0):=by
       rw [vx7 (q9 HFO),q9 HANY,Bool.false_or,hab]
       rw [show (o==8||o==9)=true by rcases h8 with e|e<;>rw [e]<;>rfl,Bool.true_and]
       rfl
      obtain ⟨x,hx⟩:∃x,qi8 cs a=x:=⟨_,rfl⟩
      obtain ⟨y,hy⟩:∃y,qi8 cs b=y:=⟨_,rfl⟩
      rw [hx] at hka hbad
      rw [hy] at hkb hbad
      have HBD:=j4 hbad
      have ha1:(0:Int)≤(a:Int):=by omega
      have hb1:(0:Int)≤(b:Int):=by omega
      have ha2:(a:Int)<(LN:Int):=by omega
      have hb2:(b:Int)<(LN:Int):=by omega
      have hCF:=fun u=>(q9 HCQ).below (Go.below_drewN (Below.refl wr.heap.size wr) u)
      have hz:((BS (qb9 o)).toList==[61])=true∨(((BS (qb9 o)).toList==[61])=false∧((BS (qb9 o)).toList==[60,62])=true):=by
       rcases h8 with e|e
       ·left;rw [w8,e];rfl
       ·right;exact ⟨by rw [w8,e];rfl,by rw [hw8,e];rfl⟩
      subst hl2
      have HCFX:=j4 hCF
      have HCGX:=j4 (fun u v=>(q9 HCQ).below (Go.below_drewN (Go.below_drewN (Below.refl wr.heap.size wr) u) v))
      have hcomb:(x != y)=false∨((x != y)=true∧(x != 0)=false)∨((x != y)=true∧(x != 0)=true∧(y != 0)=false)∨((x != y)=true∧(x != 0)=true∧(y != 0)=true):=by
       cases (x != y)<;>cases (x != 0)<;>cases (y != 0)<;>simp
      clear hx hy hbad hcut hIq w8 hw8 hab HANY HALL hCF h8
      rcases hcomb with x1|⟨x1,x2⟩|⟨x1,x2,x3⟩|⟨x1,x2,x3⟩
      ·rcases hz with z8|⟨z8,z9⟩
       all_goals
        have HNX:=j4 (q9 HNEXT (by rw [q9 HBD,x1];simp))
        clear HNEXT HEB HBD
        go_wp2_with fail
        go_quiet (fail)
        go_wp2_with fail
        go_quiet (fail)
        go_wp2_with fail
        go_roundw
        case rel=>exact ⟨cs++[hs],by rw [q9 HLE];omega,by rw [q9 HLE];go_num,HNX,j4 (q9 HCFX _)⟩
        case measure=>simp [intOf];omega
      ·rcases hz with z8|⟨z8,z9⟩
       all_goals
        have HNX:=j4 (q9 HNEXT (by rw [q9 HBD,x1,x2];simp))
        clear HNEXT HEB HBD
        go_wp2_with fail
        go_quiet (fail)
        go_wp2_with fail
        go_quiet (fail)
        go_wp2_with fail
        go_roundw
        case rel=>exact ⟨cs++[hs],by rw [q9 HLE];omega,by rw [q9 HLE];go_num,HNX,j4 (q9 HCFX _)⟩
        case measure=>simp [intOf];omega
      ·rcases hz with z8|⟨z8,z9⟩
       all_goals
        have HNX:=j4 (q9 HNEXT (by rw [q9 HBD,x1,x2,x3];simp))
        clear HNEXT HEB HBD
        go_wp2_with fail
        go_quiet (fail)
        go_wp2_with fail
        go_quiet (fail)
        go_wp2_with fail
        go_roundw
        case rel=>exact ⟨cs++[hs],by rw [q9 HLE];omega,by rw [q9 HLE];go_num,HNX,j4 (q9 HCFX _)⟩
        case measure=>simp [intOf];omega
      ·rcases hz with z8|⟨z8,z9⟩
       all_goals
        have HE2:=j4 (q9 HEB (by rw [q9 HBD,x1,x2,x3];rfl))
        clear HNEXT HEB HBD
        go_wp2_with fail
        go_quiet (fail)
        go_wp2_with fail
        go_quiet (fail)
        go_wp2_with fail
        go_quiet (fail)
        go_wp2_with fail
        exact bodyPost_ret (by simp [results,Tryz.results175,go_sem];rfl) rfl ⟨by rw [q9 HE2],(q9 HCGX _ _).kept,g,LN,cap,_,q9 HCGX _ _⟩
     ·have y8:((BS (qb9 o)).toList==[61])=false:=by rw [w8,beq_eq_false_iff_ne];omega
      have y9:((BS (qb9 o)).toList==[60,62])=false:=by rw [hw8,beq_eq_false_iff_ne];omega
      have hb:vr3 cs n=false:=by
       rw [vx7 (q9 HFO),q9 HANY,Bool.false_or,Bool.and_eq_false_iff]
       left
       rw [Bool.or_eq_false_iff,beq_eq_false_iff_ne,beq_eq_false_iff_ne];omega
      have HNX:=j4 (q9 HNEXT hb)
      clear hIq w8 hw8 hb HNEXT HEB h8
      go_wp2_with fail
      go_roundw
      case rel=>exact ⟨cs++[hs],by rw [q9 HLE];omega,by rw [q9 HLE];go_num,HNX,HCQ⟩
      case measure=>simp [intOf];omega
  ·have hil':¬(i:Int)<(LN:Int):=by omega
   have hiL:i=LN:=by omega
   have ht0:(0:Int)≤(tp:Int):=by omega
   have htl':(tp:Int)<(LN:Int):=by omega
   have ct:=(q9 HC).cls (k:=tp) (by have:=q9 HI;omega) (by have:=q9 HI;have:=q9 HLN;omega)
   obtain ⟨c,hc⟩:∃c,qi8 cs tp=c:=⟨_,rfl⟩
   rw [hc] at ct
   have HE:Hid (vi8 R tp=if c≠0∧c≠1 then (4,0) else (0,0)):=j4 (by
    rw [q9 HRc,List.drop_of_length_le (by have:=q9 HLN;omega),←hc];rfl)
   clear hc
   by_cases h1:c=0
   ·go_wp2_with fail
    exact bodyPost_ret (by simp [results,Tryz.results175,go_sem];rfl) rfl ⟨by rw [q9 HE,if_neg (by omega)],(q9 HC).kept,g,LN,cap,cs,q9 HC⟩
   ·by_cases h2:c=1
    ·go_wp2_with fail
     exact bodyPost_ret (by simp [results,Tryz.results175,go_sem];rfl) rfl ⟨by rw [q9 HE,if_neg (by omega)],(q9 HC).kept,g,LN,cap,cs,q9 HC⟩
    ·have b1:(c != 0)=true:=by simpa using h1
     have b2:(c != 1)=true:=by simpa using h2
     go_wp2_with fail
     exact bodyPost_ret (by simp [results,Tryz.results175,go_sem];rfl) rfl ⟨by rw [q9 HE,if_pos ⟨h1,h2⟩],(q9 HC).kept,g,LN,cap,cs,q9 HC⟩
end
end Go.Proofs.YtfkcaldjphakpaaGreatDoor
