/- The document's answer -/
import Derived.Test.YtdmmmgodfceilaaGreatDoorM06
import Derived.Test.YtdmmmgodfceilaaGreatDoorM01
import Derived.Deep.AppendLies
set_option maxHeartbeats 64000000
set_option maxRecDepth 100000
namespace Go.Proofs.YtdmmmgodfceilaaGreatDoor
open Go.RowKit Go.Proofs.Tryz
open Go renaming Value->Ap,World->Ao
open Go.Ending renaming returned->Ak
open Go.IntKind renaming i64->J
open Go.Obj renaming cells->Al
open Go.Value renaming agg->Ai,bool->Ah,int->I,pointer->Ag,slice->C,string->Y,tuple->Aj
open Option renaming none->O,some->G
open Or renaming inl->Am,inr->An
variable{p:Addr}{c':Array Ap}{x:Ast}{N NB S S' X s:tq}{a a' at' c en er k k' kind n n' o pl z z':Int}{vs:List Ap}{L g j m m' op rb:Nat}{fr':Nat×Nat}{st st':St}{f:St->Res}{ty ty':TypeId}{iv lv nv v:Ap}{w w':Ao}
theorem TrC.below{op:Int}(h:TrC w rb nv s k a z S n op er at')(d:Xb w w'):TrC w' rb nv s k a z S n op er at':=by
 obtain⟨lt,c0,t,r,q,c4,l,i,c7,c8,c9,fz⟩:=h;obtain⟨b,e⟩:=qk d;exact⟨aq lt d.size,(b _ _ lt).trans c0,(b _ _ lt).trans t,(b _ _ lt).trans r,(b _ _ lt).trans q,(b _ _ lt).trans c4,(b _ _ lt).trans l,(b _ _ lt).trans i,(b _ _ lt).trans c7,(b _ _ lt).trans c8,(b _ _ lt).trans c9,λj=>(e _ _ lt).trans (fz j)⟩
theorem TrC.alloc{op:Int}(h:TrC w rb nv s k a z S n op er at')(o:Obj):TrC (w.alloc o) rb nv s k a z S n op er at':=h.below (uj.alloc ui o)
theorem Kept.far{a:Ao}(h:Kept rb a w)(hp:a.1.size<=p.block)(u:Ap):Kept rb a (w.setCell p u):=by
 refine⟨h.os,h.tape,h.output,by have:=h.size;simp;omega,λk d b=>?_⟩;rw[au w p u k ub];exact h.block k d b
theorem Kept.more{a:Ao}(h:Kept rb a w)(o:Obj):Kept rb a (w.alloc o):=h.trans (Kept.of_below (uj.alloc ui o))
theorem yu{p:Nat}{op:Int}(h:TrC w rb nv s k a p S n op 0 at')(W:s.size<=200)(hp:p<=s.size)
  (T:rTk (qQ s.data.toList p) (qS s.data.toList p) (vk s.data.toList p)=Ai #[I J k',I J a',I J z',Y S',I J n']) :
  ua 94 #[Ag (G ⟨rb,0,O⟩)] w λe w'=>e=Ak (Aj #[])/\TrC w' rb nv s k' a' z' S' n' op 0 at'/\Kept rb w w':=by
 have H:=qd h;obtain⟨lt,c0,c1,c2,c3,c4,c5,c6,c7,c8,c9,fz⟩:=h;have U:=qd (qzd s W p hp);rw[T]at U;clear T;go_enter func94,ntmps94
 go_wp2
 go_region_with(go_at_call 129;refine be (U _) λq l=>?_;first|(have d:Xb w q:=((Below.refl w.1.size w).drew).trans l;have P:=qd d;obtain⟨b,M,K,F,E,D,C,B,A,y,u,t⟩:=(q9 H).below d;clear l d)|(have d:Xb w q:=(((Below.refl w.1.size w).alloc ui _).drew).trans (l.mono (by show _<=(w.alloc _).1.size;simp));have P:=qd d;obtain⟨b,M,K,F,E,D,C,B,A,y,u,t⟩:=(q9 H).below d;obtain⟨R,Q⟩:=qk l;have B8:w.1.size<q.1.size:=(by have:=l.size;have e:(w.alloc (Al #[I J 0,I J 0,I J 0,Y ⟨#[]⟩,I J 0] 171)).drew.1.size=w.1.size+1:=(by show(w.alloc _).1.size=_;simp);omega);have e0:∀i,q.cell? ⟨w.1.size,i,O⟩=(#[I J 0,I J 0,I J 0,Y ⟨#[]⟩,I J 0]:Array Ap)[i]?:=(λi=>(R _ i (by show _<(w.alloc _).1.size;simp)).trans (by show(w.alloc _).cell? _=_;simp));have Z:Xf q w.1.size:=(λj=>(Q _ j (by show _<(w.alloc _).1.size;simp)).trans (by show(w.alloc _).frozen? _=_;simp));have r:¬rb=w.1.size:=ub;have TN:¬w.1.size=rb:=ub;clear R Q l d))
 all_goals(go_wp2)
 all_goals go_end0
 all_goals first
  | (
   have _q:=r;refine⟨rfl,⟨by simpa using b, ?_, ?_, ?_, ?_, ?_, ?_, ?_, ?_, ?_, ?_,λj=>?_⟩,((((((((((Kept.of_below P).far (p:=⟨w.1.size,0,O⟩) ui _).far (p:=⟨w.1.size,1,O⟩) ui _).far (p:=⟨w.1.size,2,O⟩) ui _).far (p:=⟨w.1.size,3,O⟩) ui _).far (p:=⟨w.1.size,4,O⟩) ui _).setCell 2 _).setCell 3 _).setCell 4 _).setCell 5 _).setCell 6 _⟩
   all_goals simp[go_sem,M,K,F,E,D,C,B,A,y,u,t])
  | (
   refine⟨rfl,TrC.alloc ⟨by simpa using b, ?_, ?_, ?_, ?_, ?_, ?_, ?_, ?_, ?_, ?_,λj=>?_⟩ _,((((((Kept.of_below P).setCell 2 _).setCell 3 _).setCell 4 _).setCell 5 _).setCell 6 _).more _⟩
   all_goals simp[go_sem,M,K,F,E,D,C,B,A,y,u,t])
def quy(s:ByteArray)(p:Nat)(k a z:Int)(S:ByteArray)(n:Int):Prop:=rTk (qQ s.data.toList p) (qS s.data.toList p) (vk s.data.toList p)=Ai #[I J k,I J a,I J z,Y S,I J n]
section
variable {w:Ao} {rb:Nat} {nv:Ap} {s:tq} {k a z:Int} {p:Nat} {S:tq} {n op er at':Int}
theorem qr7(h:TrC w rb nv s k a p S n op 0 at')(r:s.size<=200)(hp:p<=s.size)(q:quy s p k' a' z' S' n')(kind:Int)(X:tq)(i:k=kind)(l:(S.toList==X.toList)=true):
  ua 264 #[Ag (G ⟨rb,0,O⟩),I J kind,Y X] w λe w'=>e=Ak (Aj #[])/\TrC w' rb nv s k' a' z' S' n' op 0 at'/\Kept rb w w':=by
 have b:=gi h kind X;rw[l,i,om,mn]at b;have y:=qd b;have t:=qd (yu h r hp q);clear b h q l i;go_enter func264,ntmps264
 go_wp2_with(first|(go_at_call 131;refine be y ?_;rintro A rfl)|(go_at_call 94;refine be t λw2 d=>?_;have u:=qd d;clear d))
 refine bj (by simp[go_sem]) rfl ⟨rfl,q9 u⟩
theorem qhj(h:TrC w rb nv s k a z S n op 0 at')(kind:Int)(X:tq)(i:(k==kind&&(S.toList==X.toList))=false):
  ua 264 #[Ag (G ⟨rb,0,O⟩),I J kind,Y X] w λe w'=>e=Ak (Aj #[])/\TrC w' rb nv s 1 a 0 ⟨#[]⟩ 0 op 2 a/\Kept rb w w':=by
 have b:=gi h kind X;rw[i]at b;have r:=qd b;have q:=qd (kA h 2 a);obtain⟨lt,c0,C,B,A,c4,y,u,c7,c8,c9,fz⟩:=h;clear b i;go_enter func264,ntmps264
 go_wp2_with(first|(go_at_call 131;refine be r ?_;rintro t rfl)|(go_at_call 96;refine be q λw2 d=>?_;have l:=qd d;clear d))
 go_end0
 exact⟨rfl,q9 l⟩
theorem qk2(h:TrC w rb nv s 1 a z S n op er at')(l:er≠0)(kind:Int)(X:tq)(i:kind≠1):
  ua 264 #[Ag (G ⟨rb,0,O⟩),I J kind,Y X] w λe w'=>e=Ak (Aj #[])/\TrC w' rb nv s 1 a 0 ⟨#[]⟩ 0 op er at'/\Kept rb w w':=by
 have b:=gi h kind X;rw[show((1:Int)==kind)=false from bh.2 (λe=>i e.symm),oo]at b;have t:=qd b;have r:=qd (qdt h l 2 a);obtain⟨lt,c0,D,C,B,c4,A,y,c7,c8,c9,fz⟩:=h;clear b i l;go_enter func264,ntmps264
 go_wp2_with(first|(go_at_call 131;refine be t ?_;rintro u rfl)|(go_at_call 96;refine be r λw2 d=>?_;have q:=qd d;clear d))
 go_end0
 exact⟨rfl,q9 q⟩
end
structure RN where
 op:List UInt8
 at':Int
 ins:List Nat
 V:List UInt8
 h:List UInt8
 P:List (List UInt8)
 K:Int
 neg:Bool
 H:Int
def gm(n:RN)(iv lv:Ap):List Ap:=[Y (BS n.op),I J n.at',iv,Y (BS n.V),Y (BS n.h),lv,I J n.K,Ah n.neg,I J n.H]
def pP(l:List Nat):List Ap:=l.map λ(i:Nat)=>I J (Int.ofNat i)
def pO(w:Ao)(rb k:Nat):Prop:=k=rb\/∃nv,w.cell? ⟨rb,0,O⟩=G nv/\nv.ownBlock=G k
structure TKept(rb:Nat)(w w':Ao):Prop where
 os:w'.os=w.os
 tape:w'.tape=w.tape
 output:w'.output=w.output
 size:w.1.size<=w'.1.size
 block:∀k,k<w.1.size->¬pO w rb k->w'.1[k]?=w.1[k]?
 own:∀k,k<w.1.size->pO w' rb k->pO w rb k
theorem TKept.refl(rb:Nat)(w:Ao):TKept rb w w:=⟨rfl,rfl,rfl,ui,λ_ _ _=>rfl,λ_ _ h=>h⟩
theorem TKept.trans{a b c:Ao}(h:TKept rb a b)(k:TKept rb b c):TKept rb a c:=
 ⟨k.os.trans h.os,k.tape.trans h.tape,k.output.trans h.output,bs h.size k.size,
  λi d l=>(k.block i (aq d h.size) (λe=>l (h.own i d e))).trans (h.block i d l),
  λi d e=>h.own i d (k.own i (aq d h.size) e)⟩
theorem TKept.of_kept(h:Kept rb w w')(l:w'.cell? ⟨rb,0,O⟩=w.cell? ⟨rb,0,O⟩):TKept rb w w':=by
 refine⟨h.os,h.tape,h.output,h.size,λk d i=>h.block k d (λe=>i (Am e)),λk d b=>?_⟩;rcases b with b|⟨nv,r,q⟩;exact Am b;exact An ⟨nv,l ▸ r,q⟩
theorem TKept.of_below(h:Xb w w')(b:rb<w.1.size):TKept rb w w':=TKept.of_kept (Kept.of_below h) ((qk h).1 _ _ b)
theorem TKept.alloc{a:Ao}(h:TKept rb a w)(b:rb<a.1.size)(o:Obj):TKept rb a (w.alloc o):=h.trans (TKept.of_below (uj.alloc ui o) (aq b h.size))
theorem TKept.far{a:Ao}(h:TKept rb a w)(r:rb<a.1.size)(hp:a.1.size<=p.block)(u:Ap):TKept rb a (w.setCell p u):=by
 have i:(w.setCell p u).cell? ⟨rb,0,O⟩=w.cell? ⟨rb,0,O⟩:=aw (w:=w) (w':=w.setCell p u) (a:=⟨rb,0,O⟩) (au w p u rb ub);refine⟨h.os,h.tape,h.output,by have:=h.size;simp;omega,λk d e=>?_,λk d b=>?_⟩;rw[au w p u k ub];exact h.block k d e;refine h.own k d ?_;rcases b with b|⟨nv,q,l⟩;exact Am b;exact An ⟨nv,i ▸ q,l⟩
def RowOf(w:Ao)(rb:Nat)(ty:TypeId)(v:Ap)(vs:List Ap):Prop:=
 (vs=[]/\v=C O 0 0)\/∃g cap c fr,v=C (G ⟨g,0,O⟩) vs.length cap/\rb<g/\w.1[g]?=G (Al c ty fr)/\¬pO w rb g/\∀(j:Nat) (u:Ap),vs[j]?=G u->c[j]?=G u
theorem RowOf.T(h:RowOf w rb ty v vs)(d:TKept rb w w'):RowOf w' rb ty v vs:=by
 rcases h with h|⟨g,cap,c,fr,hv,q,e,b,l⟩;exact Am h;have i:=(cf.1 e).1;exact An ⟨g,cap,c,fr,hv,q,(d.block g i b).trans e,λh=>b (d.own g i h),l⟩
theorem RowOf.far(h:RowOf w rb ty v vs)(i:w.1[L]?=G (Al c' ty' fr'))(b:ty≠ty')(C:L≠rb)(j:Nat)(u:Ap):RowOf (w.setCell ⟨L,j,O⟩ u) rb ty v vs:=by
 rcases h with h|⟨g,cap,c,fr,hv,t,d,r,q⟩;exact Am h;have D:g≠L:=λe=>by subst e;rw[d]at i;injection i with e;injection e with _ B _;exact b B
 have l:(w.setCell ⟨L,j,O⟩ u).cell? ⟨rb,0,O⟩=w.cell? ⟨rb,0,O⟩:=aw (w:=w) (a:=⟨rb,0,O⟩) (au w ⟨L,j,O⟩ u rb (λe=>C e.symm));refine An ⟨g,cap,c,fr,hv,t,(au w ⟨L,j,O⟩ u g D).trans d,λh=>r ?_,q⟩;rcases h with h|⟨nv,A,y⟩;exact Am h;exact An ⟨nv,l ▸ A,y⟩
theorem vj{base e size n:Nat}{xs:List Ap}(h:w.ownsRow base e size v n xs)(d:∀g,v.ownBlock=G g->w'.1[g]?=w.1[g]?):w'.ownsRow base e size v n xs:=by
 refine⟨h.1, ?_⟩;rcases h.2 with b|⟨g,cap,cur,rfl,i,l,rest⟩;exact Am b;exact An ⟨g,cap,cur,rfl,i,(d g rfl).trans l,rest⟩
def NodesAt(w:Ao)(rb:Nat)(nv:Ap)(ns:List RN):Prop:=
 ∃rs:List (Ap×Ap),rs.length=ns.length/\w.ownsRow (rb+1) 178 9 nv ns.length ((ns.zip rs).flatMap λx=>gm x.1 x.2.1 x.2.2) /\
  ∀(j:Nat) (n:RN) (r:Ap×Ap),ns[j]?=G n->rs[j]?=G r->RowOf w rb 3 r.1 (pP n.ins)/\RowOf w rb 9 r.2 (qx n.P)
theorem NodesAt.same{ns:List RN}(h:NodesAt w rb nv ns)(d:TKept rb w w')(q:∀k,nv.ownBlock=G k->w'.1[k]?=w.1[k]?):NodesAt w' rb nv ns:=by
 obtain⟨l,u,t,b⟩:=h;exact⟨l,u,vj t q,λj n r i e=>⟨(b j n r i e).1.T d,(b j n r i e).2.T d⟩⟩
theorem NodesAt.T{ns:List RN}(h:NodesAt w rb nv ns)(e:w.cell? ⟨rb,0,O⟩=w'.cell? ⟨rb,0,O⟩)(b:Kept rb w w'):NodesAt w' rb nv ns:=by
 have i:=TKept.of_kept b e.symm;refine h.same i λk l=>?_
 obtain⟨q,t,d,r⟩:=h;have:=d.lt k l;exact b.block k this.2 ub
theorem NodesAt.below{ns:List RN}(h:NodesAt w rb nv ns)(i:rb<w.1.size)(b:Xb w w'):NodesAt w' rb nv ns:=by
 refine h.same (TKept.of_below b i) λk e=>?_
 obtain⟨l,r,d,q⟩:=h;exact b.block k (d.lt k e).2
theorem NodesAt.far{ns:List RN}(h:NodesAt w rb nv ns)(d:w.1[L]?=G (Al c' ty' fr'))(F:(3:TypeId)≠ty')(E:(9:TypeId)≠ty')(t:L≠rb)(y:nv.ownBlock≠G L)(j:Nat)(u:Ap):
  NodesAt (w.setCell ⟨L,j,O⟩ u) rb nv ns:=by
 obtain⟨A,C,B,b⟩:=h;refine⟨A,C,vj B λk D=>au w ⟨L,j,O⟩ u k (λe=>y (by have H:k=L:=e;rw[<-H];exact D)),λi n r q l=>⟨(b i n r q l).1.far d F t j u,(b i n r q l).2.far d E t j u⟩⟩
theorem NodesAt.nil(w:Ao)(rb:Nat):NodesAt w rb (C O 0 0) []:=⟨[],rfl,dy _ _ _ _,λj n r h=>by simp at h⟩
theorem vju:(prog.info? 178).map (λi=>(i.zero,i.size,i.bytes))=G (G (Ai #[Y ⟨#[]⟩,I J 0,C O 0 0,Y ⟨#[]⟩,Y ⟨#[]⟩,C O 0 0,I J 0,Ah false,I J 0]),9,128):=uh
def qe9(ats:Array TypeId)(ty:TypeId)(args:Array Ap):Sem Ap:=Builtin.append_ ats ty args
theorem vsj(ats:Array TypeId)(ty:TypeId)(args:Array Ap):Builtin.append_ ats ty args=qe9 ats ty args:=rfl
theorem RowOf.form(h:RowOf w rb ty v vs):∃a c,v=C a vs.length c:=by
 rcases h with⟨rfl,rfl⟩|⟨g,cap,c,fr,hv,_⟩;exact⟨_,_,rfl⟩;exact⟨_,_,hv⟩
theorem NodesAt.app{W:Ao}{ns:List RN}(h:NodesAt W rb nv ns)(c0:Xc W rb 0 nv)(A1:rb<W.1.size)(n:RN)(H:RowOf W rb 3 iv (pP n.ins))(M:RowOf W rb 9 lv (qx n.P))(F:ns.length<=100000):
  ∃g cap b,(qe9 #[169,169] 169 #[nv,C (G ⟨W.1.size,0,O⟩) 1 1]).run prog (W.alloc (Al #[Y (BS n.op),I J n.at',iv,Y (BS n.V),Y (BS n.h),lv,I J n.K,Ah n.neg,I J n.H] 178))=.ok (C (G ⟨g,0,O⟩) (ns.length+1) cap) b /\
   Hid (b.1[rb]?=W.1[rb]?)/\rb<b.1.size /\
   Hid (NodesAt (b.setCell ⟨rb,0,O⟩ (C (G ⟨g,0,O⟩) (ns.length+1) cap)) rb (C (G ⟨g,0,O⟩) (ns.length+1) cap) (ns++[n])) /\
   Hid (TKept rb W (b.setCell ⟨rb,0,O⟩ (C (G ⟨g,0,O⟩) (ns.length+1) cap))):=by
 obtain⟨i0,hi,F5,B8,D4⟩:=info_parts vju;obtain⟨T,B,E,D⟩:=h;obtain⟨ai,ci,iL⟩:=H.form;obtain⟨al,cl,R⟩:=M.form;obtain⟨g,cap,b,S6,B7,i,y,_⟩:=run_append_lies (P:=prog) (W.alloc (Al #[Y (BS n.op),I J n.at',iv,Y (BS n.V),Y (BS n.h),lv,I J n.K,Ah n.neg,I J n.H] 178)) 169 169 (rb+1) 178 i0 _ 9 128 underlying169 hi F5 B8 D4 rfl ub nv ns.length _ (World.ownsRow.alloc E _)
  ⟨W.1.size,0,O⟩ 1 1 (gm n iv lv) rfl (World.news_of_block (cs:=#[Y (BS n.op),I J n.at',iv,Y (BS n.V),Y (BS n.h),lv,I J n.K,Ah n.neg,I J n.H]) (t:=178) (fr:=(0,0)) (heap_alloc_new W _)) (by subst iL R;simp[gm,Value.oneCell']) ub (by unfold maxLen;omega) ub ud _ rfl
 have Z:=i.size;simp only[my]at Z;have D9:∀k,nv.ownBlock=G k->rb+1<=k/\k<W.1.size:=λk d=>E.lt k d
 have K:b.1[rb]?=W.1[rb]?:=(i.block rb ud (λe=>uu ((D9 rb e.symm).1))).trans (ig W _ rb A1);have O4:∀k,k≠rb->(b.setCell ⟨rb,0,O⟩ (C (G ⟨g,0,O⟩) (ns.length+1) cap)).1[k]?=b.1[k]?:=λk d=>au b ⟨rb,0,O⟩ _ k d
 have hb:∀k,k<W.1.size->nv.ownBlock≠G k->b.1[k]?=W.1[k]?:=λk d F=>(i.block k ud (λe=>F e.symm)).trans (ig W _ k d)
 have c5:Xc (b.setCell ⟨rb,0,O⟩ (C (G ⟨g,0,O⟩) (ns.length+1) cap)) rb 0 (C (G ⟨g,0,O⟩) (ns.length+1) cap):=by
  have:Xc b rb 0 nv:=(aw (w:=W) (w':=b) (a:=⟨rb,0,O⟩) K).trans c0;simp[go_sem,this]
 have G9:∀k,k<W.1.size->pO (b.setCell ⟨rb,0,O⟩ (C (G ⟨g,0,O⟩) (ns.length+1) cap)) rb k->pO W rb k:=by
  intro k d A8;rcases A8 with e|⟨U,A,e2⟩;exact Am e;rw[c5]at A;injection A with A;subst A;have KM:g=k:=by simpa [Value.ownBlock]using e2
  subst KM;rcases y with y|y;exact An ⟨nv,c0,y⟩;simp at y;omega
 have q:TKept rb W (b.setCell ⟨rb,0,O⟩ (C (G ⟨g,0,O⟩) (ns.length+1) cap)):=by
  refine⟨i.os,i.tape,i.output,ud,λk d Q=>?_,G9⟩;rw[O4 k (λe=>Q (Am e))];exact hb k d (λe=>Q (An ⟨nv,c0,e⟩))
 refine⟨g,cap,b,S6,qd K,ub,qd ⟨T++[(iv,lv)],by simp[B], ?_,λj x r l u=>?_⟩,qd q⟩
 .rw[List.zip_append B.symm,mt,ce]
  exact ownsRow_setCell_below (by simpa using B7) (by show rb<rb+1;omega) _
 by_cases hj:j<ns.length
 rw[cg hj]at l;rw[cg ub]at u;exact⟨(D j x r l u).1.T q,(D j x r l u).2.T q⟩
 have OQ:j=ns.length:=by
  have:=(aj.1 l).1;simp at this;omega
 subst OQ;obtain rfl:n=x:=by simpa using l
 rw[<-B]at u;obtain rfl:(iv,lv)=r:=by simpa using u
 exact⟨H.T q,M.T q⟩
section
attribute [local go_sem ↓] vsj
theorem TrC.put{op:Int}(h:TrC w rb nv s k a z S n op er at')(b:w'.1[rb]?=w.1[rb]?)(u:rb<w'.1.size)(v:Ap):TrC (w'.setCell ⟨rb,0,O⟩ v) rb v s k a z S n op er at':=by
 obtain⟨lt,c0,q,l,i,c4,e,d,c7,c8,c9,fz⟩:=h;have t:∀j,w'.cell? ⟨rb,j,O⟩=w.cell? ⟨rb,j,O⟩:=λj=>aw (w:=w) (w':=w') (a:=⟨rb,j,O⟩) b
 have r:∀j,w'.frozen? ⟨rb,j,O⟩=w.frozen? ⟨rb,j,O⟩:=λj=>cn (w:=w) (w':=w') (a:=⟨rb,j,O⟩) b
 rw[<-t]at c0 q l i c4 e d c7 c8 c9;refine⟨by simpa using u, ?_, ?_, ?_, ?_, ?_, ?_, ?_, ?_, ?_, ?_,λj=>?_⟩
 all_goals simp[go_sem,c0,q,l,i,c4,e,d,c7,c8,c9,r,fz]
def vif(rb:Nat)(s:ByteArray)(k a z:Int)(S:ByteArray)(n op er at':Int)(w:Ao)(ns:List RN)(x:RN)(e:Ending)(w':Ao):Prop:=
 e=Ak (I J ns.length)/\TKept rb w w'/\∃nv',TrC w' rb nv' s k a z S n op er at'/\NodesAt w' rb nv' (ns++[x])
theorem qa5{op:Int}(h:TrC w rb nv s k a z S n op er at'){ns:List RN}(B:NodesAt w rb nv ns)(x:RN)(D:RowOf w rb 3 iv (pP x.ins))(E:RowOf w rb 9 lv (qx x.P))(P:ns.length<=100000):
  ua 132 #[Ag (G ⟨rb,0,O⟩),Ai #[Y (BS x.op),I J x.at',iv,Y (BS x.V),Y (BS x.h),lv,I J x.K,Ah x.neg,I J x.H]] w (vif rb s k a z S n op er at' w ns x):=by
 have r:Xb w (w.alloc (Al #[Y (BS x.op),I J x.at',iv,Y (BS x.V),Y (BS x.h),lv,I J x.K,Ah x.neg,I J x.H] 178)):=uj.alloc ui _;have q:=TKept.of_below r.drew h.lt;have d:=h.below r.drew;obtain⟨g,cap,b,F,A,K,W,Z⟩:=(B.below h.lt r.drew).app d.c0 d.lt x (D.T q) (E.T q) P;have U:=qd (d.put A K (C (G ⟨g,0,O⟩) (ns.length+1) cap));have H:=qd q;obtain⟨⟨y,t,rfl⟩,⟨u,cl,rfl⟩⟩:=And.intro D.form E.form
 have T:∃l c0,nv=C l ns.length c0:=by
  obtain⟨rs,_,M,_⟩:=B;rcases M.2 with⟨h0,Q⟩|⟨g,cap,cur,rfl,_⟩;exact⟨O,0,by simp_all⟩;exact⟨_,_,rfl⟩
 obtain⟨l,i,rfl⟩:=T;obtain⟨lt,c0,c1,c2,c3,c4,c5,c6,c7,c8,c9,fz⟩:=h;have T5:Xc b rb 0 (C l ns.length i):=(aw (w':=b) (a:=⟨rb,0,O⟩) A).trans d.c0;have R:b.frozen? ⟨rb,0,O⟩=false:=(cn (w':=b) (a:=⟨rb,0,O⟩) A).trans (d.fz 0)
 have cE:(qe9 #[169,169] 169 #[C l ns.length i,C (G ⟨w.1.size+1,0,O⟩) 1 1]).run prog ((w.alloc (Al #[Y (BS x.op),I J x.at',C y (pP x.ins).length t,Y (BS x.V),Y (BS x.h),C u (qx x.P).length cl,I J x.K,Ah x.neg,I J x.H] 178)).alloc (Al #[Y (BS x.op),I J x.at',C y (pP x.ins).length t,Y (BS x.V),Y (BS x.h),C u (qx x.P).length cl,I J x.K,Ah x.neg,I J x.H] 178)).drew=.ok (C (G ⟨g,0,O⟩) (ns.length+1) cap) b:=by
  have e:(w.alloc (Al #[Y (BS x.op),I J x.at',C y (pP x.ins).length t,Y (BS x.V),Y (BS x.h),C u (qx x.P).length cl,I J x.K,Ah x.neg,I J x.H] 178)).drew.1.size=w.1.size+1:=by show(w.alloc _).1.size=_;simp
  rw[e]at F;exact F
 go_enter func132,ntmps132
 go_wp2
 go_region
 all_goals go_wp2
 all_goals go_ret
 all_goals exact⟨jd uc,H.trans Z,_,q9 U,q9 W⟩
end
def tkZ(st:St):Int:=if st.tk.A=1 then 0 else st.B
def tkS(st:St):List UInt8:=if st.tk.A=1 then[] else rS st.tk
def tkN(st:St):Int:=if st.tk.A=1 then 0 else st.tk.K
def RT(w:Ao)(rb:Nat)(s:ByteArray)(ns:List RN)(j:Nat)(st:St):Prop:=
 ∃nv,TrC w rb nv s (rK st.tk.A) st.M (tkZ st) (BS (tkS st)) (tkN st) st.op 0 0/\NodesAt w rb nv ns/\Fine s st/\ns.length+j<=st.M
def RE(w:Ao)(rb:Nat)(s:ByteArray)(en pl:Int)(op:Nat)(m:Nat):Prop:=
 ∃nv a ns,TrC w rb nv s 1 a 0 ⟨#[]⟩ 0 op en pl/\en≠0/\NodesAt w rb nv ns/\ns.length<=m
theorem RT.lt{ns:List RN}(h:RT w rb s ns j st):rb<w.1.size:=by obtain⟨nv,h,_⟩:=h;exact h.lt
theorem RE.lt(h:RE w rb s en pl op m):rb<w.1.size:=by obtain⟨nv,a,ns,h,_⟩:=h;exact h.lt
theorem RT.U{ns:List RN}(h:RT w rb s ns j st):Fine s st:=by obtain⟨nv,_,_,h,_⟩:=h;exact h
theorem RT.few{ns:List RN}(h:RT w rb s ns j st):ns.length+j<=st.M:=by obtain⟨nv,_,_,_,h⟩:=h;exact h
theorem RT.less{ns:List RN}{j':Nat}(h:RT w rb s ns j st)(i:j'<=j):RT w rb s ns j' st:=by obtain⟨nv,e,d,b,l⟩:=h;exact⟨nv,e,d,b,ub⟩
theorem RE.more(h:RE w rb s en pl op m)(i:m<=m'):RE w rb s en pl op m':=by obtain⟨nv,a,ns,e,d,b,l⟩:=h;exact⟨nv,a,ns,e,d,b,ub⟩
theorem RT.below{ns:List RN}(h:RT w rb s ns j st)(b:Xb w w'):RT w' rb s ns j st:=by
 obtain⟨nv,d,l,i,e⟩:=h;exact⟨nv,d.below b,l.below d.lt b,i,e⟩
theorem RE.below(h:RE w rb s en pl op m)(b:Xb w w'):RE w' rb s en pl op m:=by
 obtain⟨nv,a,ns,d,l,i,e⟩:=h;exact⟨nv,a,ns,d.below b,l,i.below d.lt b,e⟩
theorem NodesAt.fresh{ns:List RN}(h:NodesAt w rb nv ns)(c0:Xc w rb 0 nv)(r:rb<w.1.size)(o:Obj):¬pO (w.alloc o) rb w.1.size:=by
 obtain⟨t,y,i,u⟩:=h;rintro (e|⟨d,b,q⟩);omega;have l:(w.alloc o).cell? ⟨rb,0,O⟩=w.cell? ⟨rb,0,O⟩:=(qk ((Below.refl w.1.size w).alloc ui o)).1 _ _ r;rw[l,c0]at b;injection b with b;subst b;have:=(i.lt _ q).2;omega
theorem RT.fresh{ns:List RN}(h:RT w rb s ns j st)(o:Obj):¬pO (w.alloc o) rb w.1.size:=by obtain⟨nv,b,d,_⟩:=h;exact d.fresh b.c0 b.lt o
theorem RE.fresh(h:RE w rb s en pl op m)(o:Obj):¬pO (w.alloc o) rb w.1.size:=by obtain⟨nv,a,ns,b,_,d,_⟩:=h;exact d.fresh b.c0 b.lt o
theorem vhh(h:kwT k≠[]):5<=k/\k<=28:=by
 by_cases h1:5<=k/\k<=28
 exact h1;exfalso;apply h;unfold kwT
 iterate 24 rw[ak ub]
theorem ve1:∀i:Fin 24,∀j:Fin 24,kwT (5+(i.val:Int))=kwT (5+(j.val:Int))->i=j:=by decide +kernel
theorem vk7(b:kwT c≠[])(h:kwT k=kwT c):k=c:=by
 obtain⟨l,i⟩:=vhh b;obtain⟨k1,d⟩:=vhh (h ▸ b)
 have:=ve1 ⟨(k - 5).toNat,ub⟩ ⟨(c - 5).toNat,ub⟩ (by
  show kwT (5+(((k - 5).toNat:Nat):Int))=kwT (5+(((c - 5).toNat:Nat):Int))
  rw[show(5:Int)+(((k - 5).toNat:Nat):Int)=k by omega,show(5:Int)+(((c - 5).toNat:Nat):Int)=c by omega];exact h)
 have e:(k - 5).toNat=(c - 5).toNat:=congrArg Fin.val this;omega
theorem isK(q:kwT c=X.data.toList)(u:5<=c)(A:c<=28)(kind:Int)(d:rK c=kind):(rK st.tk.A==kind&&((BS (tkS st)).toList==X.toList))=(st.tk.A==c):=by
 have b:kwT c≠[]:=by
  have:∀i:Fin 24,kwT (5+(i.val:Int))≠[]:=by decide +kernel
  have:=this ⟨(c - 5).toNat,ub⟩;rwa [show(5:Int)+(((c - 5).toNat:Nat):Int)=c by omega]at this
 have l:((BS (tkS st)).toList==X.toList)=(tkS st==kwT c):=by
  rw[q,qP,gs]
 rw[l]
 by_cases h:st.tk.A=c
 have t:tkS st=kwT c:=by
  unfold tkS rS;rw[ak ub,ak ub,h]
 rw[t,h,d];simp;have r:(st.tk.A==c)=false:=bh.2 h;rw[r];rw[oy]
 by_cases A8:rK st.tk.A=kind
 .right
  rw[bh];intro e;apply h;refine vk7 b ?_
  have y:5<=st.tk.A:=by
   rw[<-d]at A8;unfold rK at A8
   split at A8<;>split at A8<;>(try split at A8)<;>omega
  rw[<-e];unfold tkS rS;rw[ak ub,ak ub]
 left;rw[bh];exact A8
section
variable {w:Ao} {rb:Nat} {s:tq} {ns:List RN} {j:Nat} {st:St} {en pl:Int} {op m:Nat}
theorem qr5(h:RT w rb s ns j st)(c:Int)(d:kwT c=X.data.toList)(i:5<=c)(l:c<=28)(b:rK c=kind):
  ua 131 #[Ag (G ⟨rb,0,O⟩),I J kind,Y X] w λe w'=>e=Ak (Ah (st.tk.A==c))/\w'=w:=by
 obtain⟨nv,h,_⟩:=h;have:=gi h kind X;rwa [isK d i l kind b]at this
theorem vhu(h:RE w rb s en pl op m)(b:kind≠1):
  ua 131 #[Ag (G ⟨rb,0,O⟩),I J kind,Y X] w λe w'=>e=Ak (Ah false)/\w'=w:=by
 obtain⟨nv,a,ns,h,_⟩:=h;have:=gi h kind X;rwa [show((1:Int)==kind)=false from bh.2 (λe=>b e.symm),oo]at this
theorem yK(s:tq)(st:St):quy s st.B (rK (qh s st).tk.A) (qh s st).M (tkZ (qh s st)) (BS (tkS (qh s st))) (tkN (qh s st)):=by
 show rTk (qQ s.data.toList st.B) (qS s.data.toList st.B) (vk s.data.toList st.B)=_;unfold rTk tkZ tkS tkN;show(if(qQ s.data.toList st.B).A=1 then _ else _)=_;show _=Ai #[I J (rK (qQ s.data.toList st.B).A),I J (qS s.data.toList st.B:Nat),I J (if(qQ s.data.toList st.B).A=1 then 0 else((vk s.data.toList st.B:Nat):Int)),Y (BS (if(qQ s.data.toList st.B).A=1 then[] else rS (qQ s.data.toList st.B))),I J (if(qQ s.data.toList st.B).A=1 then 0 else(qQ s.data.toList st.B).K)]
 split
 rename_i h;rw[h];rfl;rfl
theorem Fine.W(h:Fine s st)(b:st.tk.A≠0):st.M<(qh s st).M:=aq (h.long b) (zp s st)
theorem jG(h:RT w rb s ns j st)(q:s.size<=200)(u:st.tk.A≠0)(t:st.tk.A≠1):
  ua 94 #[Ag (G ⟨rb,0,O⟩)] w λe w'=>e=Ak (Aj #[])/\TKept rb w w'/\RT w' rb s ns (j+1) (qh s st):=by
 obtain⟨nv,b,r,d,y⟩:=h;have hp:=d.W u;rw[show tkZ st=(st.B:Int) by unfold tkZ;rw[ak t]]at b;refine be (yu b q d.B (yK s st)) ?_;rintro w'⟨i,l⟩;exact⟨rfl,TKept.of_kept l (i.c0.trans b.c0.symm),nv,i,r.T (b.c0.trans i.c0.symm) l,qG s st d.B,ub⟩
theorem gT(h:RT w rb s ns j st)(t:s.size<=200)(en pl:Int)(l:en≠0):
  ua 96 #[Ag (G ⟨rb,0,O⟩),I J en,I J pl] w λe w'=>e=Ak (Aj #[])/\TKept rb w w'/\RE w' rb s en pl st.op 200:=by
 obtain⟨nv,b,q,r,u⟩:=h;have:=r.M;refine be (kA b en pl) ?_;rintro w'⟨d,i⟩;exact⟨rfl,TKept.of_kept i (d.c0.trans b.c0.symm),nv,_,ns,d,l,q.T (b.c0.trans d.c0.symm) i,ub⟩
theorem qhl(h:RT w rb s ns j st)(u:s.size<=200)(c:Int)(A:kwT c=X.data.toList)(C:5<=c)(D:c<=28)(l:rK c=kind)(r:st.tk.A=c):
  ua 264 #[Ag (G ⟨rb,0,O⟩),I J kind,Y X] w λe w'=>e=Ak (Aj #[])/\TKept rb w w'/\RT w' rb s ns (j+1) (qh s st):=by
 have q:=isK (st:=st) A C D kind l;rw[r]at q;obtain⟨nv,b,B,d,E⟩:=h;have hp:=d.W ub;rw[show tkZ st=(st.B:Int) by unfold tkZ;rw[ak ub]]at b;have y:(rK c==kind)=true/\((BS (tkS st)).toList==X.toList)=true:=by simpa using q
 refine be (qr7 b u d.B (yK s st) kind X (by rw[r];exact l) y.2) ?_;rintro w'⟨i,t⟩;exact⟨rfl,TKept.of_kept t (i.c0.trans b.c0.symm),nv,i,B.T (b.c0.trans i.c0.symm) t,qG s st d.B,ub⟩
theorem pF(h:RT w rb s ns j st)(C:s.size<=200)(c:Int)(t:kwT c=X.data.toList)(A:5<=c)(B:c<=28)(q:rK c=kind)(r:¬st.tk.A=c):
  ua 264 #[Ag (G ⟨rb,0,O⟩),I J kind,Y X] w λe w'=>e=Ak (Aj #[])/\TKept rb w w'/\RE w' rb s 2 st.M st.op 200:=by
 have i:=isK (st:=st) t A B kind q;rw[show(st.tk.A==c)=false from bh.2 r]at i;obtain⟨nv,b,u,y,D⟩:=h;have:=y.M;refine be (qhj b kind X i) ?_;rintro w'⟨d,l⟩;exact⟨rfl,TKept.of_kept l (d.c0.trans b.c0.symm),nv,_,ns,d,ue,u.T (b.c0.trans d.c0.symm) l,ub⟩
theorem qhk(h:RE w rb s en pl op m)(r:kind≠1):
  ua 264 #[Ag (G ⟨rb,0,O⟩),I J kind,Y X] w λe w'=>e=Ak (Aj #[])/\TKept rb w w'/\RE w' rb s en pl op m:=by
 obtain⟨nv,a,ns,b,i,t,q⟩:=h;refine be (qk2 b i kind X r) ?_;rintro w'⟨d,l⟩;exact⟨rfl,TKept.of_kept l (d.c0.trans b.c0.symm),nv,_,ns,d,i,t.T (b.c0.trans d.c0.symm) l,q⟩
def rnV(x:RN)(iv lv:Ap):Ap:=Ai #[Y (BS x.op),I J x.at',iv,Y (BS x.V),Y (BS x.h),lv,I J x.K,Ah x.neg,I J x.H]
theorem qhc(h:RT w rb s ns (j+1) st)(A:s.size<=200)(x:RN)(t:RowOf w rb 3 iv (pP x.ins))(u:RowOf w rb 9 lv (qx x.P)):
  ua 132 #[Ag (G ⟨rb,0,O⟩),rnV x iv lv] w λe w'=>e=Ak (I J ns.length)/\TKept rb w w'/\RT w' rb s (ns++[x]) j st:=by
 obtain⟨nv,l,q,d,B⟩:=h;have:=d.M;refine be (qa5 l q x t u ub) ?_;rintro w'⟨r,b,y,i⟩;exact⟨rfl,r,b,y,i,d,ud⟩
theorem qhb(h:RE w rb s en pl op m)(B:m<=1000)(x:RN)(u:RowOf w rb 3 iv (pP x.ins))(y:RowOf w rb 9 lv (qx x.P)):
  ua 132 #[Ag (G ⟨rb,0,O⟩),rnV x iv lv] w λe w'=>∃i:Nat,e=Ak (I J i)/\TKept rb w w'/\RE w' rb s en pl op (m+1):=by
 obtain⟨nv,a,ns,q,l,r,C⟩:=h;refine be (qa5 q r x u y ub) ?_;rintro w'⟨t,b,A,d⟩;exact⟨ns.length,rfl,t,b,_,_,A,l,d,ud⟩
end
def qH(o:Int):List UInt8:=
 if o=0 then[110,97,109,101] else if o=1 then[110,117,109,98,101,114] else if o=2 then[116,101,120,116] else if o=3 then[84,82,85,69] else if o=4 then[70,65,76,83,69]
 else if o=5 then[78,79,84] else if o=6 then[65,78,68] else if o=7 then[79,82] else if o=8 then[61] else if o=9 then[60,62] else if o=10 then[60] else if o=11 then[60,61] else if o=12 then[62] else if o=13 then[62,61]
 else if o=14 then[112] else if o=15 then[110] else if o=16 then[43] else if o=17 then[45] else if o=18 then[42] else if o=19 then[47] else if o=20 then[66,69,84,87,69,69,78] else if o=21 then[73,78] else if o=22 then[76,73,75,69] else[78,85,76,76]
def jC(p:Pay)(ins:List Nat)(neg:Bool):RN:=⟨qH p.op,p.M,ins,p.V,p.h,p.P,p.K,neg,0⟩
inductive Flat:Ast->Nat->List RN->Prop
 | leaf (p:Pay) (off:Nat):Flat (.leaf p) off [jC p [] false]
 | un (p:Pay) {x:Ast} {off:Nat} {l:List RN}:Flat x off l->Flat (.un p x) off (l++[jC p [off+l.length - 1] false])
 | bin (p:Pay) {x y:Ast} {off:Nat} {l k:List RN}:Flat x off l->Flat y (off+l.length) k->Flat (.bin p x y) off (l++k++[jC p [off+l.length - 1,off+l.length+k.length - 1] false])
 | tri (p:Pay) {x y z:Ast} {off:Nat} {l k m:List RN}:Flat x off l->Flat y (off+l.length) k->Flat z (off+l.length+k.length) m ->
   Flat (.tri p x y z) off (l++k++m++[jC p [off+l.length - 1,off+l.length+k.length - 1,off+l.length+k.length+m.length - 1] false])
 | neg1 (pl:Int) (q:Pay) {x:Ast} {off:Nat} {l:List RN}:(q.op=21\/q.op=22\/q.op=23)->Flat x off l->Flat (.un ⟨5,pl,0,[],[],[]⟩ (.un q x)) off (l++[jC q [off+l.length - 1] true])
 | neg3 (pl:Int) (q:Pay) {x y z:Ast} {off:Nat} {l k m:List RN}:q.op=20->Flat x off l->Flat y (off+l.length) k->Flat z (off+l.length+k.length) m ->
   Flat (.un ⟨5,pl,0,[],[],[]⟩ (.tri q x y z)) off (l++k++m++[jC q [off+l.length - 1,off+l.length+k.length - 1,off+l.length+k.length+m.length - 1] true])
theorem Flat.pos{t:Ast}{off:Nat}{l:List RN}(h:Flat t off l):0<l.length:=by cases h<;>simp<;>omega
def REnds(rb:Nat)(s:ByteArray)(w:Ao)(op m:Nat)(ns:List RN)(j lo:Nat)(r:Res)(e:Ending)(w':Ao):Prop:=
 TKept rb w w'/\match r with
 | .ok t st=>∃new,e=Ak (I J ((ns.length+new.length - 1:Nat):Int))/\RT w' rb s (ns++new) j st/\st.op=op/\lo<=st.M/\Flat t ns.length new
 | .err en pl=>∃i:Nat,e=Ak (I J i)/\RE w' rb s en pl op m
def RReads(K:Nat)(rb:Nat)(s:ByteArray)(op m:Nat)(f:St->Res):Prop:=
 ∀(w:Ao) (st:St) (ns:List RN) (j:Nat),RT w rb s ns j st->st.op=op->Calls prog K #[Ag (G ⟨rb,0,O⟩)] w (REnds rb s w op m ns j st.M (f st))
def xC(K:Nat)(rb:Nat)(s:ByteArray):Prop:=
 ∀(w:Ao) (en pl:Int) (op m:Nat),RE w rb s en pl op m->Calls prog K #[Ag (G ⟨rb,0,O⟩)] w λe w'=>∃i:Nat,e=Ak (I J i)/\TKept rb w w'/\RE w' rb s en pl op m
theorem REnds.more{ns:List RN}{q b:Nat}{r:Res}{e:Ending}(h:REnds rb s w op m ns j q r e w')(u:m<=m')(C:b<=q):REnds rb s w op m' ns j b r e w':=by
 obtain⟨y,h⟩:=h;refine⟨y, ?_⟩
 cases r with
 | ok t st=>obtain⟨new,l,d,B,D,A⟩:=h;exact⟨new,l,d,B,ub,A⟩
 | err en pl=>obtain⟨i,l,d⟩:=h;exact⟨i,l,d.more u⟩
theorem TrC.b{op:Int}(h:TrC w rb nv s k a z S n op er at')(o:Int):TrC (w.setCell ⟨rb,7,O⟩ (I J o)) rb nv s k a z S n o er at':=by
 obtain⟨lt,c0,l,i,e,c4,d,b,c7,c8,c9,fz⟩:=h;refine⟨by simpa using lt, ?_, ?_, ?_, ?_, ?_, ?_, ?_, ?_, ?_, ?_,λj=>?_⟩
 all_goals simp[go_sem,c0,l,i,e,c4,d,b,c7,c8,c9,fz]
theorem RT.b{ns:List RN}(h:RT w rb s ns j st)(n:Nat)(o:Int)(l:o=n):RT (w.setCell ⟨rb,7,O⟩ (I J o)) rb s ns j { st with op:=n }/\TKept rb w (w.setCell ⟨rb,7,O⟩ (I J o)):=by
 subst l;obtain⟨nv,b,r,d,q⟩:=h;have i:=(Kept.refl rb w).setCell 7 (I J n);have e:=b.b n;exact⟨⟨nv,e,r.T (b.c0.trans e.c0.symm) i,⟨d.M,d.B,d.long⟩,q⟩,TKept.of_kept i (e.c0.trans b.c0.symm)⟩
theorem RE.b(h:RE w rb s en pl op m)(n:Nat)(o:Int)(i:o=n):RE (w.setCell ⟨rb,7,O⟩ (I J o)) rb s en pl n m/\TKept rb w (w.setCell ⟨rb,7,O⟩ (I J o)):=by
 subst i;obtain⟨nv,a,ns,b,q,r,l⟩:=h;have e:=(Kept.refl rb w).setCell 7 (I J n);have d:=b.b n;exact⟨⟨nv,a,ns,d,q,r.T (b.c0.trans d.c0.symm) e,l⟩,TKept.of_kept e (d.c0.trans b.c0.symm)⟩
theorem RT.c7{ns:List RN}(h:RT w rb s ns j st):Xc w rb 7 (I J st.op)/\Xf w rb:=by obtain⟨nv,h,_⟩:=h;exact⟨h.c7,h.fz⟩
theorem RE.c7(h:RE w rb s en pl op m):Xc w rb 7 (I J op)/\Xf w rb:=by obtain⟨nv,a,ns,h,_⟩:=h;exact⟨h.c7,h.fz⟩
theorem RT.c8{ns:List RN}(h:RT w rb s ns j st):Xc w rb 8 (I J 0):=by obtain⟨nv,h,_⟩:=h;exact h.c8
theorem RE.c8(h:RE w rb s en pl op m):Xc w rb 8 (I J en)/\(en==0)=false:=by obtain⟨nv,a,ns,h,b,_⟩:=h;exact⟨h.c8,bh.2 b⟩
theorem RT.ct{ns:List RN}(h:RT w rb s ns j st):Xc w rb 2 (I J (rK st.tk.A))/\Xc w rb 3 (I J st.M)/\Xc w rb 4 (I J (tkZ st))/\Xc w rb 5 (Y (BS (tkS st)))/\Xc w rb 6 (I J (tkN st)):=by obtain⟨nv,h,_⟩:=h;exact⟨h.c2,h.c3,h.c4,h.c5,h.c6⟩
section
variable {w:Ao} {rb:Nat} {s:tq} {ns:List RN} {j:Nat} {st:St} {en pl:Int} {op m:Nat}
theorem qdr(h:RT w rb s ns j st)(q:s.size<=200)(t:st.tk.A≠0)(r:st.tk.A≠1)(D:st.op<12):
  ua 218 #[Ag (G ⟨rb,0,O⟩)] w λe w'=>e=Ak (Aj #[])/\TKept rb w w'/\RT w' rb s ns (j+1) (kZ s st):=by
 obtain⟨c7,fz⟩:=h.c7;have E:=h.lt;obtain⟨b,d⟩:=h.b (st.op+1) ((st.op:Int)+1) ub;have y:=qd d;have u:=qd (jG b q t r);clear h b d;go_enter func218,ntmps218
 go_wp2_with(go_at_call 94;refine be u ?_;rintro C⟨l,i⟩;have A:=qd l;have B:=qd i;clear l i)
 go_end0
 exact⟨rfl,y.trans A,q9 B⟩
theorem qdq(h:RT w rb s ns j st)(q:s.size<=200)(u:st.op=12):
  ua 218 #[Ag (G ⟨rb,0,O⟩)] w λe w'=>e=Ak (Aj #[])/\TKept rb w w'/\RE w' rb s 3 st.M 13 200:=by
 obtain⟨c7,fz⟩:=h.c7;obtain⟨_,C,_⟩:=h.ct;have D:=h.lt;rw[u]at c7;obtain⟨b,d⟩:=h.b 13 13 ub;have r:=qd d;have A:=qd (gT b q 3 st.M ue);clear h b d;go_enter func218,ntmps218
 go_wp2_with(go_at_call 96;refine be A ?_;rintro B⟨l,i⟩;have t:=qd l;have y:=qd i;clear l i)
 refine bj (by simp[go_sem]) rfl ⟨rfl,r.trans t,q9 y⟩
end
theorem RE.cells(h:RE w rb s en pl op m):∃a,Xc w rb 2 (I J 1)/\Xc w rb 3 (I J a)/\Xc w rb 4 (I J 0)/\Xc w rb 5 (Y ⟨#[]⟩)/\Xc w rb 6 (I J 0):=by obtain⟨nv,a,ns,h,_⟩:=h;exact⟨a,h.c2,h.c3,h.c4,h.c5,h.c6⟩
theorem qe2(rb:Nat)(s:tq):xC 295 rb s:=by
 intro w en pl op m h;obtain⟨a,t,r,c4,q,l⟩:=h.cells;obtain⟨c8,i⟩:=h.c8;have d:=h.lt;have n0:¬w.1.size=rb:=ub;have e:¬rb=w.1.size:=ub;have H:=qd h;clear h;go_enter func295,ntmps295
 go_wp2
 go_ret;have b:∀o,Xb w (w.alloc o):=λo=>uj.alloc ui o
 exact⟨0,rfl,TKept.of_below (b _) d,H.below (b _)⟩
theorem qjm(rb:Nat)(s:tq)(d:xC 295 rb s):xC 263 rb s:=by
 intro w en pl op m h;have t:=qd (d w en pl op m h);clear h d;go_enter func263,ntmps263
 go_wp2_with(go_at_call 295;refine t.mono ?_;rintro e q⟨i,rfl,l,b⟩;obtain⟨c8,y⟩:=b.c8;have r:=qd l;have u:=qd b;clear l b)
 go_loopw [3] (λv wr=>v=I J (i:Int)/\wr=q) (λ_ _=>0)
 exact⟨rfl,rfl⟩;obtain⟨rfl,rfl⟩:=hrel
 go_wp2
 go_ret;exact⟨i,rfl,q9 r,q9 u⟩
theorem vgr(rb:Nat)(s:tq)(d:xC 263 rb s):xC 238 rb s:=by
 intro w en pl op m h;have t:=qd (d w en pl op m h);clear h d;go_enter func238,ntmps238
 go_wp2_with(go_at_call 263;refine t.mono ?_;rintro e q⟨i,rfl,l,b⟩;obtain⟨c8,y⟩:=b.c8;have r:=qd l;have u:=qd b;clear l b)
 go_loopw [3] (λv wr=>v=I J (i:Int)/\wr=q) (λ_ _=>0)
 exact⟨rfl,rfl⟩;obtain⟨rfl,rfl⟩:=hrel
 go_wp2
 go_ret;exact⟨i,rfl,q9 r,q9 u⟩
theorem qvo(rb:Nat)(s:tq)(d:xC 190 rb s):xC 130 rb s:=by
 intro w en pl op m h;have t:=qd (d w en pl op m h);clear h d;go_enter func130,ntmps130
 go_wp2_with(go_at_call 190;refine t.mono ?_;rintro e q⟨i,rfl,l,b⟩;obtain⟨c8,y⟩:=b.c8;have r:=qd l;have u:=qd b;clear l b)
 go_loopw [3] (λv wr=>v=I J (i:Int)/\wr=q) (λ_ _=>0)
 exact⟨rfl,rfl⟩;obtain⟨rfl,rfl⟩:=hrel
 go_wp2
 go_ret;exact⟨i,rfl,q9 r,q9 u⟩
theorem qmx(rb:Nat)(s:tq)(d:xC 130 rb s):xC 95 rb s:=by
 intro w en pl op m h;have t:=qd (d w en pl op m h);clear h d;go_enter func95,ntmps95
 go_wp2_with(go_at_call 130;refine t.mono ?_;rintro e q⟨i,rfl,l,b⟩;obtain⟨c8,y⟩:=b.c8;have r:=qd l;have u:=qd b;clear l b)
 go_loopw [3] (λv wr=>v=I J (i:Int)/\wr=q) (λ_ _=>0)
 exact⟨rfl,rfl⟩;obtain⟨rfl,rfl⟩:=hrel
 go_wp2
 go_ret;exact⟨i,rfl,q9 r,q9 u⟩
theorem vav(rb:Nat)(s:tq)(d:xC 238 rb s):xC 217 rb s:=by
 intro w en pl op m h;obtain⟨a,D,C,c4,B,A⟩:=h.cells;have r:=qd (d w en pl op m h);clear h d;go_enter func217,ntmps217
 go_wp2_with(go_at_call 238;refine r.mono ?_;rintro e u⟨i,rfl,l,b⟩;obtain⟨c8,y⟩:=b.c8;have q:=qd l;have t:=qd b;clear l b)
 go_ret;exact⟨i,rfl,q9 q,q9 t⟩
theorem qmv(rb:Nat)(s:tq)(b:xC 217 rb s):xC 190 rb s:=by
 intro w en pl op m h;have t:=qd (vhu h (kind:=6) (X:=⟨#[78,79,84]⟩) ue);have u:=qd (b w en pl op m h);clear h b;go_enter func190,ntmps190
 go_wp2_with(first|(go_at_call 131;refine be t ?_;rintro q rfl)|(go_at_call 217;refine u.mono ?_;rintro e q⟨i,rfl,l,d⟩;have r:=qd l;have y:=qd d;clear l d))
 go_ret;exact⟨i,rfl,q9 r,q9 y⟩
section
variable {w:Ao} {rb:Nat} {s:tq} {ns:List RN} {j:Nat} {st:St} {en pl:Int} {op m:Nat}
theorem RowOf.no(w:Ao)(rb:Nat)(ty:TypeId):RowOf w rb ty (C O 0 0) []:=Am ⟨rfl,rfl⟩
theorem RowOf.made(e:rb<w.1.size)(d:∀o,¬pO (w.alloc o) rb w.1.size)(ty:TypeId)(c:Array Ap)(n:Nat)(b:n=c.size):RowOf (w.alloc (Al c ty)) rb ty (C (G ⟨w.1.size,0,O⟩) n n) c.toList:=by
 subst b;exact An ⟨w.1.size,c.size,c,(0,0),rfl,e,heap_alloc_new w _,d _,λj u h=>by simpa using h⟩
theorem yP(b:rb<w.1.size){o:Obj}(h:TKept rb (w.alloc o) w'):TKept rb w w':=(TKept.of_below ((Below.refl w.1.size w).alloc ui o) b).trans h
theorem RT.alloc(h:RT w rb s ns j st)(o:Obj):RT (w.alloc o) rb s ns j st:=h.below (uj.alloc ui o)
theorem RE.alloc(h:RE w rb s en pl op m)(o:Obj):RE (w.alloc o) rb s en pl op m:=h.below (uj.alloc ui o)
theorem qyt(h:RT w rb s ns (j+1) st)(d:s.size<=200)(p:Pay)(q:BS (qH p.op)=N)(l:BS p.V=S)(i:p.h=[])(b:p.P=[]):
  ua 132 #[Ag (G ⟨rb,0,O⟩),Ai #[Y N,I J p.M,C O 0 0,Y S,Y ⟨#[]⟩,C O 0 0,I J p.K,Ah false,I J 0]] w
   λe w'=>e=Ak (I J ns.length)/\TKept rb w w'/\RT w' rb s (ns++[jC p [] false]) j st:=by
 have:=qhc h d (jC p [] false) (iv:=C O 0 0) (lv:=C O 0 0) (RowOf.no _ _ _) (by show RowOf _ _ _ _ (qx p.P);rw[b];exact RowOf.no _ _ _);unfold rnV at this;have u:(jC p [] false).op=qH p.op:=rfl;have t:(jC p [] false).V=p.V:=rfl;have r:(jC p [] false).h=p.h:=rfl;rw[u,t,r,q,l,i]at this;exact this
theorem qyv(h:RT w rb s ns (j+1) st)(d:s.size<=200)(p:Pay)(i:Nat)(y:BS (qH p.op)=N)(u:p.V=[])(t:p.h=[])(b:p.P=[])(r:g=w.1.size):
  ua 132 #[Ag (G ⟨rb,0,O⟩),Ai #[Y N,I J p.M,C (G ⟨g,0,O⟩) 1 1,Y ⟨#[]⟩,Y ⟨#[]⟩,C O 0 0,I J p.K,Ah false,I J 0]] (w.alloc (Al #[I J i] 3))
   λe w'=>e=Ak (I J ns.length)/\TKept rb w w'/\RT w' rb s (ns++[jC p [i] false]) j st:=by
 subst r;have:=qhc (h.alloc (Al #[I J i] 3)) d (jC p [i] false) (iv:=C (G ⟨w.1.size,0,O⟩) 1 1) (lv:=C O 0 0) (RowOf.made h.lt h.fresh _ _ 1 rfl) (by show RowOf _ _ _ _ (qx p.P);rw[b];exact RowOf.no _ _ _);unfold rnV at this;have D:(jC p [i] false).op=qH p.op:=rfl;have B:(jC p [i] false).V=p.V:=rfl;have A:(jC p [i] false).h=p.h:=rfl;rw[D,B,A,y,u,t]at this;refine be this ?_;rintro w'⟨q,l⟩;exact⟨rfl,yP h.lt q,l⟩
theorem qh9(h:RT w rb s ns (j+1) st)(d:s.size<=200)(p:Pay)(i k:Nat)(y:BS (qH p.op)=N)(u:p.V=[])(t:p.h=[])(b:p.P=[])(r:g=w.1.size):
  ua 132 #[Ag (G ⟨rb,0,O⟩),Ai #[Y N,I J p.M,C (G ⟨g,0,O⟩) 2 2,Y ⟨#[]⟩,Y ⟨#[]⟩,C O 0 0,I J p.K,Ah false,I J 0]] (w.alloc (Al #[I J i,I J k] 3))
   λe w'=>e=Ak (I J ns.length)/\TKept rb w w'/\RT w' rb s (ns++[jC p [i,k] false]) j st:=by
 subst r;have:=qhc (h.alloc (Al #[I J i,I J k] 3)) d (jC p [i,k] false) (iv:=C (G ⟨w.1.size,0,O⟩) 2 2) (lv:=C O 0 0) (RowOf.made h.lt h.fresh _ _ 2 rfl) (by show RowOf _ _ _ _ (qx p.P);rw[b];exact RowOf.no _ _ _);unfold rnV at this;have D:(jC p [i,k] false).op=qH p.op:=rfl;have B:(jC p [i,k] false).V=p.V:=rfl;have A:(jC p [i,k] false).h=p.h:=rfl;rw[D,B,A,y,u,t]at this;refine be this ?_;rintro w'⟨q,l⟩;exact⟨rfl,yP h.lt q,l⟩
theorem qf2(h:RE w rb s en pl op m)(d:m<=1000)(N:tu)(a:Int)(i:Nat)(r:BS N=NB)(q:g=w.1.size):
  ua 132 #[Ag (G ⟨rb,0,O⟩),Ai #[Y NB,I J a,C (G ⟨g,0,O⟩) 1 1,Y ⟨#[]⟩,Y ⟨#[]⟩,C O 0 0,I J 0,Ah false,I J 0]] (w.alloc (Al #[I J i] 3))
   λe w'=>∃i:Nat,e=Ak (I J i)/\TKept rb w w'/\RE w' rb s en pl op (m+1):=by
 subst q;subst r;refine(qhb (h.alloc (Al #[I J i] 3)) d ⟨N,a,[i],[],[],[],0,false,0⟩ (iv:=C (G ⟨w.1.size,0,O⟩) 1 1) (lv:=C O 0 0) (RowOf.made h.lt h.fresh _ _ 1 rfl) (RowOf.no _ _ _)).mono ?_;rintro e w'⟨k,rfl,l,b⟩;exact⟨k,rfl,yP h.lt l,b⟩
theorem qdo(h:RE w rb s en pl op m)(d:m<=1000)(N:tu)(a:Int)(i k:Nat)(r:BS N=NB)(q:g=w.1.size):
  ua 132 #[Ag (G ⟨rb,0,O⟩),Ai #[Y NB,I J a,C (G ⟨g,0,O⟩) 2 2,Y ⟨#[]⟩,Y ⟨#[]⟩,C O 0 0,I J 0,Ah false,I J 0]] (w.alloc (Al #[I J i,I J k] 3))
   λe w'=>∃i:Nat,e=Ak (I J i)/\TKept rb w w'/\RE w' rb s en pl op (m+1):=by
 subst q;subst r;refine(qhb (h.alloc (Al #[I J i,I J k] 3)) d ⟨N,a,[i,k],[],[],[],0,false,0⟩ (iv:=C (G ⟨w.1.size,0,O⟩) 2 2) (lv:=C O 0 0) (RowOf.made h.lt h.fresh _ _ 2 rfl) (RowOf.no _ _ _)).mono ?_;rintro e w'⟨k,rfl,l,b⟩;exact⟨k,rfl,yP h.lt l,b⟩
theorem TKept.mine(h:TKept rb w w')(b:L<w.1.size)(d:¬pO w rb L):(∀i,w'.cell? ⟨L,i,O⟩=w.cell? ⟨L,i,O⟩)/\(∀i,w'.frozen? ⟨L,i,O⟩=w.frozen? ⟨L,i,O⟩)/\w'.1[L]?=w.1[L]?/\¬pO w' rb L/\L<w'.1.size:=
 ⟨λi=>aw (w:=w) (w':=w') (a:=⟨L,i,O⟩) (h.block L b d),λi=>cn (w:=w) (w':=w') (a:=⟨L,i,O⟩) (h.block L b d),h.block L b d,λe=>d (h.own L b e),aq b h.size⟩
end
theorem qjj(h:k=5\/k=6\/(16<=k/\k<=25)):qH (qef k)=kwT k:=by
 have:k=5\/k=6\/k=16\/k=17\/k=18\/k=19\/k=20\/k=21\/k=22\/k=23\/k=24\/k=25:=ub;rcases this with rfl|rfl|rfl|rfl|rfl|rfl|rfl|rfl|rfl|rfl|rfl|rfl<;>decide
theorem vax(h:5<=st.tk.A):tkS st=kwT st.tk.A:=by unfold tkS rS;rw[ak ub,ak ub]
theorem xw{K:Int}{S:tu}(q:(K=2/\X=BS st.tk.V/\o=0/\n=0/\S=st.tk.V/\k=2)\/(K=3/\X=⟨#[]⟩/\o=1/\n=st.tk.K/\S=[]/\k=3)\/(K=4/\X=BS st.tk.V/\o=2/\n=0/\S=st.tk.V/\k=4)\/(K=6/\X=⟨#[84,82,85,69]⟩/\o=3/\n=0/\S=[]/\k=8)\/(K=6/\X=⟨#[70,65,76,83,69]⟩/\o=4/\n=0/\S=[]/\k=9))
  (rb:Nat) (s:tq) (d:s.size<=200) (op m:Nat) (w:Ao) (ns:List RN) (j:Nat) (h:RT w rb s ns j st) (B:st.op=op) (e:st.tk.A=k) :
  ua 295 #[Ag (G ⟨rb,0,O⟩)] w (REnds rb s w op m ns j st.M (.ok (kK o st n S) (qh s st))):=by
 obtain⟨F,c3,c4,E,D⟩:=h.ct;have c8:=h.c8;have A1:=h.lt;have n0:¬w.1.size=rb:=ub;have n1:¬rb=w.1.size:=ub;have U:2<=st.tk.A/\st.tk.A<=9:=ub
 obtain⟨t,r⟩:rK st.tk.A=K/\BS (tkS st)=X:=by
  rcases q with⟨rfl,rfl,_,_,_,rfl⟩|⟨rfl,rfl,_,_,_,rfl⟩|⟨rfl,rfl,_,_,_,rfl⟩|⟨rfl,rfl,_,_,_,rfl⟩|⟨rfl,rfl,_,_,_,rfl⟩<;>unfold tkS rS<;>rw[e]<;>exact⟨rfl,rfl⟩
 rw[t]at F;rw[show tkZ st=(st.B:Int) by unfold tkZ;rw[ak ub]]at c4;rw[r]at E;rw[show tkN st=st.tk.K by unfold tkN;rw[ak ub]]at D;have H:=qd (jG (h.alloc (Al #[I J K,I J st.M,I J st.B,Y X,I J st.tk.K] 171)) d ub ub);have FR:=qd (h.fresh (Al #[I J K,I J st.M,I J st.B,Y X,I J st.tk.K] 171));have P:=qd λ(W:Ao) (h:∀i,W.cell? ⟨w.1.size,i,O⟩=(w.alloc (Al #[I J K,I J st.M,I J st.B,Y X,I J st.tk.K] 171)).cell? ⟨w.1.size,i,O⟩)=>And.intro ((h 1).trans (show _=G (I J st.M) by simp)) (And.intro ((h 3).trans (show _=G (Y X) by simp)) ((h 4).trans (show _=G (I J st.tk.K) by simp)))
 have M:=qd λ(W:Ao) (h:RT W rb s ns (j+1) (qh s st))=>qyt h d ⟨o,st.M,n,S,[],[]⟩ rfl rfl rfl rfl
 have Q6:=h.U.W ub;clear h t r e U;rcases q with⟨rfl,rfl,rfl,rfl,rfl,_⟩|⟨rfl,rfl,rfl,rfl,rfl,_⟩|⟨rfl,rfl,rfl,rfl,rfl,_⟩|⟨rfl,rfl,rfl,rfl,rfl,_⟩|⟨rfl,rfl,rfl,rfl,rfl,_⟩
 all_goals
  go_enter func295,ntmps295
  go_wp2_with(first|(go_at_call 94;refine be H ?_;rintro w1⟨b,u⟩;obtain⟨l,C,_,G1,hL⟩:=b.mine uc FR;obtain⟨p1,p3,p4⟩:=q9 P _ l;have R:=qd (yP A1 b);have Z:=qd u;clear b u l C G1)|(go_at_call 132;refine be (M _ Z) ?_;rintro w2⟨A,y⟩;have Q:=qd A;have T:=qd y;clear A y))
  go_ret;exact⟨R.trans Q,_,rfl,q9 T,B,ub,Flat.leaf _ _⟩
theorem qkf(h:st.op=12):vJ s f o st=.err 3 st.M:=by unfold vJ;rw[bo h]
theorem qu9(h:st.op<12)(b:f (kZ s st)=.ok x st'):vJ s f o st=.ok (.un ⟨o,st.M,0,[],[],[]⟩ x) { st' with op:=st.op }:=by unfold vJ;rw[ak ub,b]
theorem qpl(h:st.op<12)(b:f (kZ s st)=.err en pl):vJ s f o st=.err en pl:=by unfold vJ;rw[ak ub,b]
theorem qgg(h:st.op=12):vu s f st=.err 3 st.M:=by unfold vu;rw[bo h]
theorem qnc(h:st.op<12)(d:f (kZ s st)=.ok x st')(b:st'.tk.A=27):vu s f st=.ok x { qh s st' with op:=st.op }:=by unfold vu;rw[ak ub,d];simp only[bo b]
theorem qnb(h:st.op<12)(d:f (kZ s st)=.ok x st')(b:¬st'.tk.A=27):vu s f st=.err 2 st'.M:=by unfold vu;rw[ak ub,d];simp only[ak b]
theorem qiw(h:st.op<12)(b:f (kZ s st)=.err en pl):vu s f st=.err en pl:=by unfold vu;rw[ak ub,b]
theorem va8{fS:St->Res}(h:st.op<=12):(st.op=12/\vJ s fS o st=.err 3 st.M)\/(st.op<12/\((∃x st',fS (kZ s st)=.ok x st'/\vJ s fS o st=.ok (.un ⟨o,st.M,0,[],[],[]⟩ x) { st' with op:=st.op })\/∃en pl,fS (kZ s st)=.err en pl/\vJ s fS o st=.err en pl)):=by
 by_cases F6:st.op=12
 .exact Am ⟨F6,qkf F6⟩
 have b:st.op<12:=ub;refine An ⟨b, ?_⟩
 cases hf:fS (kZ s st) with
 | ok x st'=>exact Am ⟨x,st',rfl,qu9 b hf⟩
 | err en pl=>exact An ⟨en,pl,rfl,qpl b hf⟩
theorem qk8{b:UInt8}(D:(b=43/\N=⟨#[112]⟩/\k=22/\o=14)\/(b=45/\N=⟨#[110]⟩/\k=23/\o=15))(rb:Nat)(s:tq)(K:s.size<=200)(op m:Nat)(hm:200<=m)(bZ:m<=900)(J4:op<=12)(fS:St->Res)(hS:op<12->RReads 295 rb s (op+1) m fS)(eS:xC 295 rb s)(w:Ao)(st:St)(ns:List RN)(j:Nat)(h:RT w rb s ns j st)(B:st.op=op)(M:st.tk.A=k):
  ua 295 #[Ag (G ⟨rb,0,O⟩)] w (REnds rb s w op (m+1) ns j st.M (vJ s fS o st)):=by
 obtain⟨c2,c3,c4,c5,c6⟩:=h.ct;have c8:=h.c8;have A1:=h.lt;have n0:¬w.1.size=rb:=ub;have n1:¬rb=w.1.size:=ub;have I3:22<=st.tk.A/\st.tk.A<=23:=ub;rw[show rK st.tk.A=5 by rcases D with⟨_,_,rfl,_⟩|⟨_,_,rfl,_⟩<;>rw[M]<;>rfl]at c2;rw[show tkZ st=(st.B:Int) by unfold tkZ;rw[ak ub]]at c4;rw[show BS (tkS st)=⟨#[b]⟩ by rw[vax ub];rcases D with⟨rfl,_,rfl,_⟩|⟨rfl,_,rfl,_⟩<;>rw[M]<;>rfl]at c5;rw[show tkN st=st.tk.K by unfold tkN;rw[ak ub]]at c6;have P:BS (qH o)=N:=by rcases D with⟨_,rfl,_,rfl⟩|⟨_,rfl,_,rfl⟩<;>rfl
 have FR:=qd (h.fresh (Al #[I J 5,I J st.M,I J st.B,Y ⟨#[b]⟩,I J st.tk.K] 171));have H':=qd (h.alloc (Al #[I J 5,I J st.M,I J st.B,Y ⟨#[b]⟩,I J st.tk.K] 171));have P3:=qd λ(W:Ao) (h:W.cell? ⟨w.1.size,3,O⟩=(w.alloc (Al #[I J 5,I J st.M,I J st.B,Y ⟨#[b]⟩,I J st.tk.K] 171)).cell? ⟨w.1.size,3,O⟩)=>h.trans (show _=G (Y ⟨#[b]⟩) by simp)
 have RU:=qd λ(W:Ao) (l:List RN) (L0:St) (j i g:Nat) (h:RT W rb s l (j+1) L0) (hg:g=W.1.size)=>qyv h K ⟨o,st.M,0,[],[],[]⟩ i P rfl rfl rfl hg
 have RV:=qd λ(W:Ao) (en pl:Int) (op m i g:Nat) (h:RE W rb s en pl op m) (hm:m<=1000) (hg:g=W.1.size)=>qf2 h hm (qH o) st.M i P hg
 have Q6:=h.U.W ub;have U3:st.tk.A≠0/\st.tk.A≠1:=⟨ub,ub⟩;have HS:=qd hS;have ES:=qd eS;clear h hS eS P M;rcases va8 (s:=s) (fS:=fS) (o:=o) (B.symm ▸ J4:st.op<=12) with⟨t,C⟩|⟨WM,⟨x,st',d,C⟩|⟨en,pl,d,C⟩⟩
 all_goals
  rw[C];clear C
  try(have HF:=qd d;clear d)
  rcases D with⟨rfl,rfl,_,_⟩|⟨rfl,rfl,_,_⟩
 all_goals
  go_enter func295,ntmps295
  go_wp2_with(first|(go_at_call 218;(first|(have _q:=t;refine(qdq H' K t).mono ?_)|refine(qdr H' K U3.1 U3.2 WM).mono ?_);rintro e w1⟨rfl,U,C7⟩;obtain⟨q,d,_,E,hL⟩:=U.mine uc FR;have p1:Xc w1 w.1.size 1 (I J st.M):=(q 1).trans uc;have p3:=q9 P3 _ (q 3);have AA:=qd E;have J8:=qd (yP A1 U);have G3:=qd C7;clear U C7 q d E)|(go_at_call 295;(first|(have _q:=t;refine(ES _ _ _ _ _ G3).mono ?_;rintro e w2⟨i,rfl,H,y⟩)|(refine(HS ub _ (kZ s st) ns (j+1) G3 (by show st.op+1=op+1;omega)).mono ?_;rintro e w2⟨H,Q⟩;rw[q9 HF]at Q;(first|(have _q:=en;obtain⟨i,rfl,y⟩:=Q)|(obtain⟨new,rfl,y,Z9,U9,E6⟩:=Q;have P4:=qd E6;clear E6))));obtain⟨q,d,_,E,WC⟩:=H.mine hL AA;have q1:Xc w2 w.1.size 1 (I J st.M):=(q 1).trans p1;have q3:=(q 3).trans p3;have J9:=y.lt;obtain⟨d7,dz⟩:=y.c7;(try rw[Z9]at d7);have T:=qd (J8.trans H);have r:=qd y;clear H y q d E)|(go_at_call 132;(first|(have _q:=t;refine(RV _ _ _ _ _ _ _ (r.b 12 12 rfl).1 ub uc).mono ?_;rintro e Z⟨i3,rfl,u,F⟩;have A:=qd ((r.b 12 12 rfl).2.trans u))|(have _q:=en;refine(RV _ _ _ _ _ _ _ (r.b op _ ub).1 ub uc).mono ?_;rintro e Z⟨i3,rfl,u,F⟩;have A:=qd ((r.b op _ ub).2.trans u))|(refine be (RU _ _ _ _ _ _ (r.b op _ ub).1 uc) ?_;rintro Z⟨u,F⟩;have A:=qd ((r.b op _ ub).2.trans u)));have R:=qd F;clear u F))
  go_ret
  first
   | (
    have _q:=t;refine⟨T.trans A,_,rfl, ?_⟩;rw[<-B,t]
    exact R.more ub)
   | exact⟨T.trans A,i3,rfl,q9 R⟩
   | (
    refine⟨T.trans A,_,jd uc, ?_,B, ?_,Flat.un _ P4⟩
    .have:=q9 R
     rw[bu]at this;rw[B];exact this
    .have:(kZ s st).M<=st'.M:=U9
     have e:(kZ s st).M=(qh s st).M:=rfl;show st.M<=st'.M
     omega)
theorem qtw(rb:Nat)(s:tq)(hs:s.size<=200)(op m:Nat)(D:200<=m)(w:Ao)(st:St)(ns:List RN)(j:Nat)(h:RT w rb s ns j st)(C:st.op=op)(i:st.tk.A≠2/\st.tk.A≠3/\st.tk.A≠4/\st.tk.A≠8/\st.tk.A≠9/\st.tk.A≠22/\st.tk.A≠23/\st.tk.A≠26):
  ua 295 #[Ag (G ⟨rb,0,O⟩)] w (REnds rb s w op m ns j st.M (.err 2 st.M)):=by
 obtain⟨c2,c3,c4,c5,c6⟩:=h.ct;have c8:=h.c8;have F:=h.lt;have n0:¬w.1.size=rb:=ub;have n1:¬rb=w.1.size:=ub;have i8:=isK (st:=st) (c:=8) (X:=⟨#[84,82,85,69]⟩) rfl ue ue 6 rfl;have t:=isK (st:=st) (c:=9) (X:=⟨#[70,65,76,83,69]⟩) rfl ue ue 6 rfl;have l:=isK (st:=st) (c:=22) (X:=⟨#[43]⟩) rfl ue ue 5 rfl;have q:=isK (st:=st) (c:=23) (X:=⟨#[45]⟩) rfl ue ue 5 rfl;have r:=isK (st:=st) (c:=26) (X:=⟨#[40]⟩) rfl ue ue 5 rfl;rw[bh.2 i.2.2.2.1]at i8;rw[bh.2 i.2.2.2.2.1]at t;rw[bh.2 i.2.2.2.2.2.1]at l;rw[bh.2 i.2.2.2.2.2.2.1]at q;rw[bh.2 i.2.2.2.2.2.2.2]at r
 have A:(rK st.tk.A==2)=false/\(rK st.tk.A==3)=false/\(rK st.tk.A==4)=false:=by
  obtain⟨h2,h3,h4,_⟩:=i;refine⟨bh.2 ?_,bh.2 ?_,bh.2 ?_⟩<;>(unfold rK;split<;>(try split)<;>omega)
 obtain⟨A,Q,P⟩:=A;have H:=qd h;clear h i;generalize rK st.tk.A=K at *;generalize BS (tkS st)=S at *;generalize tkZ st=Z at *;generalize tkN st=N at *;have E:∀o,Hid (ua 96 #[Ag (G ⟨rb,0,O⟩),I J 2,I J st.M] (w.alloc o) λe w'=>e=Ak (Aj #[])/\TKept rb (w.alloc o) w'/\RE w' rb s 2 st.M st.op 200):=λo=>qd (gT (H.alloc o) hs 2 st.M ue)
 rcases(show K=6\/K=5\/(K≠6/\K≠5) by omega) with rfl|rfl|⟨R,B⟩
 .rw[om,li]at i8 t
  rw[show(⟨#[84,82,85,69]⟩:tq).toList=[84,82,85,69] from by rw[gs]]at i8;rw[show(⟨#[70,65,76,83,69]⟩:tq).toList=[70,65,76,83,69] from by rw[gs]]at t;clear l q r A Q P;go_enter func295,ntmps295
  go_wp2_with(go_at_call 96;refine be (q9 (E _)) ?_;rintro M⟨d,b⟩;have u:=qd (yP F d);have y:=qd b;clear d b)
  go_ret;exact⟨q9 u,0,rfl,C ▸ (q9 y).more D⟩
 .rw[om,li]at l q r
  rw[show(⟨#[43]⟩:tq).toList=[43] from by rw[gs]]at l;rw[show(⟨#[45]⟩:tq).toList=[45] from by rw[gs]]at q;rw[show(⟨#[40]⟩:tq).toList=[40] from by rw[gs]]at r;have j22:¬S.toList=[43]:=bh.1 l;have Y:¬S.toList=[45]:=bh.1 q;have W:¬S.toList=[40]:=bh.1 r;clear i8 t A Q P;go_enter func295,ntmps295
  go_wp2_with(go_at_call 96;refine be (q9 (E _)) ?_;rintro M⟨d,b⟩;have u:=qd (yP F d);have y:=qd b;clear d b)
  go_ret;exact⟨q9 u,0,rfl,C ▸ (q9 y).more D⟩
 have T:(K==6)=false:=bh.2 R;have U:(K==5)=false:=bh.2 B;have j5:¬K=5:=B;clear i8 t l q r R B;go_enter func295,ntmps295
 go_wp2_with(go_at_call 96;refine be (q9 (E _)) ?_;rintro M⟨d,b⟩;have u:=qd (yP F d);have y:=qd b;clear d b)
 go_ret;exact⟨q9 u,0,rfl,C ▸ (q9 y).more D⟩
def plT(w:Ao)(rb:Nat):Nat:=match w.cell? ⟨rb,3,O⟩ with
 | some (I _ n)=>n.toNat
 | _=>0
def meT(s:ByteArray)(w:Ao)(rb:Nat):Nat:=match w.cell? ⟨rb,8,O⟩ with
 | some (I _ n)=>if n=0 then s.size+2 - plT w rb else 0
 | _=>0
theorem qqr{ns:List RN}(h:RT w rb s ns j st):meT s w rb=s.size+2 - st.M:=by
 have d:=h.ct.2.1;have b:=h.c8;unfold meT plT;rw[b,d];simp
theorem vhj(h:RE w rb s en pl op m):meT s w rb=0:=by
 obtain⟨d,b⟩:=h.c8;unfold meT;rw[d];simp only;rw[ak (by intro e;rw[e]at b;simp at b)]
theorem qhi{ns:List RN}(h:RT w rb s ns j st):
  ua 131 #[Ag (G ⟨rb,0,O⟩),I J kind,Y X] w λe w'=>e=Ak (Ah (rK st.tk.A==kind&&((BS (tkS st)).toList==X.toList)))/\w'=w:=by
 obtain⟨nv,h,_⟩:=h;exact gi h kind X
theorem vhg{b:Int}(h:a=b):I J a=I J b:=by rw[h]
def vnm(rb:Nat)(s:ByteArray)(w:Ao)(op m:Nat)(ns:List RN)(j lo:Nat)(R:Res)(f:St->Res)(ks:List Int)(v:Ap)(wr:Ao):Prop:=
 TKept rb w wr/\((∃(n:Nat) (l:Ast) (sl:St) (new:List RN),R=jg s f ks n l sl/\s.size<n+sl.M/\v=I J ((ns.length+new.length - 1:Nat):Int)/\RT wr rb s (ns++new) j sl/\sl.op=op/\lo<=sl.M/\Flat l ns.length new) \/
  ∃(en pl:Int) (i:Nat),R=.err en pl/\v=I J i/\RE wr rb s en pl op m)
end Go.Proofs.YtdmmmgodfceilaaGreatDoor
