/- The document's answer -/
import Derived.Test.YtdmmmgodfceilaaGreatDoorM08
set_option maxHeartbeats 64000000
set_option maxRecDepth 100000
namespace Go.Proofs.YtdmmmgodfceilaaGreatDoor
open Go.RowKit Go.Proofs.Tryz
open Go renaming Value->Ap,World->Ao
open Go.Ending renaming returned->Ak
open Go.IntKind renaming i64->J
open Go.Obj renaming cells->Al
open Go.Value renaming agg->Ai,bool->Ah,int->I,pointer->Ag,slice->C,string->Y,tuple->Aj
open Option renaming none->O,some->G
open Or renaming inl->Am,inr->An
variable{cs:Array Ap}{B NB X s:tq}{e:Ending}{kind:Int}{ks:List Int}{ns:List RN}{K L g i0 j lo lo' m m' op rb:Nat}{r:Res}{st:St}{W w w':Ao}
section
variable {w:Ao} {rb:Nat} {s:tq} {ns:List RN} {j:Nat} {st:St}
theorem vg0(h:RT w rb s ns j st)(i:s.size<=200)(k:st.tk.A=4):
  ua 265 #[Ag (G ⟨rb,0,O⟩)] w λe w'=>e=Ak (Ai #[I J 4,I J st.M,I J st.B,Y (BS st.tk.V),I J (tkN st)])/\TKept rb w w'/\RT w' rb s ns (j+1) (qh s st):=by
 obtain⟨f,a,l,b,n⟩:=h;have hp:=b.W ub;rw[show tkZ st=(st.B:Int) by unfold tkZ;rw[ak ub],show rK st.tk.A=4 by rw[k];rfl,show tkS st=st.tk.V by unfold tkS rS;rw[ak ub,bo ub]]at a;refine be (qjq a i b.B (yK s st)) ?_;rintro w'⟨c,d⟩;exact⟨rfl,TKept.of_kept d (c.c0.trans a.c0.symm),f,c,l.T (a.c0.trans c.c0.symm) d,qG s st b.B,ub⟩
theorem vfz(h:RT w rb s ns j st)(k:s.size<=200)(l:¬st.tk.A=4):
  ua 265 #[Ag (G ⟨rb,0,O⟩)] w λe w'=>e=Ak (Ai #[I J (rK st.tk.A),I J st.M,I J (tkZ st),Y (BS (tkS st)),I J (tkN st)])/\TKept rb w w'/\RE w' rb s 2 st.M st.op 200:=by
 obtain⟨d,a,f,i,n⟩:=h;have hp:=i.M;refine be (qjp a (by unfold rK;split<;>(try split)<;>omega)) ?_;rintro w'⟨b,c⟩;exact⟨rfl,TKept.of_kept c (b.c0.trans a.c0.symm),d,_,ns,b,ue,f.T (a.c0.trans b.c0.symm) c,ub⟩
end
theorem vk9(s:tq)(l:Ast)(st:St):(¬(qh s st).tk.A=4/\vp s l st=.err 2 (qh s st).M)\/((qh s st).tk.A=4/\((¬(qh s (qh s st)).tk.A=13/\vp s l st=.ok (.un ⟨22,st.M,0,(qh s st).tk.V,[],[]⟩ l) (qh s (qh s st)))\/((qh s (qh s st)).tk.A=13/\((((rK (qh s (qh s (qh s st))).tk.A=4/\¬((BS (tkS (qh s (qh s (qh s st))))).size:Int)=1)\/¬rK (qh s (qh s (qh s st))).tk.A=4)/\vp s l st=.err 2 (qh s (qh s (qh s st))).M)\/((qh s (qh s (qh s st))).tk.A=4/\∃c,(qh s (qh s (qh s st))).tk.V=[c]/\(((zJ [c] (qh s st).tk.V).isSome=false/\vp s l st=.err 2 (qh s st).M)\/((zJ [c] (qh s st).tk.V).isSome=true/\vp s l st=.ok (.un ⟨22,st.M,0,(qh s st).tk.V,[c],[]⟩ l) (qh s (qh s (qh s (qh s st))))))))))):=by
 unfold vp pd
 by_cases k4:(qh s st).tk.A=4
 .refine An ⟨k4, ?_⟩
  rw[bo k4]
  by_cases k13:(qh s (qh s st)).tk.A=13
  .refine An ⟨k13, ?_⟩
   rw[bo k13]
   by_cases k4b:(qh s (qh s (qh s st))).tk.A=4
   .simp only[bo k4b]
    by_cases kl:(qh s (qh s (qh s st))).tk.V.length=1
    .refine An ⟨k4b, ?_⟩
     obtain⟨c,a⟩:∃c,(qh s (qh s (qh s st))).tk.V=[c]:=by
      match h:(qh s (qh s (qh s st))).tk.V,kl with
      | [c],_=>exact⟨c,rfl⟩
     refine⟨c,a, ?_⟩;rw[a,bo (show[c].length=1 from rfl)];cases hcut:(zJ [c] (qh s st).tk.V).isSome;exact Am ⟨rfl,uc⟩;exact An ⟨rfl,uc⟩
    refine Am ⟨Am ⟨by rw[k4b];rfl,λe=>kl ?_⟩,by simp only[ak kl]⟩;rw[qJ]at e;unfold tkS rS at e;rw[ak ub,bo ub]at e;omega
   refine Am ⟨An λe=>k4b ?_,by simp only[ak k4b]⟩;unfold rK at e;split at e<;>(try split at e)<;>omega
  exact Am ⟨k13,ak k13⟩
 exact Am ⟨k4,ak k4⟩
abbrev lkN(pl g:Nat)(a b:ByteArray)(neg:Bool):Array Ap:=#[Y ⟨#[76,73,75,69]⟩,I J pl,C (G ⟨g,0,O⟩) 1 1,Y a,Y b,C O 0 0,I J 0,Ah neg,I J 0]
abbrev lkT(k:Int)(pl:Nat)(z:Int)(a:ByteArray)(n:Int):Array Ap:=#[I J k,I J pl,I J z,Y a,I J n]
abbrev lkW(w:Ao)(b i:Nat)(a:ByteArray)(T:Array Ap):Ao:=(w.setCell ⟨b,i,O⟩ (Y a)).alloc (Al T 171)
theorem BwN.put(h:BwN w W rb L g i0 cs)(a:rb<w.1.size)(b:rb<W.1.size)(c:g≠L)(d:w.1.size<=L)(i:Nat)(v:Ap)(o:Obj):BwN w ((W.setCell ⟨L,i,O⟩ v).alloc o) rb L g i0 (cs.setIfInBounds i v):=
 ⟨(h.v.set i v).alloc (by simpa using b) o,(h.g.setB c (uu h.v.past) i v).alloc (by simpa using b) o,(h.k.far a (p:=⟨L,i,O⟩) d v).alloc a o⟩
theorem BwN.ins(h:BwN w W rb L g i0 cs):RowOf W rb 3 (C (G ⟨g,0,O⟩) 1 1) (pP [i0]):=An ⟨g,1,#[I J i0],(0,0),rfl,h.g.past,h.g.blk,h.g.no,λj u a=>by simpa [pP]using a⟩
theorem qjz(rb:Nat)(s:tq)(b:s.size<=200)(op m:Nat)(hm:201<=m)(w:Ao)(st:St)(ns new:List RN)(j:Nat)(l:Ast)(h:RT w rb s (ns++new) j st)(S:st.op=op)(hk:st.tk.A=12)(E6:Flat l ns.length new)(i0:Nat)(O8:i0=ns.length+new.length - 1)(g:Nat)(T:VN w rb g 3 #[I J i0])(neg:Bool)(Q:Int):
  ua 243 #[Ag (G ⟨rb,0,O⟩),Ai #[Y ⟨#[]⟩,I J st.M,C (G ⟨g,0,O⟩) 1 1,Y ⟨#[]⟩,Y ⟨#[]⟩,C O 0 0,I J 0,Ah neg,I J 0]] w (REnds rb s w op m ns j st.M (vee neg Q (vp s l st))):=by
 have z:=h.lt;have n0:¬w.1.size=rb:=ub;have n1:¬rb=w.1.size:=ub;have V2:=T.lt;have fJ:=qd (BwN.mk (VN.new h 178 (lkN st.M g ⟨#[]⟩ ⟨#[]⟩ neg) rfl) (T.alloc z _) ((TKept.refl rb w).alloc z _));have H0:=qd (h.alloc (Al (lkN st.M g ⟨#[]⟩ ⟨#[]⟩ neg) 178));have Z:=qG s st h.U.B;have q1:=h.U.W ub;have f2:=qG s _ Z.B;have f3:=qG s _ f2.B;have B8:=Z.M;have SQ:(qh s st).tk.V.length<=200:=bs (qbe s st) b;have P4:=qd E6;have cH:=qd O8;clear h T E6 O8;rcases vk9 s l st with⟨R,x⟩|⟨k4,⟨FH,x⟩|⟨D,⟨⟨hK,GL⟩|nK,x⟩|⟨k4b,c,hc,⟨U,x⟩|⟨dO,x⟩⟩⟩⟩
 all_goals
  rw[x];clear x
  try have q2:=Z.W (by rw[k4];decide)
  first
   | (
    have JH:=ew.2 D
    have q3:=f2.W (by rw[D];decide))
   | have JH:=bh.2 FH
   | skip
  try have q4:=f3.W (by rw[k4b];decide)
  go_enter func243,ntmps243
  go_wp2_with(first|(go_at_call 94;have _q:=k;refine be (jG k b ub ub) ?_;rintro u⟨M3,E⟩;have y:=(q9 f).T M3;have FX:=(q9 HP3).T M3;have m4:=y.v.lt;have m5:=FX.lt;obtain⟨e2,e3,e4,e5,e6⟩:=E.ct;obtain⟨d0,d1,d2,d3,d4,d5,d6,d7,d8,dz⟩:=y.v.nine;have pp1:Xc u w2.1.size 1 (I J (qh s st).M):=FX.cell 1;have tF:=E.lt;have m1:¬rb=u.1.size:=ub;have m2:¬u.1.size=rb:=ub;have m3:¬w.1.size=u.1.size:=ub;(first|(have _q:=c;rw[show rK (qh s (qh s (qh s st))).tk.A=4 by rw[k4b];rfl]at e2;rw[show tkZ (qh s (qh s (qh s st)))=((qh s (qh s (qh s st))).B:Int) by unfold tkZ;rw[ak ub]]at e4;rw[show BS (tkS (qh s (qh s (qh s st))))=⟨#[c]⟩ by unfold tkS rS;rw[ak ub,bo ub,hc];rfl]at e5;have cK:=(y.v.rt ue ue E 4 (Y ⟨#[c]⟩)).alloc (Al (lkT 4 (qh s (qh s (qh s st))).M (qh s (qh s (qh s st))).B ⟨#[c]⟩ (tkN (qh s (qh s (qh s st))))) 171);have aU:=(Below.refl (lkW u w.1.size 4 ⟨#[c]⟩ (lkT 4 (qh s (qh s (qh s st))).M (qh s (qh s (qh s st))).B ⟨#[c]⟩ (tkN (qh s (qh s (qh s st)))))).1.size (lkW u w.1.size 4 ⟨#[c]⟩ (lkT 4 (qh s (qh s (qh s st))).M (qh s (qh s (qh s st))).B ⟨#[c]⟩ (tkN (qh s (qh s (qh s st))))))).drew;have aJ:=qd (cK.below aU);have T5:=qd ((show BwN w (lkW u w.1.size 4 ⟨#[c]⟩ (lkT 4 (qh s (qh s (qh s st))).M (qh s (qh s (qh s st))).B ⟨#[c]⟩ (tkN (qh s (qh s (qh s st)))))) rb w.1.size g i0 (lkN st.M g (BS (qh s st).tk.V) ⟨#[c]⟩ neg) from y.put z tF ub ui 4 _ _).T (TKept.of_below aU cK.lt));clear cK aU)|(have FL4:=qd (λo=>gT (E.alloc o) b 2 (qh s (qh s (qh s st))).M ue);have bP:=qd (λo=>y.k.alloc z o)));clear M3 E y FX)|(go_at_call 94;refine be (jG H0 b ub ub) ?_;rintro w1⟨A4,C7⟩;have D6:=qd (fJ.T A4);have G3:=qd C7;clear A4 C7)|(go_at_call 265;(first|(have _q:=R;refine be (vfz G3 b R) ?_;rintro w2⟨N,n⟩;have d:=(q9 D6).T N;have WC:=d.v.lt;have BF:=n.lt;obtain⟨p0,p1,p2,p3,p4,p5,p6,p7,p8,pz⟩:=d.v.nine;have f:Hid (BwN w (lkW w2 w.1.size 3 (BS (tkS (qh s st))) (lkT (rK (qh s st).tk.A) (qh s st).M (tkZ (qh s st)) (BS (tkS (qh s st))) (tkN (qh s st)))) rb w.1.size g i0 (lkN st.M g (BS (tkS (qh s st))) ⟨#[]⟩ neg)):=qd (d.put z BF ub ui 3 _ _);have k:=qd ((d.v.re ue ue n 3 (Y (BS (tkS (qh s st))))).alloc (Al (lkT (rK (qh s st).tk.A) (qh s st).M (tkZ (qh s st)) (BS (tkS (qh s st))) (tkN (qh s st))) 171));obtain⟨c82,_⟩:=n.c8;have ZR:¬rb=w2.1.size:=ub;have QY:¬w2.1.size=rb:=ub)|(refine be (vg0 G3 b k4) ?_;rintro w2⟨N,n⟩;have d:=(q9 D6).T N;have WC:=d.v.lt;have BF:=n.lt;obtain⟨p0,p1,p2,p3,p4,p5,p6,p7,p8,pz⟩:=d.v.nine;have f:Hid (BwN w (lkW w2 w.1.size 3 (BS (qh s st).tk.V) (lkT 4 (qh s st).M (qh s st).B (BS (qh s st).tk.V) (tkN (qh s st)))) rb w.1.size g i0 (lkN st.M g (BS (qh s st).tk.V) ⟨#[]⟩ neg)):=qd (d.put z BF ub ui 3 _ _);have k:=qd ((d.v.rt ue ue n 3 (Y (BS (qh s st).tk.V))).alloc (Al (lkT 4 (qh s st).M (qh s st).B (BS (qh s st).tk.V) (tkN (qh s st))) 171));have HP3:Hid (VN (lkW w2 w.1.size 3 (BS (qh s st).tk.V) (lkT 4 (qh s st).M (qh s st).B (BS (qh s st).tk.V) (tkN (qh s st)))) rb w2.1.size 171 (lkT 4 (qh s st).M (qh s st).B (BS (qh s st).tk.V) (tkN (qh s st)))):=qd (VN.new (d.v.rt ue ue n 3 (Y (BS (qh s st).tk.V))) 171 (lkT 4 (qh s st).M (qh s st).B (BS (qh s st).tk.V) (tkN (qh s st))) uc);have c82:=n.c8;have ZR:¬rb=w2.1.size:=ub;have QY:¬w2.1.size=rb:=ub));clear N n d)|(go_at_call 131;(first|(have _q:=R;refine be (vhu k ue) λw' hw'=>?_;subst w')|(refine be (qr5 k 13 (X:=⟨#[69,83,67,65,80,69]⟩) rfl ue ue rfl) λw' hw'=>?_;subst w';rw[JH])))|(go_at_call 96;refine be (FL4 _) ?_;rintro w6⟨q,t⟩;have F:=qd ((bP _).trans q);have QP:=qd t;clear q t)|(go_at_call 132;(first|(have _q:=M;refine be (qf1 M b ⟨22,st.M,0,(qh s st).tk.V,[c],[]⟩ rfl [i0] neg rfl rfl rfl H.ins (RowOf.no _ _ _)) ?_;rintro A⟨a,i⟩;have v:=qd (H.k.trans a))|(have _q:=FH;refine be (qf1 k b ⟨22,st.M,0,(qh s st).tk.V,[],[]⟩ rfl [i0] neg rfl rfl rfl f.ins (RowOf.no _ _ _)) ?_;rintro A⟨a,i⟩;have v:=qd (f.k.trans a))|(refine(qha k ub [i0] [] neg f.ins (RowOf.no _ _ _)).mono ?_;rintro e A⟨i9,rfl,a,i⟩;have v:=qd (f.k.trans a)));have P:=qd i;clear a i))
  try
   go_region_with(go_at_call 266;refine be (qu5 (BS (qh s st).tk.V) (by rw[qJ];exact SQ) c _) λw' hw'=>?_;subst w';rw[xB];first|rw[U]|rw[dO])
   all_goals go_wp2_with(first|(go_at_call 96;refine be (gT aJ b 2 (qh s st).M ue) ?_;rintro w6⟨q,t⟩;have F:=qd (T5.k.trans q);have QP:=qd t;clear q t)|(go_at_call 94;have _q:=aJ;refine be (jG aJ b ub ub) ?_;rintro w6⟨q,t⟩;have aW:=(q9 T5).T q;obtain⟨f0',f1',f2',f3',f4',f5',f6',f7',f8',_⟩:=aW.v.nine;have H:=qd aW;have M:=qd t;clear q t aW)|(go_at_call 132;(first|(have _q:=M;refine be (qf1 M b ⟨22,st.M,0,(qh s st).tk.V,[c],[]⟩ rfl [i0] neg rfl rfl rfl H.ins (RowOf.no _ _ _)) ?_;rintro A⟨a,i⟩;have v:=qd (H.k.trans a))|(have _q:=FH;refine be (qf1 k b ⟨22,st.M,0,(qh s st).tk.V,[],[]⟩ rfl [i0] neg rfl rfl rfl f.ins (RowOf.no _ _ _)) ?_;rintro A⟨a,i⟩;have v:=qd (f.k.trans a))|(refine(qha k ub [i0] [] neg f.ins (RowOf.no _ _ _)).mono ?_;rintro e A⟨i9,rfl,a,i⟩;have v:=qd (f.k.trans a)));have P:=qd i;clear a i))
  all_goals go_ret
  all_goals first
   | exact⟨q9 F,0,rfl,S ▸ (q9 QP).more ub⟩
   | exact⟨q9 v,i9,rfl,S ▸ (q9 P).more ub⟩
   | (
    have HH:=q9 P;rw[bu,q9 cH]at HH;refine⟨q9 v,_,jd uc,HH.less ub,S,ub, ?_⟩
    cases neg with
    | false=>exact Flat.un _ P4
    | true=>exact Flat.neg1 _ _ (An (Am rfl)) P4)
def RD(w:Ao)(rb:Nat)(s:ByteArray)(pl:Int)(op m lo:Nat):Prop:=
 ∃(ns:List RN) (nv:Ap) (st:St),TrC w rb nv s (rK st.tk.A) st.M (tkZ st) (BS (tkS st)) (tkN st) op 0 0/\NodesAt w rb nv ns/\(st.tk.A=11\/st.tk.A=12)/\(st.M:Int)=pl/\ns.length<=m/\lo<=st.M/\st.M<=s.size
def RX(w:Ao)(rb:Nat)(s:ByteArray)(en pl:Int)(op m lo:Nat):Prop:=RE w rb s en pl op m\/(en=2/\RD w rb s pl op m lo)
section
variable {w w':Ao} {rb:Nat} {s:tq} {en pl:Int} {op m lo:Nat}
theorem RX.lt(h:RX w rb s en pl op m lo):rb<w.1.size:=by
 rcases h with h|⟨_,ns,a,st,h,_⟩;exact h.lt;exact h.lt
theorem RX.more(h:RX w rb s en pl op m lo)(b:m<=m')(l:lo'<=lo):RX w rb s en pl op m' lo':=by
 rcases h with h|⟨e,ns,a,st,k,i,f,d,o,n,c⟩;exact Am (h.more b);exact An ⟨e,ns,a,st,k,i,f,d,ub,ub,c⟩
theorem RX.alloc(h:RX w rb s en pl op m lo)(o:Obj):RX (w.alloc o) rb s en pl op m lo:=by
 rcases h with h|⟨e,ns,b,st,a,d,c⟩;exact Am (h.alloc o);exact An ⟨e,ns,b,st,a.alloc o,d.below a.lt (uj.alloc ui o),c⟩
theorem RX.fresh(h:RX w rb s en pl op m lo)(o:Obj):¬pO (w.alloc o) rb w.1.size:=by
 rcases h with h|⟨e,ns,c,st,a,b,d⟩;exact h.fresh o;exact b.fresh a.c0 a.lt o
theorem RX.c7(h:RX w rb s en pl op m lo):Xc w rb 7 (I J op)/\Xf w rb:=by
 rcases h with h|⟨e,ns,b,st,a,_⟩;exact h.c7;exact⟨a.c7,a.fz⟩
theorem RX.b(h:RX w rb s en pl op m lo)(n:Nat)(o:Int)(a:o=n):RX (w.setCell ⟨rb,7,O⟩ (I J o)) rb s en pl n m lo/\TKept rb w (w.setCell ⟨rb,7,O⟩ (I J o)):=by
 rcases h with h|⟨e,ns,f,st,b,i,k⟩;exact⟨Am (h.b n o a).1,(h.b n o a).2⟩;subst a;have d:=(Kept.refl rb w).setCell 7 (I J n);have c:=b.b n;exact⟨An ⟨e,ns,f,st,c,i.T (b.c0.trans c.c0.symm) d,k⟩,TKept.of_kept d (c.c0.trans b.c0.symm)⟩
theorem qyu(h:RX w rb s en pl op m lo)(k:m<=1000)(x:RN){iv lv:Ap}(b:RowOf w rb 3 iv (pP x.ins))(c:RowOf w rb 9 lv (qx x.P)):
  ua 132 #[Ag (G ⟨rb,0,O⟩),rnV x iv lv] w λe w'=>∃i:Nat,e=Ak (I J i)/\TKept rb w w'/\RX w' rb s en pl op (m+1) lo:=by
 rcases h with h|⟨e,ns,A,st,n,o,y,v,C,u,t⟩;refine(qhb h k x b c).mono ?_;rintro e w'⟨i,rfl,l,f⟩;exact⟨i,rfl,l,Am f⟩;refine(qa5 n o x b c ub).mono ?_;rintro D w'⟨rfl,q,a,z,d⟩;exact⟨ns.length,rfl,q,An ⟨e,_,a,st,z,d,y,v,ud,u,t⟩⟩
theorem qti(h:RX w rb s en pl op m lo)(c:m<=1000)(N:tu)(a:Int)(i:Nat)(l:BS N=NB)(f:g=w.1.size):
  ua 132 #[Ag (G ⟨rb,0,O⟩),Ai #[Y NB,I J a,C (G ⟨g,0,O⟩) 1 1,Y ⟨#[]⟩,Y ⟨#[]⟩,C O 0 0,I J 0,Ah false,I J 0]] (w.alloc (Al #[I J i] 3))
   λe w'=>∃i:Nat,e=Ak (I J i)/\TKept rb w w'/\RX w' rb s en pl op (m+1) lo:=by
 subst l f;refine(qyu (h.alloc (Al #[I J i] 3)) c ⟨N,a,[i],[],[],[],0,false,0⟩ (iv:=C (G ⟨w.1.size,0,O⟩) 1 1) (lv:=C O 0 0) (RowOf.made h.lt h.fresh _ _ 1 rfl) (RowOf.no _ _ _)).mono ?_;rintro e w'⟨k,rfl,d,b⟩;exact⟨k,rfl,yP h.lt d,b⟩
theorem qp2(h:RX w rb s en pl op m lo)(c:m<=1000)(N:tu)(a:Int)(i k:Nat)(l:BS N=NB)(f:g=w.1.size):
  ua 132 #[Ag (G ⟨rb,0,O⟩),Ai #[Y NB,I J a,C (G ⟨g,0,O⟩) 2 2,Y ⟨#[]⟩,Y ⟨#[]⟩,C O 0 0,I J 0,Ah false,I J 0]] (w.alloc (Al #[I J i,I J k] 3))
   λe w'=>∃i:Nat,e=Ak (I J i)/\TKept rb w w'/\RX w' rb s en pl op (m+1) lo:=by
 subst l f;refine(qyu (h.alloc (Al #[I J i,I J k] 3)) c ⟨N,a,[i,k],[],[],[],0,false,0⟩ (iv:=C (G ⟨w.1.size,0,O⟩) 2 2) (lv:=C O 0 0) (RowOf.made h.lt h.fresh _ _ 2 rfl) (RowOf.no _ _ _)).mono ?_;rintro e w'⟨k,rfl,d,b⟩;exact⟨k,rfl,yP h.lt d,b⟩
theorem vfs(h:RX w rb s en pl op m lo)(c:Int)(n:kwT c=X.data.toList)(q:5<=c)(u:c<=28)(f:rK c=kind)(z:c≠11)(A:c≠12):
  ua 264 #[Ag (G ⟨rb,0,O⟩),I J kind,Y X] w λe w'=>e=Ak (Aj #[])/\TKept rb w w'/\RE w' rb s en pl op m:=by
 rcases h with h|⟨e,ns,l,st,a,o,y,t,b,x,v⟩;exact qhk h (by rw[<-f];unfold rK;rw[ak ub];split<;>decide);have i:=isK (st:=st) n q u kind f;rw[show(st.tk.A==c)=false from bh.2 ub]at i;subst e t;refine be (qhj a kind X i) ?_;rintro w'⟨d,k⟩;exact⟨rfl,TKept.of_kept k (d.c0.trans a.c0.symm),l,_,ns,d,ue,o.T (a.c0.trans d.c0.symm) k,b⟩
theorem RD.is(h:RD w rb s pl op m lo)(c:Int)(b:kwT c=X.data.toList)(f:5<=c)(i:c<=28)(a:rK c=kind)(o:c≠11)(q:c≠12):
  ua 131 #[Ag (G ⟨rb,0,O⟩),I J kind,Y X] w λe w'=>e=Ak (Ah false)/\w'=w:=by
 obtain⟨ns,k,st,d,l,n,_⟩:=h;have:=gi d kind X;rwa [isK b f i kind a,show(st.tk.A==c)=false from bh.2 ub]at this
theorem RD.c8(h:RD w rb s pl op m lo):Xc w rb 8 (I J 0):=by obtain⟨ns,b,st,a,_⟩:=h;exact a.c8
theorem vpl{n:Nat}(h:RX w rb s en pl op m lo)(i:n<lo)(f:n<=s.size):meT s w rb<s.size+2 - n:=by
 rcases h with h|⟨e,ns,d,st,a,k,b,q,p,o,l⟩;rw[vhj h];omega;have b:=a.c3;have c:=a.c8;unfold meT plT;rw[c,b];simp;omega
end
def DEnds(rb:Nat)(s:ByteArray)(w:Ao)(op m:Nat)(ns:List RN)(j lo:Nat)(r:Res)(e:Ending)(w':Ao):Prop:=
 TKept rb w w'/\match r with
 | .ok t st=>∃new,e=Ak (I J ((ns.length+new.length - 1:Nat):Int))/\RT w' rb s (ns++new) j st/\st.op=op/\lo<=st.M/\Flat t ns.length new
 | .err en pl=>∃i:Nat,e=Ak (I J i)/\RX w' rb s en pl op m lo
def DReads(K:Nat)(rb:Nat)(s:ByteArray)(op m:Nat)(f:St->Res):Prop:=
 ∀(w:Ao) (st:St) (ns:List RN) (j:Nat),RT w rb s ns j st->st.op=op->Calls prog K #[Ag (G ⟨rb,0,O⟩)] w (DEnds rb s w op m ns j st.M (f st))
theorem DEnds.more(h:DEnds rb s w op m ns j lo r e w')(c:m<=m')(d:lo'<=lo):DEnds rb s w op m' ns j lo' r e w':=by
 obtain⟨f,h⟩:=h;refine⟨f, ?_⟩
 cases r with
 | ok t st=>obtain⟨new,b,a,l,n,k⟩:=h;exact⟨new,b,a,l,ub,k⟩
 | err en pl=>obtain⟨i,b,a⟩:=h;exact⟨i,b,a.more c d⟩
theorem DReads.more{f:St->Res}(h:DReads K rb s op m f)(c:m<=m'):DReads K rb s op m' f:=λw st ns j a b=>(h w st ns j a b).mono λ_ _ d=>d.more c ui
theorem REnds.d(h:REnds rb s w op m ns j lo r e w'):DEnds rb s w op m ns j lo r e w':=by
 obtain⟨a,h⟩:=h;refine⟨a, ?_⟩
 cases r with
 | ok t st=>exact h
 | err en pl=>obtain⟨i,c,b⟩:=h;exact⟨i,c,Am b⟩
theorem xO(k a z:Int)(S:tq)(n:Int)(w:Ao):
  ut 239 #[Ai #[I J k,I J a,I J z,Y S,I J n]] w (Ah (k==5&&(S.toList==[61]||S.toList==[60,62]||S.toList==[60]||S.toList==[60,61]||S.toList==[62]||S.toList==[62,61]))):=by
 have b:∀o,Xb w (w.alloc o):=λo=>uj.alloc ui o
 by_cases hk:k=5
 .subst hk
  go_enter func239,ntmps239
  go_wp2
  all_goals(go_ret;refine⟨qY ?_,b _⟩;simp_all)
 have c:(k==5)=false:=bh.2 hk;go_enter func239,ntmps239
 go_wp2
 all_goals(go_ret;exact⟨by rw[c];rfl,b _⟩)
theorem kj(st:St):(rK st.tk.A==5&&((BS (tkS st)).toList==[61]||(BS (tkS st)).toList==[60,62]||(BS (tkS st)).toList==[60]||(BS (tkS st)).toList==[60,61]||(BS (tkS st)).toList==[62]||(BS (tkS st)).toList==[62,61]))=decide (16<=st.tk.A/\st.tk.A<=21):=by
 have i (c:Int) (X:tu) (hX:kwT c=X) (h5:16<=c) (M8:c<=28):(rK st.tk.A==5&&((BS (tkS st)).toList==X))=(st.tk.A==c):=by
  have:=isK (st:=st) (c:=c) (X:=BS X) (by rw[xB];exact hX) ub M8 5 (by unfold rK;rw[ak ub,ak ub]);rwa [qP X]at this
 rw[oh,oh,oh,oh,oh,i 16 [61] rfl ue ue,i 17 [60,62] rfl ue ue,i 18 [60] rfl ue ue,i 19 [60,61] rfl ue ue,i 20 [62] rfl ue ue,i 21 [62,61] rfl ue ue];rw[lw];simp only[ff,ew,fj];omega
def vrx(rb:Nat)(s:ByteArray)(w:Ao)(op m:Nat)(ns:List RN)(j lo:Nat)(R:Res)(f:St->Res)(ks:List Int)(v:Ap)(wr:Ao):Prop:=
 TKept rb w wr/\((∃(n:Nat) (l:Ast) (sl:St) (new:List RN),R=jg s f ks n l sl/\s.size<n+sl.M/\v=I J ((ns.length+new.length - 1:Nat):Int)/\RT wr rb s (ns++new) j sl/\sl.op=op/\lo<=sl.M/\Flat l ns.length new) \/
  ∃(en pl:Int) (i:Nat),R=.err en pl/\v=I J i/\RX wr rb s en pl op m lo)
theorem vpe(b:(B=⟨#[65,78,68]⟩/\ks=[5])\/(B=⟨#[79,82]⟩/\ks=[6]))(a:St):∃t:Bool,(rK a.tk.A==6&&((BS (tkS a)).toList==B.toList))=t/\ks.contains a.tk.A=t/\(t=true->5<=a.tk.A/\a.tk.A<=6/\BS (qH (qef a.tk.A))=B):=by
 rcases b with⟨rfl,rfl⟩|⟨rfl,rfl⟩;refine⟨_,isK (c:=5) rfl ue ue 6 rfl,by simp only[sr,List.contains_nil,mj],λh=>?_⟩;rw[eq_of_beq h];exact⟨ue,ue,rfl⟩;refine⟨_,isK (c:=6) rfl ue ue 6 rfl,by simp only[sr,List.contains_nil,mj],λh=>?_⟩;rw[eq_of_beq h];exact⟨ue,ue,rfl⟩
theorem qbo{F:Nat}(hC:(F=130/\K=190/\B=⟨#[65,78,68]⟩/\ks=[5])\/(F=95/\K=130/\B=⟨#[79,82]⟩/\ks=[6]))(rb:Nat)(s:tq)(hs:s.size<=200)(op m:Nat)(hm:200<=m)(bZ:m<=900)(f:St->Res)(P:DReads K rb s op m f):DReads F rb s op (m+1) (jR s f ks):=by
 intro w st ns j h ho;have HF:=qd P;have HC:=qd (P w st ns j h ho);have S:(B=⟨#[65,78,68]⟩/\ks=[5])\/(B=⟨#[79,82]⟩/\ks=[6]):=hC.elim (λh=>Am h.2.2) (λh=>An h.2.2);have E:=qd (vpe S)
 have E2:Hid (∀(W:Ao) (pl:Int) (lo:Nat),RD W rb s pl op (m+1) lo->ua 131 #[Ag (G ⟨rb,0,O⟩),I J 6,Y B] W λe w'=>e=Ak (Ah false)/\w'=W):=qd λW pl lo h=>by
  rcases S with⟨rfl,_⟩|⟨rfl,_⟩;exact h.is 5 rfl ue ue rfl ue ue;exact h.is 6 rfl ue ue rfl ue ue
 obtain⟨R,Q⟩:∃r,jR s f ks st=r:=⟨_,rfl⟩;rw[Q];have HR:=qd Q;clear P h Q S;rcases hC with⟨rfl,rfl,rfl,_⟩|⟨rfl,rfl,rfl,_⟩
 all_goals
  first|go_enter func130,ntmps130|go_enter func95,ntmps95
  go_wp2_with((first|go_at_call 190|go_at_call 130);refine HC.mono ?_;rintro e w1 b;have H1:Hid (∃v,e=Ak v/\vrx rb s w op (m+1) ns j st.M R f ks v w1):=qd (by
    obtain⟨A4,b⟩:=b;rw[<-q9 HR]
    cases A9:f st with
    | ok l0 st0=>rw[A9]at b;obtain⟨new,rfl,C7,Q8,T8,H⟩:=b;exact⟨_,rfl,A4,Am ⟨s.size+1,l0,st0,new,qdv A9,ub,rfl,C7,Q8,T8,H⟩⟩
    | err en pl=>rw[A9]at b;obtain⟨i,rfl,C7⟩:=b;exact⟨_,rfl,A4,An ⟨en,pl,i,qb9 A9,rfl,C7.more ub ui⟩⟩);clear b;obtain⟨v1,rfl,b⟩:=q9 H1;have y:=qd b;clear H1 b)
  go_loopw [3] (λv wr=>Hid (vrx rb s w op (m+1) ns j st.M R f ks v wr)) (λv wr=>meT s wr rb)
  exact y;obtain⟨A,hc⟩:=q9 hrel;have D:=qd A;rcases hc with⟨n,l,a,new,d,hn,rfl,k,BO,Q6,H⟩|⟨en,pl,i,d,rfl,c⟩
  .have J7:=k.U
   have OV:=J7.M;have c8:=k.c8;obtain⟨c2,c3,c4,c5,c6⟩:=k.ct;obtain⟨M,rfl⟩:∃M,n=M+1:=⟨n - 1,ub⟩;have NA:=qd (qqr k);have z:=qd k;have P4:=qd H;clear k A H hrel y;obtain⟨t,hi,q,u⟩:=q9 E a;cases t
   .have x:Hid (R=.ok l a):=qd (by rw[d,gq q])
    clear q d u
    go_wp2_with(go_at_call 131;refine be (qhi z) λw' hw'=>?_;subst w';simp only[hi])
    go_ret;rw[q9 x];exact⟨q9 D,new,rfl,q9 z,BO,Q6,q9 P4⟩
   replace u:=u rfl;have bR:=J7.W ub;have hN:=qd u.2.2;have U3:a.tk.A≠0/\a.tk.A≠1:=⟨ub,ub⟩;rcases A9:f (qh s a) with⟨r,L0⟩|⟨en,pl⟩
   all_goals
    first
     | have x:=qd (d.trans (gn q (gP A9)))
     | have x:=qd (d.trans (pH q (kr A9)))
    have L4:=qd A9;clear q d A9 u
    go_wp2_with(first|(go_at_call 131;refine be (qhi z) λw' hw'=>?_;subst w';simp only[hi])|(go_at_call 94;refine be (jG z hs U3.1 U3.2) ?_;rintro w2⟨A8,B9⟩;have N7:=qd A8;have J0:=qd B9;clear A8 B9)|((first|go_at_call 190|go_at_call 130);refine(HF _ (qh s a) (ns++new) (j+1) J0 BO).mono ?_;rintro e w3⟨D7,T⟩;rw[q9 L4]at T;(first|(have _q:=en;obtain⟨i3,rfl,Z⟩:=T)|(obtain⟨vef,rfl,Z,JT,hp3,hfl3⟩:=T;have EY:=qd hfl3;clear hfl3));have R8:=qd D7;have P0:=qd Z;clear D7 Z)|(go_at_call 132;(first|(have _q:=en;refine(qp2 P0 ub _ a.M (ns.length+new.length - 1) i3 hN uc).mono ?_;rintro e w4⟨i4,rfl,U,o⟩;have N:=qd (vpl o bR ub))|(refine be (qh9 P0 hs ⟨qef a.tk.A,a.M,0,[],[],[]⟩ (ns.length+new.length - 1) (ns.length+new.length+vef.length - 1) hN rfl rfl rfl uc) ?_;rintro w4⟨U,o⟩;have wI:=o.U.M;have N:=qd (qqr o)));have bP:=qd (((D.trans N7).trans R8).trans U);have bN:=qd o;clear U o))
    go_roundw
    case rel=>
     first
      | exact qd ⟨q9 bP,An ⟨en,pl,i4,q9 x,rfl,bN.more ui ub⟩⟩
      | (
       refine qd ⟨q9 bP,Am ⟨M,_,L0,new++vef++[jC ⟨qef a.tk.A,a.M,0,[],[],[]⟩ [ns.length+new.length - 1,ns.length+new.length+vef.length - 1] false],q9 x,ub,vhg ud, ?_,JT,ub,Flat.bin _ P4 (by have:=q9 EY;rwa [ce]at this)⟩⟩;have:=q9 bN
       simpa only[bu]using this)
    rw[q9 NA];first|exact q9 N|(rw[q9 N];omega)
  rcases c with c|⟨CZ,c⟩
  .obtain⟨c8,eT⟩:=c.c8
   have C:=qd c;clear c A hrel y
   go_wp2
   go_ret;rw[d];exact⟨q9 D,i,rfl,Am C⟩
  have c8:=c.c8;have C:=qd c;clear c A hrel y
  go_wp2_with(go_at_call 131;refine be (E2 _ _ _ C) λw' hw'=>?_;subst w')
  go_ret;rw[d];exact⟨q9 D,i,rfl,An ⟨CZ,q9 C⟩⟩
theorem vdo{fE:St->Res}(h:st.op<=12):(st.op=12/\vu s fE st=.err 3 st.M)\/(st.op<12/\((∃x st',fE (kZ s st)=.ok x st'/\((st'.tk.A=27/\vu s fE st=.ok x { qh s st' with op:=st.op })\/(¬st'.tk.A=27/\vu s fE st=.err 2 st'.M)))\/∃en pl,fE (kZ s st)=.err en pl/\vu s fE st=.err en pl)):=by
 by_cases F6:st.op=12
 .exact Am ⟨F6,qgg F6⟩
 have a:st.op<12:=ub;refine An ⟨a, ?_⟩
 cases hf:fE (kZ s st) with
 | ok x st'=>
  refine Am ⟨x,st',rfl, ?_⟩
  by_cases hk:st'.tk.A=27
  exact Am ⟨hk,qnc a hf hk⟩;exact An ⟨hk,qnb a hf hk⟩
 | err en pl=>exact An ⟨en,pl,rfl,qiw a hf⟩
theorem qtv(rb:Nat)(s:tq)(l:s.size<=200)(op m:Nat)(hm:200<=m)(J4:op<=12)(fE:St->Res)(E:op<12->DReads 95 rb s (op+1) m fE)(F:xC 95 rb s)(w:Ao)(st:St)(ns:List RN)(j:Nat)(h:RT w rb s ns j st)(n:st.op=op)(C:st.tk.A=26):
  ua 295 #[Ag (G ⟨rb,0,O⟩)] w (REnds rb s w op (m+1) ns j st.M (vu s fE st)):=by
 obtain⟨Z,c3,c4,U,T⟩:=h.ct;have c8:=h.c8;have A1:=h.lt;have n0:¬w.1.size=rb:=ub;have n1:¬rb=w.1.size:=ub;rw[show rK st.tk.A=5 by rw[C];rfl]at Z;rw[show tkZ st=(st.B:Int) by unfold tkZ;rw[ak ub]]at c4;rw[show BS (tkS st)=⟨#[40]⟩ by unfold tkS rS;rw[ak ub,ak ub,C];rfl]at U;rw[show tkN st=st.tk.K by unfold tkN;rw[ak ub]]at T;have FR:=qd (h.fresh (Al #[I J 5,I J st.M,I J st.B,Y ⟨#[40]⟩,I J st.tk.K] 171));have M:=qd (h.alloc (Al #[I J 5,I J st.M,I J st.B,Y ⟨#[40]⟩,I J st.tk.K] 171));have Q6:=h.U.W ub;have HE:=qd E;have EE:=qd F;clear h E F;rcases vdo (s:=s) (fE:=fE) (n.symm ▸ J4:st.op<=12) with⟨c,f⟩|⟨S,⟨x,a,d,⟨o,f⟩|⟨u,f⟩⟩|⟨en,pl,d,f⟩⟩
 all_goals
  rw[f];clear f
  try(have HF:=qd d;clear d)
  go_enter func295,ntmps295
  go_wp2_with(first|(go_at_call 218;(first|(have _q:=c;refine(qdq M l c).mono ?_)|refine(qdr M l ub ub S).mono ?_);rintro e R⟨rfl,A,Q⟩;obtain⟨D,d,_,G1,hL⟩:=A.mine uc FR;have p3:Xc R w.1.size 3 (Y ⟨#[40]⟩):=(D 3).trans uc;have J8:=qd (yP A1 A);have N:=qd Q;clear A Q D d G1)|(go_at_call 95;(first|(have _q:=c;refine(EE _ _ _ _ _ N).mono ?_;rintro e w2⟨i,rfl,z,k⟩)|(refine(HE ub _ (kZ s st) ns (j+1) N (by show st.op+1=op+1;omega)).mono ?_;rintro e w2⟨z,v⟩;rw[q9 HF]at v;(first|(have _q:=en;obtain⟨i,rfl,k⟩:=v)|(obtain⟨new,rfl,k,Z9,U9,E6⟩:=v;(try have fO:=k.U.W (by rw[o];decide));have P4:=qd E6;clear E6))));have N7:=qd (J8.trans z);have q:=qd k;clear z k)|(go_at_call 264;(first|(have _q:=c;refine(qhk q ue).mono ?_)|(have _q:=en;refine(vfs q 27 rfl ue ue rfl ue ue).mono ?_)|(have _q:=o;refine(qhl q l 27 rfl ue ue rfl o).mono ?_)|refine(pF q l 27 rfl ue ue rfl u).mono ?_);rintro e w3⟨rfl,P,t⟩;have oB:=t.lt;obtain⟨H,dz⟩:=t.c7;have y:=qd (N7.trans P);have b:=qd t;clear P t;(first|rw[show(qh s a).op=op+1 from Z9]at H|rw[Z9]at H|skip)))
  go_ret
  first
   | (
    have _q:=c;refine⟨y.trans (b.b 12 12 rfl).2,i,rfl, ?_⟩;rw[<-n,c]
    exact(b.b 12 12 rfl).1.more ub)
   | (
    have _q:=o;refine⟨y.trans (b.b op _ ub).2,new,rfl, ?_,n, ?_,q9 P4⟩
    .rw[n]
     exact(b.b op _ ub).1.less ub
    .have:(kZ s st).M<=a.M:=U9
     have e:(kZ s st).M=(qh s st).M:=rfl;show st.M<=(qh s a).M
     omega)
   | exact⟨y.trans (b.b op _ ub).2,_,rfl,(b.b op _ ub).1.more ub⟩
theorem qhp(rb:Nat)(s:tq)(b:s.size<=200)(op m:Nat)(d:200<=m)(l:m<=900)(f:op<=12)(fS fE:St->Res)(i:op<12->RReads 295 rb s (op+1) m fS)(n:op<12->DReads 95 rb s (op+1) m fE)(k:xC 295 rb s)(o:xC 95 rb s):
  RReads 295 rb s op (m+1) (vY s fS fE):=by
 intro w st ns j h c;unfold vY
 split
 .rename_i a;exact qk8 (Am ⟨rfl,rfl,rfl,rfl⟩) rb s b op m d l f fS i k w st ns j h c a
 split
 .rename_i a;exact qk8 (An ⟨rfl,rfl,rfl,rfl⟩) rb s b op m d l f fS i k w st ns j h c a
 split
 .rename_i a;exact qtv rb s b op m d f fE n o w st ns j h c a
 split
 .rename_i a;exact xw (Am ⟨rfl,rfl,rfl,rfl,rfl,rfl⟩) rb s b op (m+1) w ns j h c a
 split
 .rename_i a;exact xw (An (Am ⟨rfl,rfl,rfl,rfl,rfl,rfl⟩)) rb s b op (m+1) w ns j h c a
 split
 .rename_i a;exact xw (An (An (Am ⟨rfl,rfl,rfl,rfl,rfl,rfl⟩))) rb s b op (m+1) w ns j h c a
 split
 .rename_i a;exact xw (An (An (An (Am ⟨rfl,rfl,rfl,rfl,rfl,rfl⟩)))) rb s b op (m+1) w ns j h c a
 split
 rename_i a;exact xw (An (An (An (An (⟨rfl,rfl,rfl,rfl,rfl,rfl⟩))))) rb s b op (m+1) w ns j h c a;exact qtw rb s b op (m+1) ub w st ns j h c ⟨by assumption,by assumption,by assumption,by assumption,by assumption,by assumption,by assumption,by assumption⟩
theorem qz2(rb:Nat)(s:tq)(t:s.size<=200)(op m:Nat)(hm:200<=m)(bZ:m<=900)(T:op<=12)(fS:St->Res)(D:op<12->DReads 190 rb s (op+1) m fS)(E:xC 190 rb s)(w:Ao)(st:St)(ns:List RN)(j:Nat)(h:RT w rb s ns j st)(l:st.op=op)(P:st.tk.A=7):
  ua 190 #[Ag (G ⟨rb,0,O⟩)] w (DEnds rb s w op (m+1) ns j st.M (vJ s fS 5 st)):=by
 obtain⟨_,c3,_⟩:=h.ct;have c8:=h.c8;have A1:=h.lt;have Z:(st.tk.A==7)=true:=by rw[P];rfl
 have Q6:=h.U.W ub;have H:=qd h;have U:=qd D;have ES:=qd E;clear h D E;rcases va8 (s:=s) (fS:=fS) (o:=5) (l.symm ▸ T:st.op<=12) with⟨b,n⟩|⟨M,⟨x,f,u,n⟩|⟨en,pl,u,n⟩⟩
 all_goals
  rw[n];clear n
  try(have Y:=qd u;clear u)
  go_enter func190,ntmps190
  go_wp2_with(first|(go_at_call 131;refine be (qr5 H 7 (X:=⟨#[78,79,84]⟩) rfl ue ue rfl) λw' hw'=>?_;subst w';rw[Z])|(go_at_call 218;(first|(have _q:=b;refine(qdq H t b).mono ?_)|refine(qdr H t ub ub M).mono ?_);rintro e w1⟨rfl,J,I⟩;have S:=qd J;have F:=qd I;clear J I)|(go_at_call 190;(first|(have _q:=b;refine(ES _ _ _ _ _ F).mono ?_;rintro e w2⟨i,rfl,A,d⟩)|(refine(U ub _ (kZ s st) ns (j+1) F (by show st.op+1=op+1;omega)).mono ?_;rintro e w2⟨A,v⟩;rw[q9 Y]at v;(first|(have _q:=en;obtain⟨i,rfl,d⟩:=v)|(obtain⟨new,rfl,d,Z9,U9,E6⟩:=v;have R:=qd E6;clear E6))));have J9:=d.lt;obtain⟨Q,dz⟩:=d.c7;(try rw[Z9]at Q);have z:=qd (S.trans A);have a:=qd d;clear A d)|(go_at_call 132;(first|(have _q:=b;refine(qf2 ((a.b 12 12 rfl).1) ub [78,79,84] st.M i rfl uc).mono ?_;rintro e C⟨N,rfl,c,q⟩;have k:=qd ((a.b 12 12 rfl).2.trans c))|(have _q:=en;refine(qti ((a.b op _ ub).1) ub [78,79,84] st.M i rfl uc).mono ?_;rintro e C⟨N,rfl,c,q⟩;have k:=qd ((a.b op _ ub).2.trans c))|(refine be (qyv ((a.b op _ ub).1) t ⟨5,st.M,0,[],[],[]⟩ (ns.length+new.length - 1) rfl rfl rfl rfl uc) ?_;rintro C⟨c,q⟩;have k:=qd ((a.b op _ ub).2.trans c)));have y:=qd q;clear c q))
  go_ret
  first
   | (
    have _q:=b;refine⟨z.trans k,_,rfl, ?_⟩;rw[<-l,b]
    exact Am (y.more ub))
   | (
    have _q:=en
    exact⟨z.trans k,_,rfl,y.more ui (by have e:(kZ s st).M=(qh s st).M:=rfl;omega)⟩)
   | (
    refine⟨z.trans k,_,jd uc, ?_,l, ?_,Flat.un _ R⟩
    .have:=q9 y
     rw[bu]at this;rw[l];exact this
    .have:(kZ s st).M<=f.M:=U9
     have e:(kZ s st).M=(qh s st).M:=rfl;show st.M<=f.M
     omega)
theorem qhf(rb:Nat)(s:tq)(o:s.size<=200)(op m:Nat)(q:200<=m)(u:m<=900)(x:op<=12)(d c:St->Res)(k:op<12->DReads 190 rb s (op+1) m d)(l:xC 190 rb s)(i:DReads 217 rb s op (m+1) c):
  DReads 190 rb s op (m+1) (jy s d c):=by
 intro w st ns j h f;unfold jy
 split
 rename_i b;exact qz2 rb s o op m q u x d k l w st ns j h f b;rename_i b;have A:(st.tk.A==7)=false:=bh.2 b;have y:=qd (i w st ns j h f);have H:=qd h;clear h i k l;go_enter func190,ntmps190
 go_wp2_with(first|(go_at_call 131;refine be (qr5 H 7 (X:=⟨#[78,79,84]⟩) rfl ue ue rfl) λw' hw'=>?_;subst w';rw[A])|(go_at_call 217;refine y.mono ?_;rintro e w2 a;have n:Hid (∃v,e=Ak v):=qd (by cases hf:c st with|ok t st'=>rw[hf]at a;obtain⟨_,_,rfl,_⟩:=a;exact⟨_,rfl⟩|err en pl=>rw[hf]at a;obtain⟨_,_,rfl,_⟩:=a;exact⟨_,rfl⟩);have z:=qd a;clear a;obtain⟨v,rfl⟩:=q9 n;clear n))
 go_ret;exact q9 z
theorem vp1{α:Type}(f:α->List Ap)(c:∀a,(f a).length=9):∀(l:List α) (i:Nat) (a:α),l[i]?=G a->∀k,k<9->(l.flatMap f)[i * 9+k]?=(f a)[k]?:=by
 intro l
 induction l with
 | nil=>intro i a h;simp at h
 | cons b l ih=>
  intro i a h k d;rw[dp]
  cases i with
  | zero=>
   simp at h;subst h;rw[cg (by rw[c];omega)];simp
  | succ i=>
   rw[da (by rw[c];omega),c,show(i+1) * 9+k - 9=i * 9+k by omega];exact ih i a (by simpa using h) k d
theorem NodesAt.opAt{c:Ap}(h:NodesAt w rb c ns){i:Nat}{n:RN}(f:ns[i]?=G n):∃g cap,c=C (G ⟨g,0,O⟩) ns.length cap/\w.cell? ⟨g,i * 9,O⟩=G (Y (BS n.op)):=by
 obtain⟨b,u,d,t⟩:=h;have y:=(aj.1 f).1;have o:=d;obtain⟨v,q|⟨g,cap,cur,rfl,_⟩⟩:=d;omega;refine⟨g,cap,rfl, ?_⟩;rw[o.cellAt (i * 9) ub];obtain⟨r,l⟩:∃r,b[i]?=G r:=⟨b[i],ag ub⟩;have k:(ns.zip b)[i]?=G (n,r):=by rw[sf];exact⟨f,l⟩
 have:=vp1 (λx:RN×(Ap×Ap)=>gm x.1 x.2.1 x.2.2) (λa=>rfl) (ns.zip b) i (n,r) k 0 ub;rw[sd]at this;rw[this];rfl
theorem xd(o:Int):(qH o==[110,97,109,101])=(o==0):=by
 by_cases h:o=0
 subst h;rfl;rw[show(o==0)=false from bh.2 h,bh]
 by_cases hr:1<=o/\o<=22
 .have hd:∀i:Fin 22,qH (1+(i.val:Int))≠[110,97,109,101]:=by decide +kernel
  have:=hd ⟨(o - 1).toNat,ub⟩;rwa [show(1:Int)+(((o - 1).toNat:Nat):Int)=o by omega]at this
 unfold qH;rw[ak h]
 iterate 22 rw[ak ub]
 decide
theorem qj0(l:List RN)(n:RN):(l++[n])[(l++[n]).length - 1]?=G n:=uc
theorem Flat.last{t:Ast}{off:Nat}{l:List RN}(h:Flat t off l):∃n,l[l.length - 1]?=G n/\(n.op==[110,97,109,101])=(opA t==0):=by
 cases h with
 | leaf p=>exact⟨_,rfl,xd _⟩
 | un p h=>exact⟨_,qj0 _ _,xd _⟩
 | bin p h1 h2=>exact⟨_,qj0 _ _,xd _⟩
 | tri p h1 h2 h3=>exact⟨_,qj0 _ _,xd _⟩
 | neg1 pl q hq h=>exact⟨_,qj0 _ _,(xd _).trans (by rcases hq with e|e|e<;>rw[e]<;>rfl)⟩
 | neg3 pl q hq h1 h2 h3=>exact⟨_,qj0 _ _,(xd _).trans (by rw[hq];rfl)⟩
theorem RT.opAt{new:List RN}(h:RT w rb s (ns++new) j st){l:Ast}(a:Flat l ns.length new)(q:ns.length+new.length - 1=i0):
  ∃g cap LN N,Xc w rb 0 (C (G ⟨g,0,O⟩) LN cap)/\i0<LN/\Xc w g (i0 * 9) (Y N)/\(N.toList==[110,97,109,101])=(opA l==0):=by
 obtain⟨o,f,i,_⟩:=h;obtain⟨n,b,k⟩:=a.last;have hp:=a.pos
 have c:(ns++new)[i0]?=G n:=by
  rw[da ub,show i0 - ns.length=new.length - 1 by omega];exact b
 obtain⟨g,cap,rfl,d⟩:=i.opAt c;exact⟨g,cap,_,_,f.c0,ud,d,by rw[qP];exact k⟩
theorem vsg(k:Int):(rK k==2)=(k==2):=by
 rw[lw,ew,ew];unfold rK
 split
 rfl
 split<;>omega
theorem REnds.from{w2:Ao}(h:REnds rb s w2 op m ns j lo r e w')(b:TKept rb w w2)(a:lo'<=lo):REnds rb s w op m ns j lo' r e w':=by
 have h:=h.more (ae m) a;exact⟨b.trans h.1,h.2⟩
theorem REnds.ret(h:REnds rb s w op m ns j lo r e w'):∃v,e=Ak v:=by
 cases r with
 | ok t st=>obtain⟨_,_,rfl,_⟩:=h;exact⟨_,rfl⟩
 | err en pl=>obtain⟨_,_,rfl,_⟩:=h;exact⟨_,rfl⟩
theorem qt5(pl:Int)(r:Res):vee false pl r=r:=by cases r<;>rfl
structure T1(rb:Nat)(s:ByteArray)(op m:Nat)(f:St->Res)(w:Ao)(st:St)(ns:List RN)(j:Nat)(l:Ast)(A6:St):Prop where
 hs:s.size<=200
 m1:200<=m
 m2:m<=900
 f1:RReads 238 rb s op m f
 es:xC 238 rb s
 rt:RT w rb s ns j st
 op:st.op=op
 res:f st=.ok l A6
theorem qzr(rb:Nat)(s:tq)(op m:Nat)(f:St->Res)(w:Ao)(st:St)(ns:List RN)(j:Nat)(l:Ast)(a:St)(T:T1 rb s op m f w st ns j l a)(hk:16<=a.tk.A/\a.tk.A<=21):
  ua 217 #[Ag (G ⟨rb,0,O⟩)] w (DEnds rb s w op (m+1) ns j st.M (jJ s f a l)):=by
 obtain⟨hs,hm,bZ,hf,eS,h,ho,A9⟩:=T;obtain⟨k2,_⟩:=h.ct;have A1:=h.lt;have HC:=qd (hf w st ns j h ho);have HF:=qd hf;have ES:=qd eS;have L4:=qd A9;obtain⟨b0,G0⟩:∃b:Bool,(opA l==0)=b:=⟨_,rfl⟩;have fJ:=qd G0;have cB:decide (16<=a.tk.A/\a.tk.A<=21)=true:=di hk;have F:BS (qH (qef a.tk.A))=BS (tkS a):=by rw[qjj (An (An ⟨hk.1,ub⟩)),vax ub]
 have HNM:=qd F;clear F;clear h hf eS A9 G0
 cases hres2:f (qh s a) with
 | ok r L0=>
  rw[gP hres2];have rI:=qd hres2;clear hres2;rcases(show(rK st.tk.A==2)=true\/(rK st.tk.A==2)=false by cases (rK st.tk.A==2)<;>simp) with q2|q2
  all_goals
   go_enter func217,ntmps217
   go_wp2_with(first|(go_at_call 238;refine(HF _ (qh s a) (ns++new) (j+1) P0 Q8).mono ?_;rintro e C⟨u,H⟩;rw[q9 rI]at H;obtain⟨fK,n,R,JR,FX,oJ⟩:=H;obtain⟨i2,fX⟩:∃k:Nat,(ns++new).length+fK.length - 1=k:=⟨_,rfl⟩;rw[fX]at n;subst n;have HI2:=qd fX;have EZ:=qd oJ;clear fX oJ;have o:=(q9 iP).T u;have x1:Xc C c.1.size 1 (I J a.M):=o.cell 1;have x3:Xc C c.1.size 3 (Y (BS (tkS a))):=o.cell 3;have bP:=qd (R8.trans u);have bN:=qd R;clear u R o)|(go_at_call 238;refine HC.mono ?_;rintro e c⟨Z,M⟩;rw[q9 L4]at M;obtain⟨new,n,d,Q8,T8,x⟩:=M;obtain⟨i0,i⟩:∃k:Nat,ns.length+new.length - 1=k:=⟨_,rfl⟩;rw[i]at n;subst n;obtain⟨gN,capN,LN,N,WV,eV,cN,DP⟩:=d.opAt x i;rw[q9 fJ]at DP;have c8:=d.c8;obtain⟨t2,t3,t4,t5,t6⟩:=d.ct;have dW:=d.lt;have nL:¬rb=c.1.size:=ub;have nL':¬c.1.size=rb:=ub;have sC:gN<c.1.size:=mq c _ cN;have cH:=qd i;have v:=qd d;have J8:=qd Z;have P4:=qd x;clear Z d x i)|(go_at_call 239;refine be (xO _ _ _ _ _ _) λw2 A=>?_;rw[kj a,cB];have D:=VN.new v 171 #[I J (rK a.tk.A),I J a.M,I J (tkZ a),Y (BS (tkS a)),I J (tkN a)] rfl;have q:=(q9 v).alloc (Al #[I J (rK a.tk.A),I J a.M,I J (tkZ a),Y (BS (tkS a)),I J (tkN a)] 171);have t:=TKept.of_below A q.lt;have E:=D.T t;have z:=q.below A;have U:=(J8.alloc A1 (Al #[I J (rK a.tk.A),I J a.M,I J (tkZ a),Y (BS (tkS a)),I J (tkN a)] 171)).trans t;have J9:=z.lt;have rE:=qd E;have J0:=qd z;have N7:=qd U;clear A D q t E z U)|(go_at_call 94;refine be (jG J0 hs ub ub) ?_;rintro w3⟨y,S⟩;have bR:=(q9 v).U.W ub;have iP:=qd (rE.T y);have R8:=qd (N7.trans y);have P0:=qd S;clear y S)|(go_at_call 132;refine be (qh9 bN hs ⟨qef a.tk.A,a.M,0,[],[],[]⟩ i0 i2 HNM rfl rfl rfl uc) ?_;rintro w5⟨Q,P⟩;have r9:=qd (bP.trans Q);have aJ:=qd P;clear Q P))
   go_ret;refine⟨q9 r9,new++fK++[jC ⟨qef a.tk.A,a.M,0,[],[],[]⟩ [ns.length+new.length - 1,ns.length+new.length+fK.length - 1] false],jd ud, ?_,JR,ub,Flat.bin _ P4 (by have:=q9 EZ;rwa [ce]at this)⟩;have:=q9 aJ;rw[<-q9 cH,<-q9 HI2,ce]at this;simpa only[bu]using this
 | err en pl=>
  rw[kr hres2];have rI:=qd hres2;clear hres2;rcases(show(rK st.tk.A==2)=true\/(rK st.tk.A==2)=false by cases (rK st.tk.A==2)<;>simp) with q2|q2
  all_goals
   go_enter func217,ntmps217
   go_wp2_with(first|(go_at_call 238;refine(HF _ (qh s a) (ns++new) (j+1) P0 Q8).mono ?_;rintro e C⟨u,H⟩;rw[q9 rI]at H;obtain⟨i2,rfl,R⟩:=H;have o:=(q9 iP).T u;have x1:Xc C c.1.size 1 (I J a.M):=o.cell 1;have x3:Xc C c.1.size 3 (Y (BS (tkS a))):=o.cell 3;have bP:=qd (R8.trans u);have bN:=qd R;clear u R o)|(go_at_call 238;refine HC.mono ?_;rintro e c⟨Z,M⟩;rw[q9 L4]at M;obtain⟨new,n,d,Q8,T8,x⟩:=M;obtain⟨i0,i⟩:∃k:Nat,ns.length+new.length - 1=k:=⟨_,rfl⟩;rw[i]at n;subst n;obtain⟨gN,capN,LN,N,WV,eV,cN,DP⟩:=d.opAt x i;rw[q9 fJ]at DP;have c8:=d.c8;obtain⟨t2,t3,t4,t5,t6⟩:=d.ct;have dW:=d.lt;have nL:¬rb=c.1.size:=ub;have nL':¬c.1.size=rb:=ub;have sC:gN<c.1.size:=mq c _ cN;have cH:=qd i;have v:=qd d;have J8:=qd Z;have P4:=qd x;clear Z d x i)|(go_at_call 239;refine be (xO _ _ _ _ _ _) λw2 A=>?_;rw[kj a,cB];have D:=VN.new v 171 #[I J (rK a.tk.A),I J a.M,I J (tkZ a),Y (BS (tkS a)),I J (tkN a)] rfl;have q:=(q9 v).alloc (Al #[I J (rK a.tk.A),I J a.M,I J (tkZ a),Y (BS (tkS a)),I J (tkN a)] 171);have t:=TKept.of_below A q.lt;have E:=D.T t;have z:=q.below A;have U:=(J8.alloc A1 (Al #[I J (rK a.tk.A),I J a.M,I J (tkZ a),Y (BS (tkS a)),I J (tkN a)] 171)).trans t;have J9:=z.lt;have rE:=qd E;have J0:=qd z;have N7:=qd U;clear A D q t E z U)|(go_at_call 94;refine be (jG J0 hs ub ub) ?_;rintro w3⟨y,S⟩;have bR:=(q9 v).U.W ub;have iP:=qd (rE.T y);have R8:=qd (N7.trans y);have P0:=qd S;clear y S)|(go_at_call 132;refine(qdo bN ub (tkS a) a.M i0 i2 rfl uc).mono ?_;rintro e w5⟨i5,rfl,Q,P⟩;have r9:=qd (bP.trans Q);have aJ:=qd P;clear Q P))
   go_ret;exact⟨q9 r9,i5,rfl,Am aJ⟩
end Go.Proofs.YtdmmmgodfceilaaGreatDoor
