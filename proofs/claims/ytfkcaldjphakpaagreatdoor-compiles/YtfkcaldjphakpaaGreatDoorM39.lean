/- Rows of one's own. -/
import Derived.Test.YtfkcaldjphakpaaGreatDoorM26
import Derived.Test.YtfkcaldjphakpaaGreatDoorM42
import Derived.OwnWalk
set_option maxHeartbeats 16000000
set_option maxRecDepth 100000
namespace Go.Proofs.YtfkcaldjphakpaaGreatDoor
open Go.RowKit Go.Proofs.Tryz
section
theorem own_put{w:World}{base e g n cap:Nat}{xs:List Value}(h:w.ownsRow base e 1 (.slice (some ⟨g,0,none⟩) n cap) n xs)(j:Nat)(x:Value):(w.setCell ⟨g,j,none⟩ x).ownsRow base e 1 (.slice (some ⟨g,0,none⟩) n cap) n (xs.set j x):=by
 rcases h.2 with⟨hv,_⟩|⟨g',cap',cur,hv,hb,hg,t7,mA,O5,ht⟩
 ·cases hv
 ·cases hv
  refine⟨by rw[List.length_set];exact h.1,.inr ⟨g,cap,cur.setIfInBounds j x,rfl,hb, ?_,t7,mA,by simpa using O5, ?_⟩⟩
  ·simp[World.setCell,Array.getElem?_modify,hg]
  ·rw[Array.toList_setIfInBounds,List.take_set,ht]
theorem adr0(g k:Nat):(⟨g,0,none⟩:Addr).add k=⟨g,k,none⟩:=by
 cases k with
 | zero=>rfl
 | succ k=>simp[Addr.add]
theorem own_old{w w':World}{base e:Nat}{t ty:TypeId}{i:TypeInfo}{z:Value}{bytes:Nat}(ht:prog.underlying t=some (.slice e))(hi:prog.info? e=some i)(hz:i.zero=some z)(T0:i.size=1)(hby:i.bytes=bytes)
  {v v':Value} {n:Nat} {xs:List Value} {x:Value} (C2:w.ownsRow base e 1 v n xs) {H:Nat} (hx:w.cell? ⟨H,0,none⟩=some x) (h1:x.oneCell'=true) (hb:(n+1) * bytes<=140737488355328) (hn:n+1<=9223372036854775807)
  (O7:(Builtin.append_ #[t,t] ty #[v,.slice (some ⟨H,0,none⟩) 1 1]).run prog w=.ok v' w') :
  ∀(g:Nat),v.ownBlock=some g->(∃cur,w'.heap[g]?=some (.cells cur e (0,0)))/\∀j,w.cell? ⟨g,j,none⟩=some x->w'.cell? ⟨g,j,none⟩=some x:=by
 intro g hg;have lK:=C2.1;rcases C2.2 with⟨rfl,_⟩|⟨g',cap,cur,rfl,K7,J1,t7,mA,O5,iY⟩
 ·cases hg
 obtain rfl:g'=g:=by simpa [Value.ownBlock]using hg
 have lU:∀k y,[x][k]?=some y->w.cell? ((⟨H,0,none⟩:Addr).add k)=some y:=λk y hk=>by
  cases k with
  | zero=>simp at hk;subst hk;rw[adr0];exact hx
  | succ k=>simp at hk
 have J9:∀{W:World} {c:Array Value} (k:Nat),W.heap[g']?=some (.cells c e (0,0))->W.cell? ⟨g',k,none⟩=c[k]?:=λk h=>by simp[World.cell?,h]
 by_cases hroom:n+1<=cap
 ·have hr:=run_append_room (P:=prog) w t ty e i ht hi g' n cap cur J1 ⟨H,0,none⟩ 1 1 [x] (by rw[T0];rfl) lU (λy hy=>by rw[List.mem_singleton.1 hy];exact h1) hroom (by rw[T0,O5];simp;omega)
  rw[O7]at hr;injection hr with e1 e2;refine⟨⟨_,by rw[e2];exact setRow_heap w g' cur _ e _ J1⟩,λj hu=>?_⟩;rw[e2,J9 j (setRow_heap w g' cur _ e _ J1)];rw[J9 j J1]at hu;rw[T0,Nat.mul_one,List.getElem?_toArray];have FG:j<cur.size:=(Array.getElem?_eq_some_iff.1 hu).1;have EL:cur.toList[j]?=some x:=by rw[Array.getElem?_toList];exact hu
  rcases Nat.lt_trichotomy j n with h|h|h
  ·rw[List.append_assoc,List.getElem?_append_left (by rw[List.length_take];simp;omega),List.getElem?_take_of_lt h];exact EL
  ·subst h
   rw[List.append_assoc,List.getElem?_append_right (by rw[List.length_take];omega),List.length_take,show j - min j cur.toList.length=0 by simp;omega];rfl
  ·rw[List.getElem?_append_right (by simp;omega)]
   rw[List.getElem?_drop,show n+[x].length+(j - (cur.toList.take n++[x]).length)=j by simp;omega];exact EL
 ·have hr:=run_append_grow (P:=prog) w t ty e i z ht hi hz ⟨g',0,none⟩ n cap xs (by rw[T0];exact lK) (λk y hk=>C2.cells (g:=g') rfl k y hk) ⟨H,0,none⟩ 1 1 [x] (by rw[T0];rfl) lU (by omega) (by omega) (growslice_fits (by omega) (by rw[hby];exact hb))
  rw[O7]at hr;injection hr with e1 e2;have hl:g'<w.heap.size:=(Array.getElem?_eq_some_iff.1 J1).1;refine⟨⟨cur,by rw[e2];exact(heap_alloc_old w.drew _ hl).trans J1⟩,λj hu=>?_⟩;rw[e2];rw[World.cell?_of_block (w:=w) (a:=⟨g',j,none⟩) (heap_alloc_old w.drew _ hl)];exact hu
end
section
structure FmAt(base:Nat)(W:World)(gb m:Nat)(nv bv:Value)(nn bn:Nat)(nxs bxs:List Value):Prop where
 lo:base<=gb
 ty:∃cur,W.heap[gb]?=some (.cells cur 146 (0,0))
 c0:W.cell? ⟨gb,0,none⟩=some nv
 c1:W.cell? ⟨gb,1,none⟩=some bv
 c2:W.cell? ⟨gb,2,none⟩=some (.int .i64 (m:Int))
 fz:∀i,W.frozen? ⟨gb,i,none⟩=false
 nr:W.ownsRow base 3 1 nv nn nxs
 br:W.ownsRow base 5 1 bv bn bxs
 nd:nv.ownBlock≠some gb
 bd:bv.ownBlock≠some gb
 nb:∀k,nv.ownBlock=some k->bv.ownBlock≠some k
structure MrkAt(base:Nat)(W W':World)(nv bv:Value):Prop where
 bel:Below base W W'
 size:W'.heap.size=W.heap.size
 block:∀b,nv.ownBlock≠some b->bv.ownBlock≠some b->W'.heap[b]?=W.heap[b]?
section
variable {base:Nat} {W W' W2:World} {gb m nn bn:Nat} {nv bv x:Value} {nxs bxs:List Value}
theorem FmAt.lt(h:FmAt base W gb m nv bv nn bn nxs bxs):gb<W.heap.size:=by
 obtain⟨c,hc⟩:=h.ty;exact vb4 hc
theorem MrkAt.refl:MrkAt base W W nv bv:=⟨Below.refl _ _,rfl,λ_ _ _=>rfl⟩
theorem FmAt.setN{g cap j:Nat}(h:FmAt base W gb m (.slice (some ⟨g,0,none⟩) nn cap) bv nn bn nxs bxs)(x:Value):FmAt base (W.setCell ⟨g,j,none⟩ x) gb m (.slice (some ⟨g,0,none⟩) nn cap) bv nn bn (nxs.set j x) bxs:=by
 have C1:gb≠g:=λe=>h.nd (by simp[Value.ownBlock,e])
 have hb:(W.setCell ⟨g,j,none⟩ x).heap[gb]?=W.heap[gb]?:=Below.heap_setCell _ ⟨g,j,none⟩ _ gb C1;have hc:∀i,(W.setCell ⟨g,j,none⟩ x).cell? ⟨gb,i,none⟩=W.cell? ⟨gb,i,none⟩:=λi=>World.cell?_of_block (w:=W) (a:=⟨gb,i,none⟩) hb
 obtain⟨cur,J9⟩:=h.ty;refine⟨h.lo,⟨cur,hb.trans J9⟩,(hc 0).trans h.c0,(hc 1).trans h.c1,(hc 2).trans h.c2,λi=>(World.frozen?_of_block (w:=W) (a:=⟨gb,i,none⟩) hb).trans (h.fz i),own_put h.nr j x, ?_,h.nd,h.bd,h.nb⟩;refine qe7 h.br λk hk=>Below.heap_setCell _ ⟨g,j,none⟩ _ k (λe=>h.nb g rfl (by have e:k=g:=e;rw[←e];exact hk))
theorem FmAt.setB{g cap j:Nat}(h:FmAt base W gb m nv (.slice (some ⟨g,0,none⟩) bn cap) nn bn nxs bxs)(x:Value):FmAt base (W.setCell ⟨g,j,none⟩ x) gb m nv (.slice (some ⟨g,0,none⟩) bn cap) nn bn nxs (bxs.set j x):=by
 have C1:gb≠g:=λe=>h.bd (by simp[Value.ownBlock,e])
 have hb:(W.setCell ⟨g,j,none⟩ x).heap[gb]?=W.heap[gb]?:=Below.heap_setCell _ ⟨g,j,none⟩ _ gb C1;have hc:∀i,(W.setCell ⟨g,j,none⟩ x).cell? ⟨gb,i,none⟩=W.cell? ⟨gb,i,none⟩:=λi=>World.cell?_of_block (w:=W) (a:=⟨gb,i,none⟩) hb
 obtain⟨cur,J9⟩:=h.ty;refine⟨h.lo,⟨cur,hb.trans J9⟩,(hc 0).trans h.c0,(hc 1).trans h.c1,(hc 2).trans h.c2,λi=>(World.frozen?_of_block (w:=W) (a:=⟨gb,i,none⟩) hb).trans (h.fz i), ?_,own_put h.br j x,h.nd,h.bd,h.nb⟩;refine qe7 h.nr λk hk=>Below.heap_setCell _ ⟨g,j,none⟩ _ k (λe=>h.nb k hk (by have e:k=g:=e;rw[e];rfl))
theorem MrkAt.set{g j:Nat}(h:MrkAt base W W' nv bv)(hg:base<=g)(hv:nv.ownBlock=some g\/bv.ownBlock=some g)(x:Value):MrkAt base W (W'.setCell ⟨g,j,none⟩ x) nv bv:=
 ⟨h.bel.setCell hg _,by rw[World.size_setCell];exact h.size,λb h1 h2=>(Below.heap_setCell _ ⟨g,j,none⟩ _ b (λe=>by rcases hv with hv|hv;exact h1 (e ▸ hv);exact h2 (e ▸ hv))).trans (h.block b h1 h2)⟩
theorem FmAt.drew(h:FmAt base W gb m nv bv nn bn nxs bxs):FmAt base W.drew gb m nv bv nn bn nxs bxs:=⟨h.lo,h.ty,h.c0,h.c1,h.c2,h.fz,h.nr,h.br,h.nd,h.bd,h.nb⟩
theorem MrkAt.drew(h:MrkAt base W W' nv bv):MrkAt base W W'.drew nv bv:=⟨h.bel.drew,h.size,h.block⟩
theorem js6{k:Nat}{x:Value}{xs:List Value}(h:k<xs.length):(List.replicate k x++xs.drop k).set k x=List.replicate (k+1) x++xs.drop (k+1):=by
 rw[List.set_append_right _ _ (by simp),List.length_replicate,Nat.sub_self,List.drop_eq_getElem_cons h,List.set_cons_zero,List.replicate_succ',List.append_assoc];rfl
end
theorem marks_any{base:Nat}{W:World}{gb m nn bn:Nat}{nv bv:Value}{nxs bxs:List Value}(h:FmAt base W gb m nv bv nn bn nxs bxs)(hm:m<=10000000000000)(nH:nn<=1000000000)(jF:bn<=1000000000):
  Calls prog 128 #[.pointer (some ⟨gb,0,none⟩)] W λe W'=>e=.returned (.tuple #[])/\FmAt base W' gb m nv bv nn bn (List.replicate nn (vn1 m)) (List.replicate bn (vk1 m))/\MrkAt base W W' nv bv:=by
 have I0:nxs.length=nn:=by have:=h.nr.1;omega
 have eQ:bxs.length=bn:=by have:=h.br.1;omega
 have yC:∃a c,nv=.slice a nn c:=by
  rcases h.nr.2 with⟨rfl,h0⟩|⟨g,cap,cur,rfl,_⟩
  ·exact⟨none,0,by rw[h0]⟩
  ·exact⟨_,_,rfl⟩
 have zE:∃a c,bv=.slice a bn c:=by
  rcases h.br.2 with⟨rfl,h0⟩|⟨g,cap,cur,rfl,_⟩
  ·exact⟨none,0,by rw[h0]⟩
  ·exact⟨_,_,rfl⟩
 obtain⟨na,nc,rfl⟩:=yC;obtain⟨ba,bc,rfl⟩:=zE
 have hw:IntKind.i64.wrap (-1099511627776 - (m:Int))=-1099511627776 - (m:Int):=by
  have oA:IntKind.i64.bits=64:=rfl;have mY:IntKind.i64.signed=true:=rfl;simp[IntKind.wrap,oA,mY];omega
 have HF:=j3 h;clear h;go_enter func128,ntmps128
 go_wp2_with fail
 go_loopw [2] (λi wr=>∃k:Nat,k<=nn/\i=.int .i64 k/\Hid (FmAt base wr gb m (.slice na nn nc) (.slice ba bn bc) nn bn (List.replicate k (vn1 m)++nxs.drop k) bxs)/\Hid (MrkAt base W wr (.slice na nn nc) (.slice ba bn bc))) (λi _=>nn - (intOf i).toNat)
 case atStart=>exact⟨0,Nat.zero_le _,rfl,HF,j3 MrkAt.refl⟩
 case round=>
  clear HF;obtain⟨k,hk,rfl,HF,HM⟩:=hrel;have g0:=(q9 HF).c0;have g1:=(q9 HF).c1;have g2:=(q9 HF).c2;have A1:=(q9 HF).lt
  by_cases hl:k<nn
  ·have C1:(List.replicate k (vn1 m)++nxs.drop k).length=nn:=by simp;omega
   rcases(q9 HF).nr.2 with⟨_,h0⟩|⟨g,cap',cur,hv,K7,J1,t7,_,O5,iY⟩
   ·omega
   injection hv with hv _ G5;subst hv G5;have sI:g<wr.heap.size:=(Array.getElem?_eq_some_iff.1 J1).1;obtain⟨v0,q0⟩:∃v0,wr.cell? ⟨g,k,none⟩=some v0:=⟨_,World.ownsRow.cellAt (q9 HF).nr k (by omega) |>.trans (List.getElem?_eq_getElem (by omega))⟩;have qz:wr.frozen? ⟨g,k,none⟩=false:=by simp[World.frozen?,J1]
   have ngb:¬gb=g:=λe=>(q9 HF).nd (by rw[e];rfl)
   have ngc:¬g=gb:=λe=>ngb e.symm
   have R0:(0:Int)<=(k:Int):=by omega
   have A0:(k:Int)<(nn:Int):=by omega
   have bR:=j3 ((q9 HF).setN (j:=k) (vn1 m)).drew;rw[js6 (by omega)]at bR;have dR:=j3 ((q9 HM).set (j:=k) K7 (.inl rfl) (vn1 m)).drew;clear J1 O5 iY C1
   go_wp2_with fail
   go_region_held3 (λW=>W.cell? ⟨gb,0,none⟩=some (.slice (some ⟨g,0,none⟩) nn nc)/\W.cell? ⟨gb,2,none⟩=some (.int .i64 (m:Int))) (first|with_reducible assumption|go_keep) (fail)
   go_wp2_with fail
   go_roundw
   case rel=>exact⟨k+1,hl,by go_num,bR,dR⟩
   case measure=>simp[intOf];omega
  ·have Y9:¬(k:Int)<(nn:Int):=by omega
   have t9:List.replicate k (vn1 m)++nxs.drop k=List.replicate nn (vn1 m):=by rw[show k=nn by omega,List.drop_of_length_le (by omega),List.append_nil]
   rw[t9]at HF;clear t9
   go_wp2_with fail
   clear g0 g1 g2 A1
   go_loopw [3] (λi wr=>∃k:Nat,k<=bn/\i=.int .i64 k/\Hid (FmAt base wr gb m (.slice na nn nc) (.slice ba bn bc) nn bn (List.replicate nn (vn1 m)) (List.replicate k (vk1 m)++bxs.drop k))/\Hid (MrkAt base W wr (.slice na nn nc) (.slice ba bn bc))) (λi _=>bn - (intOf i).toNat)
   case atStart=>exact⟨0,Nat.zero_le _,rfl,HF,HM⟩
   case round=>
    clear HF HM hk hl Y9;obtain⟨k,hk,rfl,HF,HM⟩:=hrel;have g0:=(q9 HF).c0;have g1:=(q9 HF).c1;have g2:=(q9 HF).c2;have A1:=(q9 HF).lt
    by_cases hl:k<bn
    ·have C1:(List.replicate k (vk1 m)++bxs.drop k).length=bn:=by simp;omega
     rcases(q9 HF).br.2 with⟨_,h0⟩|⟨g,cap',cur,hv,K7,J1,t7,_,O5,iY⟩
     ·omega
     injection hv with hv _ G5;subst hv G5;have sI:g<wr.heap.size:=(Array.getElem?_eq_some_iff.1 J1).1;obtain⟨v0,q0⟩:∃v0,wr.cell? ⟨g,k,none⟩=some v0:=⟨_,World.ownsRow.cellAt (q9 HF).br k (by omega) |>.trans (List.getElem?_eq_getElem (by omega))⟩;have qz:wr.frozen? ⟨g,k,none⟩=false:=by simp[World.frozen?,J1]
     have ngb:¬gb=g:=λe=>(q9 HF).bd (by rw[e];rfl)
     have ngc:¬g=gb:=λe=>ngb e.symm
     have R0:(0:Int)<=(k:Int):=by omega
     have A0:(k:Int)<(bn:Int):=by omega
     have bR:=j3 ((q9 HF).setB (j:=k) (vk1 m)).drew;rw[js6 (by omega)]at bR;have dR:=j3 ((q9 HM).set (j:=k) K7 (.inr rfl) (vk1 m)).drew;clear J1 O5 iY C1
     go_wp2_with fail
     go_region_held3 (λW=>W.cell? ⟨gb,1,none⟩=some (.slice (some ⟨g,0,none⟩) bn bc)/\W.cell? ⟨gb,2,none⟩=some (.int .i64 (m:Int))) (first|with_reducible assumption|go_keep) (fail)
     go_wp2_with fail
     go_roundw
     case rel=>exact⟨k+1,hl,by go_num,bR,dR⟩
     case measure=>simp[intOf];omega
    ·have Y9:¬(k:Int)<(bn:Int):=by omega
     have t9:List.replicate k (vk1 m)++bxs.drop k=List.replicate bn (vk1 m):=by rw[show k=bn by omega,List.drop_of_length_le (by omega),List.append_nil]
     rw[t9]at HF;clear t9
     go_wp2_with fail
     first
      | exact⟨rfl,q9 HF,q9 HM⟩
      | (go_end0;exact⟨rfl,q9 HF,q9 HM⟩)
end
section
attribute [local go_sem ↓] qe4
theorem info_u8R:(prog.info? 5).map (λi=>(i.zero,i.size,i.bytes))=some (some (.int .u8 0),1,1):=by kernel_rfl
structure RoAt(base:Nat)(e:TypeId)(W W5:World)(v:Value)(g:Nat)(x:Value):Prop where
 bel:Below base W W5
 block:∀b,b<W.heap.size->v.ownBlock≠some b->W5.heap[b]?=W.heap[b]?
 at':v.ownBlock=some g\/W.heap.size<g
 old:∀b,v.ownBlock=some b->(∃cur,W5.heap[b]?=some (.cells cur e (0,0)))/\∀j,W.cell? ⟨b,j,none⟩=some x->W5.cell? ⟨b,j,none⟩=some x
 size:W.heap.size<W5.heap.size
theorem row_app{W:World}{base n bytes:Nat}{v x z:Value}{xs:List Value}{T e:TypeId}{i0:TypeInfo}(hu:prog.underlying T=some (.slice e))(hi:prog.info? e=some i0)(I8:i0.zero=some z)(C8:i0.size=1)(F8:i0.bytes=bytes)(vA:z.cells.size=1)(h:W.ownsRow base e 1 v n xs)(hb:base<=W.heap.size)(iW:x.oneCell'=true)(hn:n<=10000000000000)(aU:(n+1) * bytes<=140737488355328)(H:Nat)(hH:W.heap.size=H):
  ∃g cap w5,(vz2 #[T,T] T #[v,.slice (some ⟨H,0,none⟩) 1 1]).run prog (W.alloc (.cells #[x] e)).drew=.ok (.slice (some ⟨g,0,none⟩) (n+1) cap) w5/\Hid (w5.ownsRow base e 1 (.slice (some ⟨g,0,none⟩) (n+1) cap) (n+1) (xs++[x]))/\Hid (RoAt base e W w5 v g x):=by
 subst hH;have ha:(W.alloc (.cells #[x] e)).drew.ownsRow base e 1 v n xs:=World.ownsRow.alloc h (.cells #[x] e);have lL:(W.alloc (.cells #[x] e)).drew.cell? ⟨W.heap.size,0,none⟩=some x:=by show(W.alloc (.cells #[x] e)).cell? _=_;simp
 have cI:(W.alloc (.cells #[x] e)).drew.heap.size=W.heap.size+1:=by show(W.alloc (.cells #[x] e)).heap.size=_;simp
 obtain⟨g,cap,w5,hr,C2,B7,F0,kF⟩:=run_append_lies (P:=prog) (W.alloc (.cells #[x] e)).drew T T base e i0 z 1 bytes hu hi I8 C8 F8 vA (by omega) v n _ ha
  ⟨W.heap.size,0,none⟩ 1 1 [x] rfl (World.news_of_block (cs:=#[x]) (t:=e) (fr:=(0,0)) (heap_alloc_new W _)) (by simpa using iW) (by omega) (by unfold maxLen;omega) aU (by omega) _ rfl
 have hs:=B7.size;refine⟨g,cap,w5,hr,j3 C2,j3 ⟨Go.RowKit.Below.grown (((Below.refl base W).alloc hb _).drew) B7 (by omega) (λk hk=>(ha.lt k hk).1),λb T9 C1=>(B7.block b (by omega) (λe=>C1 e.symm)).trans (((Below.refl W.heap.size W).alloc (Nat.le_refl _) _).block b T9), ?_,λb hv=>?_,by omega⟩⟩
 ·rcases F0 with h|h
  ·exact .inl h
  ·right;rw[h];omega
 ·have hl:=(h.lt b hv).2
  obtain⟨h1,h2⟩:=own_old hu hi I8 C8 F8 ha lL iW aU (by omega) hr b hv;exact⟨h1,λj hc=>h2 j ((World.cell?_of_block (w:=W) (a:=⟨b,j,none⟩) (((Below.refl W.heap.size W).alloc (Nat.le_refl _) _).block b hl)).trans hc)⟩
theorem row_app0{W:World}{base n bytes:Nat}{v x z:Value}{xs:List Value}{T e:TypeId}{i0:TypeInfo}(hu:prog.underlying T=some (.slice e))(hi:prog.info? e=some i0)(I8:i0.zero=some z)(C8:i0.size=1)(F8:i0.bytes=bytes)(vA:z.cells.size=1)(h:W.ownsRow base e 1 v n xs)(hb:base<=W.heap.size)(iW:x.oneCell'=true)(hn:n<=10000000000000)(aU:(n+1) * bytes<=140737488355328)(H:Nat)(hH:W.heap.size=H):
  ∃g cap w5,(vz2 #[T,T] T #[v,.slice (some ⟨H,0,none⟩) 1 1]).run prog (W.alloc (.cells #[x] e))=.ok (.slice (some ⟨g,0,none⟩) (n+1) cap) w5/\Hid (w5.ownsRow base e 1 (.slice (some ⟨g,0,none⟩) (n+1) cap) (n+1) (xs++[x]))/\Hid (RoAt base e W w5 v g x):=by
 subst hH;have ha:(W.alloc (.cells #[x] e)).ownsRow base e 1 v n xs:=World.ownsRow.alloc h (.cells #[x] e);have lL:(W.alloc (.cells #[x] e)).cell? ⟨W.heap.size,0,none⟩=some x:=by show(W.alloc (.cells #[x] e)).cell? _=_;simp
 have cI:(W.alloc (.cells #[x] e)).heap.size=W.heap.size+1:=by show(W.alloc (.cells #[x] e)).heap.size=_;simp
 obtain⟨g,cap,w5,hr,C2,B7,F0,kF⟩:=run_append_lies (P:=prog) (W.alloc (.cells #[x] e)) T T base e i0 z 1 bytes hu hi I8 C8 F8 vA (by omega) v n _ ha
  ⟨W.heap.size,0,none⟩ 1 1 [x] rfl (World.news_of_block (cs:=#[x]) (t:=e) (fr:=(0,0)) (heap_alloc_new W _)) (by simpa using iW) (by omega) (by unfold maxLen;omega) aU (by omega) _ rfl
 have hs:=B7.size;refine⟨g,cap,w5,hr,j3 C2,j3 ⟨Go.RowKit.Below.grown (((Below.refl base W).alloc hb _)) B7 (by omega) (λk hk=>(ha.lt k hk).1),λb T9 C1=>(B7.block b (by omega) (λe=>C1 e.symm)).trans (((Below.refl W.heap.size W).alloc (Nat.le_refl _) _).block b T9), ?_,λb hv=>?_,by omega⟩⟩
 ·rcases F0 with h|h
  ·exact .inl h
  ·right;rw[h];omega
 ·have hl:=(h.lt b hv).2
  obtain⟨h1,h2⟩:=own_old hu hi I8 C8 F8 ha lL iW aU (by omega) hr b hv;exact⟨h1,λj hc=>h2 j ((World.cell?_of_block (w:=W) (a:=⟨b,j,none⟩) (((Below.refl W.heap.size W).alloc (Nat.le_refl _) _).block b hl)).trans hc)⟩
structure LgAt(base:Nat)(W W':World)(nv bv:Value)(m:Nat):Prop where
 bel:Below base W W'
 size:W.heap.size<W'.heap.size
 block:∀b,b<W.heap.size->nv.ownBlock≠some b->bv.ownBlock≠some b->W'.heap[b]?=W.heap[b]?
 oldN:∀b,nv.ownBlock=some b->(∃cur,W'.heap[b]?=some (.cells cur 3 (0,0)))/\∀j,W.cell? ⟨b,j,none⟩=some (vn1 m)->W'.cell? ⟨b,j,none⟩=some (vn1 m)
 oldB:∀b,bv.ownBlock=some b->(∃cur,W'.heap[b]?=some (.cells cur 5 (0,0)))/\∀j,W.cell? ⟨b,j,none⟩=some (vk1 m)->W'.cell? ⟨b,j,none⟩=some (vk1 m)
theorem rep_snoc(n:Nat)(x:Value):List.replicate n x++[x]=List.replicate (n+1) x:=by rw[List.replicate_succ']
theorem jw3{base:Nat}{W:World}{gb m nn bn:Nat}{nv bv:Value}(h:FmAt base W gb m nv bv nn bn (List.replicate nn (vn1 m)) (List.replicate bn (vk1 m)))(hm:m<=10000000000000)(nH:nn<=1000000000)(jF:bn<=1000000000):
  Calls prog 129 #[.pointer (some ⟨gb,0,none⟩)] W λe W'=>e=.returned (.pointer (some ⟨W.heap.size,0,none⟩))/\(∃nv' bv',FmAt base W' W.heap.size m nv' bv' (nn+1) (bn+1) (List.replicate (nn+1) (vn1 m)) (List.replicate (bn+1) (vk1 m)))/\LgAt base W W' nv bv m:=by
 have yC:∃a c,nv=.slice a nn c:=by
  rcases h.nr.2 with⟨rfl,h0⟩|⟨g,cap,cur,rfl,_⟩
  ·exact⟨none,0,by rw[h0]⟩
  ·exact⟨_,_,rfl⟩
 have zE:∃a c,bv=.slice a bn c:=by
  rcases h.br.2 with⟨rfl,h0⟩|⟨g,cap,cur,rfl,_⟩
  ·exact⟨none,0,by rw[h0]⟩
  ·exact⟨_,_,rfl⟩
 have hw:IntKind.i64.wrap (-1099511627776 - (m:Int))=-1099511627776 - (m:Int):=by
  have oA:IntKind.i64.bits=64:=rfl;have mY:IntKind.i64.signed=true:=rfl;simp[IntKind.wrap,oA,mY];omega
 have eH:=h.lo;have A1:=h.lt;obtain⟨V,hV⟩:∃V:World,V=W.alloc (.cells #[.slice none 0 0,.slice none 0 0,.int .i64 (m:Int)] 146):=⟨_,rfl⟩;have aP:Below W.heap.size W V:=hV ▸ (Below.refl _ _).alloc (Nat.le_refl _) _
 have oH:V.heap.size=W.heap.size+1:=by rw[hV];simp
 have eV:∀i,V.cell? ⟨W.heap.size,i,none⟩=#[.slice none 0 0,.slice none 0 0,.int .i64 (m:Int)][i]?:=λi=>by rw[hV,World.cell?_alloc_at _ _ _ _ (by simp)]
 have FT:∀i,V.frozen? ⟨W.heap.size,i,none⟩=false:=λi=>by rw[hV];simp
 obtain⟨i0,hi,I8,C8,F8⟩:=info_parts jc0;obtain⟨g5,S6,w5,iB,cF,fC⟩:=row_app (T:=52) underlying52 hi I8 C8 F8 rfl (W:=V) (qc3 h.nr aP (Nat.le_refl _)) (show base<=V.heap.size by omega) (x:=vn1 m) rfl (by omega) (by omega) (W.heap.size+1) oH;have qB:=q9 fC;have nI:∀k,nv.ownBlock=some k->k<W.heap.size:=λk hk=>(h.nr.lt k hk).2
 have Z4:∀k,bv.ownBlock=some k->k<W.heap.size:=λk hk=>(h.br.lt k hk).2
 have yD:nv.ownBlock≠some W.heap.size:=λe=>by have:=nI _ e;omega
 have zH:bv.ownBlock≠some W.heap.size:=λe=>by have:=Z4 _ e;omega
 have lH:V.heap.size<w5.heap.size:=qB.size;have k5:∀b,b<V.heap.size->nv.ownBlock≠some b->w5.heap[b]?=V.heap[b]?:=qB.block;have kF:g5<w5.heap.size/\(nv.ownBlock=some g5\/V.heap.size<g5):=⟨((q9 cF).lt g5 rfl).2,qB.at'⟩;have kE:g5≠W.heap.size:=λe=>by rcases kF.2 with h1|h1;exact yD (e ▸ h1);omega
 have nX:bv.ownBlock≠some g5:=λe=>by rcases kF.2 with h1|h1;exact h.nb g5 h1 e;have:=Z4 _ e;omega
 obtain⟨X5,cD⟩:∃X:World,X=w5.setCell ⟨W.heap.size,0,none⟩ (.slice (some ⟨g5,0,none⟩) (nn+1) S6):=⟨_,rfl⟩;have zW:X5.heap.size=w5.heap.size:=by rw[cD,World.size_setCell]
 have mS:∀b,b≠W.heap.size->X5.heap[b]?=w5.heap[b]?:=λb hb=>by rw[cD];exact Below.heap_setCell _ ⟨W.heap.size,0,none⟩ _ b hb
 have eU:w5.heap[W.heap.size]?=V.heap[W.heap.size]?:=k5 _ (by omega) yD;have p0:w5.cell? ⟨W.heap.size,0,none⟩=some (.slice none 0 0):=(World.cell?_of_block (w:=V) (a:=⟨W.heap.size,0,none⟩) eU).trans (eV 0);have p1:w5.cell? ⟨W.heap.size,1,none⟩=some (.slice none 0 0):=(World.cell?_of_block (w:=V) (a:=⟨W.heap.size,1,none⟩) eU).trans (eV 1);have p2:w5.cell? ⟨W.heap.size,2,none⟩=some (.int .i64 (m:Int)):=(World.cell?_of_block (w:=V) (a:=⟨W.heap.size,2,none⟩) eU).trans (eV 2);have pz:∀i,w5.frozen? ⟨W.heap.size,i,none⟩=false:=λi=>(World.frozen?_of_block (w:=V) (a:=⟨W.heap.size,i,none⟩) eU).trans (FT i)
 have kVW:∀b,b<W.heap.size->V.heap[b]?=W.heap[b]?:=λb hb=>aP.block b hb
 have nU:X5.heap[gb]?=W.heap[gb]?:=(mS gb (by omega)).trans ((k5 gb (by omega) h.nd).trans (kVW gb A1));have v0:V.cell? ⟨gb,0,none⟩=some nv:=(World.cell?_of_block (w:=W) (a:=⟨gb,0,none⟩) (kVW gb A1)).trans h.c0;have v2:V.cell? ⟨gb,2,none⟩=some (.int .i64 (m:Int)):=(World.cell?_of_block (w:=W) (a:=⟨gb,2,none⟩) (kVW gb A1)).trans h.c2;have x1:X5.cell? ⟨gb,1,none⟩=some bv:=(World.cell?_of_block (w:=W) (a:=⟨gb,1,none⟩) nU).trans h.c1;have x2:X5.cell? ⟨gb,2,none⟩=some (.int .i64 (m:Int)):=(World.cell?_of_block (w:=W) (a:=⟨gb,2,none⟩) nU).trans h.c2
 have sS:X5.ownsRow base 5 1 bv bn (List.replicate bn (vk1 m)):=qe7 h.br λk hk=>by
  have A3:=Z4 k hk;exact(mS k (by omega)).trans ((k5 k (by omega) (λe=>h.nb k e hk)).trans (kVW k A3))
 have q0:X5.cell? ⟨W.heap.size,0,none⟩=some (.slice (some ⟨g5,0,none⟩) (nn+1) S6):=by rw[cD];simp[go_sem,p0]
 have q1:X5.cell? ⟨W.heap.size,1,none⟩=some (.slice none 0 0):=by rw[cD];simp[go_sem,p1]
 have q2:X5.cell? ⟨W.heap.size,2,none⟩=some (.int .i64 (m:Int)):=by rw[cD];simp[go_sem,p2]
 have qz:∀i,X5.frozen? ⟨W.heap.size,i,none⟩=false:=λi=>by rw[cD];simp[go_sem,pz i]
 obtain⟨j0,hj,xI,KR,KQ⟩:=info_parts info_u8R;obtain⟨g6,bM,w6,bJ,qH,IN⟩:=row_app (T:=51) underlying51 hj xI KR KQ rfl (W:=X5) sS (show base<=X5.heap.size by omega) (x:=vk1 m) rfl (by omega) (by omega) X5.heap.size rfl;have qA:=q9 IN;have EC:X5.heap.size<w6.heap.size:=qA.size;have k6:∀b,b<X5.heap.size->bv.ownBlock≠some b->w6.heap[b]?=X5.heap[b]?:=qA.block;have yS:bv.ownBlock=some g6\/X5.heap.size<g6:=qA.at';have nW:g6≠W.heap.size:=λe=>by rcases yS with h1|h1;exact zH (e ▸ h1);omega
 have eT:w6.heap[W.heap.size]?=X5.heap[W.heap.size]?:=k6 _ (by omega) zH;have s0:w6.cell? ⟨W.heap.size,0,none⟩=some (.slice (some ⟨g5,0,none⟩) (nn+1) S6):=(World.cell?_of_block (w:=X5) (a:=⟨W.heap.size,0,none⟩) eT).trans q0;have s1:w6.cell? ⟨W.heap.size,1,none⟩=some (.slice none 0 0):=(World.cell?_of_block (w:=X5) (a:=⟨W.heap.size,1,none⟩) eT).trans q1;have s2:w6.cell? ⟨W.heap.size,2,none⟩=some (.int .i64 (m:Int)):=(World.cell?_of_block (w:=X5) (a:=⟨W.heap.size,2,none⟩) eT).trans q2;have sz:∀i,w6.frozen? ⟨W.heap.size,i,none⟩=false:=λi=>(World.frozen?_of_block (w:=X5) (a:=⟨W.heap.size,i,none⟩) eT).trans (qz i)
 obtain⟨X6,jG⟩:∃X:World,X=w6.setCell ⟨W.heap.size,1,none⟩ (.slice (some ⟨g6,0,none⟩) (bn+1) bM):=⟨_,rfl⟩;have mR:∀b,b≠W.heap.size->X6.heap[b]?=w6.heap[b]?:=λb hb=>by rw[jG];exact Below.heap_setCell _ ⟨W.heap.size,1,none⟩ _ b hb
 have zV:X6.heap.size=w6.heap.size:=by rw[jG,World.size_setCell]
 have S4:Below base W X5:=by
  rw[cD];exact Below.setCell ((aP.mono (by omega)).trans qB.bel) (by show base<=W.heap.size;omega) _
 have pZ:Below base W X6:=by
  rw[jG];exact Below.setCell (S4.trans qA.bel) (by show base<=W.heap.size;omega) _
 have keepB:∀b,b<W.heap.size->nv.ownBlock≠some b->bv.ownBlock≠some b->X6.heap[b]?=W.heap[b]?:=λb hb h1 h2=>(mR b (by omega)).trans ((k6 b (by omega) h2).trans ((mS b (by omega)).trans ((k5 b (by omega) h1).trans (kVW b hb))))
 have DS:∃cur,X6.heap[W.heap.size]?=some (.cells cur 146 (0,0)):=by
  have tV:V.heap[W.heap.size]?=some (.cells #[.slice none 0 0,.slice none 0 0,.int .i64 (m:Int)] 146 (0,0)):=by rw[hV];exact heap_alloc_new W _
  have t5:=eU.trans tV;have JG:X5.heap[W.heap.size]?=some (.cells (Array.setIfInBounds #[.slice none 0 0,.slice none 0 0,.int .i64 (m:Int)] 0 (.slice (some ⟨g5,0,none⟩) (nn+1) S6)) 146 (0,0)):=by rw[cD];simp[World.setCell,Array.getElem?_modify,t5]
  have t6:=eT.trans JG;refine⟨Array.setIfInBounds (Array.setIfInBounds #[.slice none 0 0,.slice none 0 0,.int .i64 (m:Int)] 0 (.slice (some ⟨g5,0,none⟩) (nn+1) S6)) 1 (.slice (some ⟨g6,0,none⟩) (bn+1) bM), ?_⟩;rw[jG];simp[World.setCell,Array.getElem?_modify,t6]
 have PN:Hid (FmAt base X6 W.heap.size m (.slice (some ⟨g5,0,none⟩) (nn+1) S6) (.slice (some ⟨g6,0,none⟩) (bn+1) bM) (nn+1) (bn+1) (List.replicate (nn+1) (vn1 m)) (List.replicate (bn+1) (vk1 m))):=j3 (by
  have r5:=q9 cF;have r6:=q9 qH;rw[rep_snoc]at r5 r6;refine⟨by omega,DS,by rw[jG];simp[go_sem,s0],by rw[jG];simp[go_sem,s1],by rw[jG];simp[go_sem,s2],λi=>by rw[jG];simp[go_sem,sz i], ?_, ?_,λe=>kE (by simpa [Value.ownBlock]using e),λe=>nW (by simpa [Value.ownBlock]using e),λk hk A3=>?_⟩
  ·refine qe7 r5 λk hk=>?_
   obtain rfl:g5=k:=by simpa [Value.ownBlock]using hk
   exact(mR g5 kE).trans ((k6 g5 (by omega) nX).trans (mS g5 kE))
  ·refine qe7 r6 λk hk=>?_
   obtain rfl:g6=k:=by simpa [Value.ownBlock]using hk
   exact mR g6 nW
  ·obtain rfl:g5=k:=by simpa [Value.ownBlock]using hk
   obtain rfl:g6=g5:=by simpa [Value.ownBlock]using A3
   rcases yS with h1|h1
   ·exact nX h1
   ·have:=kF.1;omega)
 have PG:Hid (LgAt base W X6 nv bv m):=j3 ⟨pZ,by omega,keepB,λb hb=>by
   have hl:=nI b hb;have rR:bv.ownBlock≠some b:=λe=>h.nb b hb e
   obtain⟨⟨cur,h1⟩,h2⟩:=qB.old b hb;have hx:X6.heap[b]?=w5.heap[b]?:=(mR b (by omega)).trans ((k6 b (by omega) rR).trans (mS b (by omega)))
   exact⟨⟨cur,hx.trans h1⟩,λj hj=>(World.cell?_of_block (w:=w5) (a:=⟨b,j,none⟩) hx).trans (h2 j ((World.cell?_of_block (w:=W) (a:=⟨b,j,none⟩) (kVW b hl)).trans hj))⟩,λb hb=>by
   have hl:=Z4 b hb;have rR:nv.ownBlock≠some b:=λe=>h.nb b e hb
   obtain⟨⟨cur,h1⟩,h2⟩:=qA.old b hb;have KT:X5.heap[b]?=W.heap[b]?:=(mS b (by omega)).trans ((k5 b (by omega) rR).trans (kVW b hl))
   exact⟨⟨cur,(mR b (by omega)).trans h1⟩,λj hj=>(World.cell?_of_block (w:=w6) (a:=⟨b,j,none⟩) (mR b (by omega))).trans (h2 j ((World.cell?_of_block (w:=W) (a:=⟨b,j,none⟩) KT).trans hj))⟩⟩
 have HV:=j3 hV;have wH:=j3 cD;have OO:=j3 jG;have g0:=h.c0;have g2:=h.c2;obtain⟨na,nc,rfl⟩:=yC;obtain⟨ba,bc,rfl⟩:=zE;unfold vn1 at iB;unfold vk1 at bJ;have n1:¬gb=W.heap.size:=by omega
 have n2:¬W.heap.size=gb:=by omega
 have n3:¬gb=V.heap.size:=by omega
 have n4:gb<V.heap.size:=by omega
 have n5:W.heap.size<V.heap.size:=by omega
 have n6:gb<X5.heap.size:=by omega
 have n7:¬gb=X5.heap.size:=by omega
 have n8:W.heap.size<w5.heap.size:=by omega
 have n9:W.heap.size<w6.heap.size:=by omega
 clear h aP eV FT cF fC qB nI Z4 yD zH k5 kF kE nX cD mS eU kVW nU sS qH IN qA k6 yS nW eT jG mR S4 pZ keepB hV zW zV DS;go_enter func129,ntmps129
 go_wp2_with fail
 rw[←q9 HV]
 go_region
 all_goals go_wp2_with fail
 all_goals rw[←q9 wH]
 all_goals go_region
 all_goals go_wp2_with fail
 all_goals rw[←q9 OO]
 all_goals go_ret
 all_goals exact⟨rfl,⟨_,_,q9 PN⟩,q9 PG⟩
end
section
attribute [local go_sem ↓] qe4
theorem info_hp:(prog.info? 86).map (λi=>(i.zero,i.size,i.bytes))=some (some (.pointer none),1,8):=by kernel_rfl
theorem qx4{base e size n:Nat}{U:World}{v:Value}{xs:List Value}(h:U.ownsRow base e size v n xs){k:Nat}(hk:v.ownBlock=some k):∃c,U.heap[k]?=some (.cells c e (0,0)):=by
 rcases h.2 with⟨rfl,_⟩|⟨g,cap,cur,rfl,_,hg,_⟩
 ·cases hk
 ·obtain rfl:g=k:=by simpa [Value.ownBlock]using hk
  exact⟨cur,hg⟩
theorem jg7{W:World}{k a b:Nat}{c d:Array Value}(h1:W.heap[k]?=some (.cells c a (0,0)))(h2:W.heap[k]?=some (.cells d b (0,0))):a=b:=by
 rw[h1]at h2;injection h2 with h2;injection h2 with _ h2 _
theorem mk_own{N:Nat->Prop}{base T n:Nat}{W:World}{v x:Value}(h:W.ownsRow base T 1 v n (List.replicate n x))(hn:n<=1000000000)(hN:∀k,v.ownBlock=some k->N k):MkS N T W v x:=by
 rcases h.2 with⟨rfl,h0⟩|⟨g,cap,cur,rfl,_,hg,_⟩
 ·exact⟨none,0,0,rfl,by omega,λj hj=>by omega⟩
 ·refine⟨_,n,cap,rfl,hn,λj hj=>⟨g,cur,rfl,hN g rfl,hg, ?_⟩⟩
  rw[World.ownsRow.cellAt h j (by omega),List.getElem?_replicate,if_pos hj]
theorem FmAt.hd{N:Nat->Prop}{base:Nat}{W:World}{gb m nn bn:Nat}{nv bv:Value}(h:FmAt base W gb m nv bv nn bn (List.replicate nn (vn1 m)) (List.replicate bn (vk1 m)))(hn:nn<=1000000000)(hb:bn<=1000000000)(h0:N gb)(h1:∀k,nv.ownBlock=some k->N k)(h2:∀k,bv.ownBlock=some k->N k):HdAt N W gb m:=
 ⟨h0,h.ty,⟨nv,bv,h.c0,h.c1,mk_own h.nr hn h1,mk_own h.br hb h2⟩,h.c2⟩
section
variable {N:Nat->Prop} {base:Nat} {W W':World} {gb m nn bn b:Nat} {nv bv:Value} {nxs bxs:List Value}
theorem hd_lg(h:HdAt N W b m)(hF:FmAt base W gb m nv bv nn bn nxs bxs)(hL:LgAt base W W' nv bv m):HdAt N W' b m:=by
 obtain⟨cur,J9⟩:=h.ty
 have nH:nv.ownBlock≠some b:=λe=>by
  obtain⟨c,hc⟩:=qx4 hF.nr e;exact absurd (jg7 J9 hc) (by decide)
 have rR:bv.ownBlock≠some b:=λe=>by
  obtain⟨c,hc⟩:=qx4 hF.br e;exact absurd (jg7 J9 hc) (by decide)
 have hb:=hL.block b (vb4 J9) nH rR;have hc:∀i,W'.cell? ⟨b,i,none⟩=W.cell? ⟨b,i,none⟩:=λi=>World.cell?_of_block (w:=W) (a:=⟨b,i,none⟩) hb
 obtain⟨n1,b1,h0,h1,⟨a2,n2,c2,e2,G8,h2⟩,a3,n3,c3,e3,bW,h3⟩:=h.lists;refine⟨h.nb,⟨cur,hb.trans J9⟩,⟨n1,b1,(hc 0).trans h0,(hc 1).trans h1,⟨a2,n2,c2,e2,G8,λj hj=>?_⟩,a3,n3,c3,e3,bW,λj hj=>?_⟩,(hc 2).trans h.mark⟩
 ·obtain⟨k,ck,ek,A0,A3,A9⟩:=h2 j hj
  have Z0:bv.ownBlock≠some k:=λe=>by
   obtain⟨c,hc⟩:=qx4 hF.br e;exact absurd (jg7 A3 hc) (by decide)
  by_cases Y9:nv.ownBlock=some k
  ·obtain⟨⟨c',t'⟩,sE⟩:=hL.oldN k Y9
   exact⟨k,c',ek,A0,t',sE j A9⟩
  ·have fQ:=hL.block k (vb4 A3) Y9 Z0
   exact⟨k,ck,ek,A0,fQ.trans A3,(World.cell?_of_block (w:=W) (a:=⟨k,j,none⟩) fQ).trans A9⟩
 ·obtain⟨k,ck,ek,A0,A3,A9⟩:=h3 j hj
  have Y9:nv.ownBlock≠some k:=λe=>by
   obtain⟨c,hc⟩:=qx4 hF.nr e;exact absurd (jg7 A3 hc) (by decide)
  by_cases Z0:bv.ownBlock=some k
  ·obtain⟨⟨c',t'⟩,sE⟩:=hL.oldB k Z0
   exact⟨k,c',ek,A0,t',sE j A9⟩
  ·have fQ:=hL.block k (vb4 A3) Y9 Z0
   exact⟨k,ck,ek,A0,fQ.trans A3,(World.cell?_of_block (w:=W) (a:=⟨k,j,none⟩) fQ).trans A9⟩
end
structure KpAt(w:World)(B m:Nat)(W:World)(hv:Value)(hs:List (Nat×Nat))(gb:Nat)(nv bv:Value)(nn bn:Nat):Prop where
 bel:Below w.heap.size w W
 wB:w.heap.size<B
 c0:W.cell? ⟨w.heap.size,0,none⟩=some (.slice none 0 0)
 c1:W.cell? ⟨w.heap.size,1,none⟩=some hv
 fz:∀i,W.frozen? ⟨w.heap.size,i,none⟩=false
 row:W.ownsRow (w.heap.size+1) 86 1 hv hs.length (hs.map hpV)
 fam:FmAt B W gb m nv bv nn bn (List.replicate nn (vn1 m)) (List.replicate bn (vk1 m))
 gne:hv.ownBlock≠some gb
 each:∀h∈hs,(h.2=m/\HdAt (λk=>w.heap.size<k/\hv.ownBlock≠some k) W h.1 m)\/HdAt (λk=>(w.heap.size<k/\hv.ownBlock≠some k)/\k<B) W h.1 h.2
section
variable {w W W' W5:World} {B m gb gb' nn bn g cap:Nat} {hv nv bv nv' bv':Value} {hs:List (Nat×Nat)}
theorem KpAt.lt(h:KpAt w B m W hv hs gb nv bv nn bn):w.heap.size<W.heap.size:=by
 have:=h.fam.lt;have:=h.fam.lo;have:=h.wB;omega
theorem KpAt.long(h:KpAt w B m W hv hs gb nv bv nn bn)(hF:FmAt B W' W.heap.size m nv' bv' (nn+1) (bn+1) (List.replicate (nn+1) (vn1 m)) (List.replicate (bn+1) (vk1 m)))(hL:LgAt B W W' nv bv m):KpAt w B m W' hv hs W.heap.size nv' bv' (nn+1) (bn+1):=by
 have A1:=h.lt;have jQ:=h.wB;have vL:∀k,nv.ownBlock=some k->B<=k:=λk hk=>(h.fam.nr.lt k hk).1
 have oC:∀k,bv.ownBlock=some k->B<=k:=λk hk=>(h.fam.br.lt k hk).1
 have hw:W'.heap[w.heap.size]?=W.heap[w.heap.size]?:=hL.block _ A1 (λe=>by have:=vL _ e;omega) (λe=>by have:=oC _ e;omega);have hc:∀i,W'.cell? ⟨w.heap.size,i,none⟩=W.cell? ⟨w.heap.size,i,none⟩:=λi=>World.cell?_of_block (w:=W) (a:=⟨w.heap.size,i,none⟩) hw
 refine⟨h.bel.trans (hL.bel.mono (by omega)),jQ,(hc 0).trans h.c0,(hc 1).trans h.c1,λi=>(World.frozen?_of_block (w:=W) (a:=⟨w.heap.size,i,none⟩) hw).trans (h.fz i), ?_,hF,λe=>?_,λx hx=>?_⟩
 ·refine qe7 h.row λk hk=>?_
  obtain⟨c,hc⟩:=qx4 h.row hk;refine hL.block k (vb4 hc) (λe=>?_) (λe=>?_)
  ·obtain⟨d,hd⟩:=qx4 h.fam.nr e
   exact absurd (jg7 hc hd) (by decide)
  ·obtain⟨d,hd⟩:=qx4 h.fam.br e
   exact absurd (jg7 hc hd) (by decide)
 ·have:=(h.row.lt _ e).2
  omega
 ·rcases h.each x hx with⟨e,hd⟩|hd
  ·exact .inl ⟨e,hd_lg hd h.fam hL⟩
  ·exact .inr (hd.keep (λb hb hl=>hL.block b hl (λe=>by have:=vL _ e;omega) (λe=>by have:=oC _ e;omega)) (λ_ h _=>h))
theorem KpAt.put(h:KpAt w B m W hv hs gb nv bv nn bn)(nH:nn<=1000000000)(jF:bn<=1000000000)(hR:W5.ownsRow (w.heap.size+1) 86 1 (.slice (some ⟨g,0,none⟩) (hs.length+1) cap) (hs.length+1) (hs.map hpV++[.pointer (some ⟨gb,0,none⟩)]))(hO:RoAt (w.heap.size+1) 86 W W5 hv g (.pointer (some ⟨gb,0,none⟩))):
  KpAt w B m (W5.setCell ⟨w.heap.size,1,none⟩ (.slice (some ⟨g,0,none⟩) (hs.length+1) cap)) (.slice (some ⟨g,0,none⟩) (hs.length+1) cap) (hs++[(gb,m)]) gb nv bv nn bn:=by
 have A1:=h.lt;have jQ:=h.wB;obtain⟨X,hX⟩:∃X:World,X=W5.setCell ⟨w.heap.size,1,none⟩ (.slice (some ⟨g,0,none⟩) (hs.length+1) cap):=⟨_,rfl⟩;rw[←hX];have xM:∀k,hv.ownBlock=some k->w.heap.size+1<=k/\k<W.heap.size:=λk hk=>h.row.lt k hk
 have xL:hv.ownBlock≠some w.heap.size:=λe=>by have:=(xM _ e).1;omega
 have bH:w.heap.size+1<=g:=(hR.lt g rfl).1;have kX:∀b,b≠w.heap.size->X.heap[b]?=W5.heap[b]?:=λb hb=>by rw[hX];exact Below.heap_setCell _ ⟨w.heap.size,1,none⟩ _ b hb
 have kW:∀b,b<W.heap.size->b≠w.heap.size->hv.ownBlock≠some b->X.heap[b]?=W.heap[b]?:=λb hb h1 h2=>(kX b h1).trans (hO.block b hb h2)
 have qX:W5.heap[w.heap.size]?=W.heap[w.heap.size]?:=hO.block _ A1 xL;have c5:∀i,W5.cell? ⟨w.heap.size,i,none⟩=W.cell? ⟨w.heap.size,i,none⟩:=λi=>World.cell?_of_block (w:=W) (a:=⟨w.heap.size,i,none⟩) qX
 have jD:∀b,b<W.heap.size->hv.ownBlock≠some b->(Value.slice (some ⟨g,0,none⟩) (hs.length+1) cap).ownBlock≠some b:=λb hb C1 e=>by
  obtain rfl:g=b:=by simpa [Value.ownBlock]using e
  rcases hO.at' with h1|h1
  ·exact C1 h1
  ·omega
 have glt:=h.fam.lt;have glo:=h.fam.lo
 have lS:∀k,nv.ownBlock=some k->k<W.heap.size/\B<=k/\hv.ownBlock≠some k:=λk hk=>⟨(h.fam.nr.lt k hk).2,(h.fam.nr.lt k hk).1,λe=>by
  obtain⟨c,hc⟩:=qx4 h.row e;obtain⟨d,hd⟩:=qx4 h.fam.nr hk
  exact absurd (jg7 hc hd) (by decide)⟩
 have pY:∀k,bv.ownBlock=some k->k<W.heap.size/\B<=k/\hv.ownBlock≠some k:=λk hk=>⟨(h.fam.br.lt k hk).2,(h.fam.br.lt k hk).1,λe=>by
  obtain⟨c,hc⟩:=qx4 h.row e;obtain⟨d,hd⟩:=qx4 h.fam.br hk
  exact absurd (jg7 hc hd) (by decide)⟩
 have yR:X.heap[gb]?=W.heap[gb]?:=kW gb glt (by omega) h.gne;have zC:∀i,X.cell? ⟨gb,i,none⟩=W.cell? ⟨gb,i,none⟩:=λi=>World.cell?_of_block (w:=W) (a:=⟨gb,i,none⟩) yR
 have hF:FmAt B X gb m nv bv nn bn (List.replicate nn (vn1 m)) (List.replicate bn (vk1 m)):=by
  obtain⟨cur,J9⟩:=h.fam.ty;exact⟨glo,⟨cur,yR.trans J9⟩,(zC 0).trans h.fam.c0,(zC 1).trans h.fam.c1,(zC 2).trans h.fam.c2,λi=>(World.frozen?_of_block (w:=W) (a:=⟨gb,i,none⟩) yR).trans (h.fam.fz i),qe7 h.fam.nr λk hk=>kW k (lS k hk).1 (by have:=(lS k hk).2.1;omega) (lS k hk).2.2,qe7 h.fam.br λk hk=>kW k (pY k hk).1 (by have:=(pY k hk).2.1;omega) (pY k hk).2.2,h.fam.nd,h.fam.bd,h.fam.nb⟩
 refine⟨?_,jQ, ?_, ?_,λi=>?_, ?_,hF,jD gb glt h.gne,λx hx=>?_⟩
 ·rw[hX];exact Below.setCell (h.bel.trans (hO.bel.mono (by omega))) (Nat.le_refl _) _
 ·rw[hX];simp[go_sem,c5,h.c0]
 ·rw[hX];simp[go_sem,c5,h.c1]
 ·rw[hX];simp[go_sem,(World.frozen?_of_block (w:=W) (a:=⟨w.heap.size,i,none⟩) qX).trans (h.fz i)]
 ·rw[List.length_append,List.map_append]
  exact qe7 hR λk hk=>kX k (by
   obtain rfl:g=k:=by simpa [Value.ownBlock]using hk
   omega)
 ·rcases List.mem_append.1 hx with hx|hx
  ·rcases h.each x hx with⟨e,hd⟩|hd
   ·exact .inl ⟨e,hd.keep (λb hb hl=>kW b hl (by omega) hb.2) (λb hb hl=>⟨hb.1,jD b hl hb.2⟩)⟩
   ·exact .inr (hd.keep (λb hb hl=>kW b hl (by omega) hb.1.2) (λb hb hl=>⟨⟨hb.1.1,jD b hl hb.1.2⟩,hb.2⟩))
  ·obtain rfl:=List.mem_singleton.1 hx
   exact .inl ⟨rfl,hF.hd nH jF ⟨by omega,jD gb glt h.gne⟩ (λk hk=>⟨by have:=(lS k hk).2.1;omega,jD k (lS k hk).1 (lS k hk).2.2⟩) (λk hk=>⟨by have:=(pY k hk).2.1;omega,jD k (pY k hk).1 (pY k hk).2.2⟩)⟩
theorem KpAt.done(h:KpAt w B m W hv hs gb nv bv nn bn)(i6:∀x∈hs,x.2<=hs.length):HsAt w W hv hs:=
 ⟨h.bel,h.lt,h.c0,h.c1,h.fz,h.row,λx hx=>⟨by
  rcases h.each x hx with⟨e,hd⟩|hd
  ·rw[e];exact hd
  ·exact hd.keep (λ_ _ _=>rfl) (λ_ h _=>h.1),i6 x hx⟩⟩
end
end
section
attribute [local go_sem ↓] qe4
theorem FmAt.mark{base:Nat}{W:World}{gb m0 nn bn:Nat}{nv bv:Value}{nxs bxs:List Value}(h:FmAt base W gb m0 nv bv nn bn nxs bxs)(m:Nat):FmAt base (W.setCell ⟨gb,2,none⟩ (.int .i64 (m:Int))) gb m nv bv nn bn nxs bxs:=by
 obtain⟨cur,J9⟩:=h.ty;have c2:=h.c2;refine⟨h.lo,⟨cur.setIfInBounds 2 (.int .i64 (m:Int)),by simp[World.setCell,Array.getElem?_modify,J9]⟩,by simp[go_sem,h.c0],by simp[go_sem,h.c1],by simp[go_sem,c2],λi=>by simp[go_sem,h.fz i],qe7 h.nr λk hk=>Below.heap_setCell _ ⟨gb,2,none⟩ _ k (λe=>h.nd (by have e:k=gb:=e;rw[←e];exact hk)),qe7 h.br λk hk=>Below.heap_setCell _ ⟨gb,2,none⟩ _ k (λe=>h.bd (by have e:k=gb:=e;rw[←e];exact hk)),h.nd,h.bd,h.nb⟩
theorem kp_first{w W W2:World}{B hb m nn bn:Nat}{hv nv bv:Value}{hs:List (Nat×Nat)}(h:HsAt w W hv hs)(jQ:w.heap.size<B)(hvB:∀k,hv.ownBlock=some k->k<B)(i6:∀x∈hs,HdAt (λk=>(w.heap.size<k/\hv.ownBlock≠some k)/\k<B) W x.1 x.2)(eH:B<=hb)
  (hF:FmAt B W2 hb m nv bv nn bn (List.replicate nn (vn1 m)) (List.replicate bn (vk1 m))) (hM:MrkAt B (W.setCell ⟨hb,2,none⟩ (.int .i64 (m:Int))) W2 nv bv):KpAt w B m W2 hv hs hb nv bv nn bn:=by
 have vL:∀k,nv.ownBlock=some k->B<=k:=λk hk=>(hF.nr.lt k hk).1
 have oC:∀k,bv.ownBlock=some k->B<=k:=λk hk=>(hF.br.lt k hk).1
 have kb:∀k,k<B->W2.heap[k]?=W.heap[k]?:=λk hk=>(hM.block k (λe=>by have:=vL _ e;omega) (λe=>by have:=oC _ e;omega)).trans (Below.heap_setCell _ ⟨hb,2,none⟩ _ k (show k≠hb by omega))
 have hc:∀i,W2.cell? ⟨w.heap.size,i,none⟩=W.cell? ⟨w.heap.size,i,none⟩:=λi=>World.cell?_of_block (w:=W) (a:=⟨w.heap.size,i,none⟩) (kb _ jQ)
 exact⟨(Below.setCell h.bel (by show w.heap.size<=hb;omega) _).trans (hM.bel.mono (by omega)),jQ,(hc 0).trans h.c0,(hc 1).trans h.c1,λi=>(World.frozen?_of_block (w:=W) (a:=⟨w.heap.size,i,none⟩) (kb _ jQ)).trans (h.fz i),qe7 h.row λk hk=>kb k (hvB k hk),hF,λe=>by have:=hvB _ e;omega,λx hx=>.inr ((i6 x hx).keep (λb T9 _=>kb b T9.2) (λ_ h _=>h))⟩
theorem keep_any{w W:World}{B hb nn bn:Nat}{hv nv bv:Value}{hs:List (Nat×Nat)}{nxs bxs:List Value}(h:HsAt w W hv hs)(hF:FmAt B W hb 0 nv bv nn bn nxs bxs)(jQ:w.heap.size<B)(hvB:∀k,hv.ownBlock=some k->k<B)(i6:∀x∈hs,HdAt (λk=>(w.heap.size<k/\hv.ownBlock≠some k)/\k<B) W x.1 x.2)(hn:hs.length<=9000000000000)(nH:nn<=100000000)(jF:bn<=100000000):
  Calls prog 84 #[.pointer (some ⟨w.heap.size,0,none⟩),.pointer (some ⟨hb,0,none⟩)] W λe W'=>e=.returned (.tuple #[])/\∃hv' hs',HsAt w W' hv' hs'/\hs'.length=hs.length+4:=by
 obtain⟨n,hl⟩:∃n,hs.length=n:=⟨_,rfl⟩;have HL:=j3 hl;have c1:=h.c1;have vC:=h.lt;have b2:=hF.c2;have bz:=hF.fz;have bl:=hF.lt;obtain⟨a,c,rfl⟩:=h.form;have MK:=j3 (marks_any (hF.mark (n+1)) (by omega) (by omega) (by omega));have HK:Hid (∀W2,FmAt B W2 hb (n+1) nv bv nn bn (List.replicate nn (vn1 (n+1))) (List.replicate bn (vk1 (n+1)))->MrkAt B (W.setCell ⟨hb,2,none⟩ (.int .i64 ((n+1:Nat):Int))) W2 nv bv->KpAt w B (n+1) W2 (.slice a hs.length c) hs hb nv bv nn bn):=j3 λW2 h1 h2=>kp_first h jQ hvB i6 hF.lo h1 h2
 have HM:Hid (∀x∈hs,x.2<=n+1):=j3 λx hx=>by have:=(h.each x hx).2;omega
 rw[hl]at c1 HK hn ⊢;have nwb:¬w.heap.size=hb:=by have:=hF.lo;omega
 have nbw:¬hb=w.heap.size:=by omega
 have sR:((n+1:Nat):Int)=(n:Int)+1:=by omega
 rw[sR]at MK HK;clear h hF i6 hvB hl;go_enter func84,ntmps84
 have PUT:Hid (∀(U:World) (hv:Value) (l:List (Nat×Nat)) (gb:Nat) (nv bv:Value) (p q:Nat),KpAt w B (n+1) U hv l gb nv bv p q->p<=1000000000->q<=1000000000->l.length<=9000000000005->∃g cap w5,(vz2 #[59,59] 59 #[hv,.slice (some ⟨U.heap.size,0,none⟩) 1 1]).run prog (U.alloc (.cells #[.pointer (some ⟨gb,0,none⟩)] 86))=.ok (.slice (some ⟨g,0,none⟩) (l.length+1) cap) w5/\w5.cell? ⟨w.heap.size,1,none⟩=some hv/\(∀i,w5.frozen? ⟨w.heap.size,i,none⟩=false)/\w.heap.size<w5.heap.size/\Hid (KpAt w B (n+1) (w5.setCell ⟨w.heap.size,1,none⟩ (.slice (some ⟨g,0,none⟩) (l.length+1) cap)) (.slice (some ⟨g,0,none⟩) (l.length+1) cap) (l++[(gb,n+1)]) gb nv bv p q)):=j3 λU hv l gb nv bv p q hk hp hq hl=>by
  obtain⟨i0,hi,I8,C8,F8⟩:=info_parts info_hp;have A1:=hk.lt;obtain⟨g,cap,w5,hr,HR,HO⟩:=row_app0 (T:=59) underlying59 hi I8 C8 F8 rfl (W:=U) hk.row (by omega) (x:=.pointer (some ⟨gb,0,none⟩)) rfl (by omega) (by omega) U.heap.size rfl;have hO:=q9 HO;have xL:hv.ownBlock≠some w.heap.size:=λe=>by have:=(hk.row.lt _ e).1;omega
  have qX:=hO.block _ A1 xL;exact⟨g,cap,w5,hr,(World.cell?_of_block (w:=U) (a:=⟨w.heap.size,1,none⟩) qX).trans hk.c1,λi=>(World.frozen?_of_block (w:=U) (a:=⟨w.heap.size,i,none⟩) qX).trans (hk.fz i),by have:=hO.size;omega,j3 (hk.put hp hq (q9 HR) hO)⟩
 go_wp2_with(go_at_call 128;refine(q9 MK).mono ?_;rintro e w2⟨rfl,H8,jY⟩;have A3:=q9 HK w2 H8 jY;have E9:=j3 A3;obtain⟨g3,tU,w3,oF,r3,z3,l3,F5⟩:=q9 PUT w2 _ _ _ _ _ _ _ A3 (by omega) (by omega) (by have:=q9 HL;omega);rw[q9 HL]at oF F5;have d1:=A3.c1;have dl:=A3.lt;clear H8 jY A3)
 obtain⟨X3,FQ⟩:∃X:World,X=w3.setCell ⟨w.heap.size,1,none⟩ (.slice (some ⟨g3,0,none⟩) (n+1) tU):=⟨_,rfl⟩;rw[←FQ]at F5 ⊢;clear FQ oF r3 z3 l3 E9 d1 dl
 go_loopw [4,5] (λgp i wr=>∃(k gb p q:Nat) (hv nv bv:Value) (l:List (Nat×Nat)),k<=3/\i=.int .i64 k/\gp=.pointer (some ⟨gb,0,none⟩)/\p=nn+k/\q=bn+k/\Hid (KpAt w B (n+1) wr hv l gb nv bv p q)/\Hid (l.length=n+1+k/\∀x∈l,x.2<=n+1)) (λ_ i _=>3 - (intOf i).toNat)
 case atStart=>exact⟨0,hb,nn,bn,_,nv,bv,hs++[(hb,n+1)],by omega,rfl,rfl,rfl,rfl,F5,j3 ⟨by have:=q9 HL;simp;omega,λx hx=>by rcases List.mem_append.1 hx with h|h;exact q9 HM x h;rw[List.mem_singleton.1 h];exact Nat.le_refl _⟩⟩
 case round=>
  clear F5 MK HK b2 bz bl c1;obtain⟨k,gb,p,q,hv,nv,bv,l,hk,rfl,rfl,hp,hq,pB,aE⟩:=hrel
  by_cases A9:k<3
  ·have A0:(k:Int)<3:=by omega
   have LG:=j3 (jw3 (q9 pB).fam (by omega) (by omega) (by omega))
   have PUT':Hid (∀W',(∃nv' bv',FmAt B W' wr.heap.size (n+1) nv' bv' (p+1) (q+1) (List.replicate (p+1) (vn1 (n+1))) (List.replicate (q+1) (vk1 (n+1))))->LgAt B wr W' nv bv (n+1)->∃(g cap:Nat) (w5:World) (nv' bv':Value),(vz2 #[59,59] 59 #[hv,.slice (some ⟨W'.heap.size,0,none⟩) 1 1]).run prog (W'.alloc (.cells #[.pointer (some ⟨wr.heap.size,0,none⟩)] 86))=.ok (.slice (some ⟨g,0,none⟩) (l.length+1) cap) w5/\w5.cell? ⟨w.heap.size,1,none⟩=some hv/\(∀i,w5.frozen? ⟨w.heap.size,i,none⟩=false)/\w.heap.size<w5.heap.size/\W'.cell? ⟨w.heap.size,1,none⟩=some hv/\w.heap.size<W'.heap.size/\Hid (KpAt w B (n+1) (w5.setCell ⟨w.heap.size,1,none⟩ (.slice (some ⟨g,0,none⟩) (l.length+1) cap)) (.slice (some ⟨g,0,none⟩) (l.length+1) cap) (l++[(wr.heap.size,n+1)]) wr.heap.size nv' bv' (p+1) (q+1))):=j3 λW' hf rY=>by
    obtain⟨nv',bv',hf⟩:=hf;have l8:=(q9 pB).long hf rY;obtain⟨g,cap,w5,h1,h2,h3,h4,h5⟩:=q9 PUT W' hv l wr.heap.size nv' bv' (p+1) (q+1) l8 (by omega) (by omega) (by have:=(q9 aE).1;omega);exact⟨g,cap,w5,nv',bv',h1,h2,h3,h4,l8.c1,l8.lt,h5⟩
   have KV:∃a c,hv=.slice a l.length c:=by
    rcases(q9 pB).row.2 with⟨rfl,h0⟩|⟨g,cap,cur,rfl,_⟩
    ·exact⟨none,0,by rw[h0]⟩
    ·exact⟨_,_,rfl⟩
   obtain⟨va,vc,rfl⟩:=KV
   go_wp2_with(go_at_call 129;refine(q9 LG).mono ?_;rintro e w4⟨rfl,cA,FB⟩;obtain⟨g6,bM,w6,JR,OL,bJ,r6,z6,l6,d6,TR,lB⟩:=q9 PUT' w4 cA FB;clear cA FB)
   go_roundw
   case rel=>exact⟨k+1,wr.heap.size,p+1,q+1,_,JR,OL,l++[(wr.heap.size,n+1)],by omega,by go_num,rfl,by omega,by omega,lB,j3 ⟨by have:=(q9 aE).1;simp;omega,λx hx=>by rcases List.mem_append.1 hx with h|h;exact(q9 aE).2 x h;rw[List.mem_singleton.1 h];exact Nat.le_refl _⟩⟩
   case measure=>simp[intOf];omega
  ·have t9:k=3:=by omega
   subst t9;have Y9:¬((3:Nat):Int)<3:=by omega
   have HD:Hid (∃hv' hs',HsAt w wr hv' hs'/\hs'.length=n+4):=j3 ⟨hv,l,(q9 pB).done (λx hx=>by have h1:=(q9 aE).2 x hx;have h2:=(q9 aE).1;omega),by have:=(q9 aE).1;omega⟩
   go_wp2_with fail
   first
    | exact⟨rfl,q9 HD⟩
    | (go_end0;exact⟨rfl,q9 HD⟩)
end
section
attribute [local go_sem ↓] cp_foldR
def js8:List UInt8:=[115,112,97,114,101]
theorem jc1:(prog.info? 9).map (λi=>(i.zero,i.size,i.bytes))=some (some (.string ⟨#[]⟩),1,16):=by kernel_rfl
def TsRow(W:World)(b:Nat)(ts:List (List UInt8))(i:Nat):Prop:=
 ∃f:Nat->Value,W.rowIs b 9 (ts.length+8) f/\(∀k t,ts[k]?=some t->f k=.string (BS t))/\∀k,k<i->f (ts.length+k)=.string (BS js8)
section
variable {W W':World} {b i:Nat} {ts:List (List UInt8)}
theorem TsRow.of_block(h:TsRow W b ts i)(e:W'.heap[b]?=W.heap[b]?):TsRow W' b ts i:=by
 obtain⟨f,h1,h2,h3⟩:=h;exact⟨f,h1.of_block e,h2,h3⟩
theorem TsRow.lt(h:TsRow W b ts i):b<W.heap.size:=by
 obtain⟨f,h1,_⟩:=h;exact h1.lt
theorem TsRow.below(h:TsRow W b ts i)(hb:Below W.heap.size W W'):TsRow W' b ts i:=h.of_block (hb.block b h.lt)
theorem TsRow.cells(h:TsRow W b ts i){k:Nat}(hk:k<ts.length+8):∃v,W.cell? ⟨b,k,none⟩=some v:=by
 obtain⟨f,h1,_⟩:=h;exact⟨_,h1.cell hk⟩
theorem TsRow.fz(h:TsRow W b ts i)(k:Nat):W.frozen? ⟨b,k,none⟩=false:=by
 obtain⟨f,h1,_⟩:=h;exact h1.frozen k
theorem TsRow.text(h:TsRow W b ts i){k:Nat}{t:List UInt8}(ht:ts[k]?=some t):W.cell? ⟨b,k,none⟩=some (.string (BS t)):=by
 obtain⟨f,h1,h2,_⟩:=h;have hk:=(List.getElem?_eq_some_iff.1 ht).1;rw[h1.cell (by omega),h2 k t ht]
theorem TsRow.spare(h:TsRow W b ts i){k:Nat}(hk:k<i)(hi:i<=8):W.cell? ⟨b,ts.length+k,none⟩=some (.string (BS js8)):=by
 obtain⟨f,h1,_,h3⟩:=h;rw[h1.cell (by omega),h3 k hk]
theorem TsRow.step(h:TsRow W b ts i):TsRow (W.setCell ⟨b,ts.length+i,none⟩ (.string (BS js8))) b ts (i+1):=by
 obtain⟨f,h1,h2,h3⟩:=h;refine⟨_,h1.set _ _,λk t ht=>?_,λk hk=>?_⟩
 ·have hk:=(List.getElem?_eq_some_iff.1 ht).1
  rw[if_neg (by omega)];exact h2 k t ht
 ·by_cases e:k=i
  ·subst e;rw[if_pos rfl]
  ·rw[if_neg (by omega)];exact h3 k (by omega)
theorem TsRow.tx(h:TsRow W b ts i)(hs:∀t∈ts,t.length<=140737488355328):TxIn W (some ⟨b,0,none⟩) ts:=λk s hk=>⟨hs s (List.mem_of_getElem? hk),b,0,rfl,h.lt,by rw[Nat.zero_add];exact h.text hk⟩
end
theorem ju8{W:World}{a:Option Addr}{c:Nat}{ts:List (List UInt8)}{b:Nat}{xs:List Value}{ty:TypeId}(ht:TxIn W a ts)(C2:W.ownsRow b 9 1 (.slice (some ⟨b,0,none⟩) (ts.length+8) (ts.length+8)) (ts.length+8) xs):
  ∃W',(cpR #[62,62] ty #[.slice (some ⟨b,0,none⟩) (ts.length+8) (ts.length+8),.slice a ts.length c]).run prog W=.ok (goInt ts.length) W'/\Hid (TsRow W' b ts 0)/\Hid (Below b W W'):=by
 obtain⟨i0,hi,I8,C8,F8⟩:=info_parts jc1;have S7:(prog.info? 9).map (·.size)=some 1:=by rw[hi];simp[C8]
 obtain⟨lK,hx|⟨g,cap,cur,e,K7,J1,t7,_,O5,kI⟩⟩:=C2
 ·cases hx.1
 injection e with e1 e2 e3;injection e1 with e1;injection e1 with e1;subst e1;have T0:cur.size=ts.length+8:=by rw[O5,←e3];omega
 cases aX:ts with
 | nil=>
  subst aX;refine⟨W,vq6 W _ _ _ 9 _ _ _ _ _ 1 underlying62 S7,j3 ⟨λj=>cur.getD j undef,⟨cur,J1,T0,λi hi=>?_⟩,λk p hp=>by simp at hp,λk hk=>by omega⟩,j3 (Below.refl _ _)⟩;rw[Array.getElem?_eq_getElem (by omega)];simp[Array.getD,show i<cur.size by omega]
 | cons t0 r0=>
  rw[←aX];obtain⟨_,sb,off,ha,_,_⟩:=ht 0 t0 (by rw[aX];rfl);subst ha;have bB:Nat.min ts.length (ts.length+8)=ts.length:=Nat.min_eq_left (by omega);have R7:(qa1 ts).length=ts.length:=by simp[qa1]
  have O7:=vy4 (P:=prog) W 62 62 ty 9 b 0 (ts.length+8) (ts.length+8) ⟨sb,off,none⟩ ts.length c cur 9 (qa1 ts) 1 underlying62 S7 J1 (by rw[bB,R7];omega) (λj v hv=>by
    rw[qa1,List.getElem?_map]at hv
    cases hu:ts[j]? with
    | none=>rw[hu]at hv;cases hv
    | some u=>
     rw[hu]at hv;injection hv with hv;obtain⟨_,sb',so',e',_,h3⟩:=ht j u hu;injection e' with e';injection e' with e1 e2
     rw[show(⟨sb,off,none⟩:Addr).add j=⟨sb,off+j,none⟩ by simp[Addr.add],e1,e2,h3,←hv]) (by rw[R7,T0];omega) (λv hv=>by
    obtain⟨p,_,rfl⟩:=List.mem_map.1 hv
    rfl)
  rw[bB]at O7;refine⟨_,O7,j3 ?_,j3 ⟨rfl,rfl,rfl,by simp[World.setRow],λk hk=>setRow_other W b k _ (by omega)⟩⟩;obtain⟨L,hL⟩:∃L,cur.toList.take 0++qa1 ts++cur.toList.drop (0+(qa1 ts).length)=L:=⟨_,rfl⟩;rw[hL];have NQ:L.length=ts.length+8:=by rw[←hL,List.take_zero,List.nil_append,List.length_append,List.length_drop,R7,show cur.toList.length=ts.length+8 from T0];omega
  refine⟨λj=>L.getD j undef,⟨L.toArray,setRow_heap W b cur _ _ _ J1,by simpa using NQ,λi hi=>?_⟩,λk p hp=>?_,λk hk=>by omega⟩
  ·show L.toArray[i]?=some (L.getD i undef)
   rw[List.getElem?_toArray,List.getD_eq_getElem?_getD,List.getElem?_eq_getElem (by omega)];rfl
  ·have hk:=(List.getElem?_eq_some_iff.1 hp).1
   show L.getD k undef=_;rw[List.getD_eq_getElem?_getD,←hL,List.take_zero,List.nil_append,List.getElem?_append_left (by rw[R7];exact hk),qa1,List.getElem?_map,hp];rfl
def vj7(w:World)(ts:List (List UInt8))(e:Ending)(w':World):Prop:=e=.returned (.slice (some ⟨w.heap.size,0,none⟩) (ts.length+8) (ts.length+8))/\TsRow w' w.heap.size ts 8/\Below w.heap.size w w'
theorem jg0{w:World}{a:Option Addr}{c:Nat}{ts:List (List UInt8)}(aL:TxIn w a ts)(hl:16 * ts.length<=140737488355328):Calls prog 80 #[.slice a ts.length c] w (vj7 w ts):=by
 obtain⟨i0,hi,I8,C8,F8⟩:=info_parts jc1;have CI:=j3 aL;obtain⟨n,hn⟩:∃n,ts.length=n:=⟨_,rfl⟩;have HN:=j3 hn
 have CP:Hid (∀(W:World) (xs:List Value),TxIn W a ts->W.ownsRow w.heap.size 9 1 (.slice (some ⟨w.heap.size,0,none⟩) (n+8) (n+8)) (n+8) xs->∃W',(cpR #[62,62] 3 #[.slice (some ⟨w.heap.size,0,none⟩) (n+8) (n+8),.slice a n c]).run prog W=.ok (goInt n) W'/\Hid (TsRow W' w.heap.size ts 0)/\Hid (Below w.heap.size W W')):=j3 λW xs h1 h2=>by
  have:=ju8 (ty:=3) (xs:=xs) (c:=c) h1 (by rw[hn];exact h2);rw[hn]at this;exact this
 rw[hn]at hl ⊢;have h0:(0:Int)<=(n:Int):=by omega
 clear aL hn;go_enter func80,ntmps80
 go_wp2_with(at_make;refine wpList_make_full _ rfl _ _ 62 rfl w.heap.size 9 i0 _ 1 underlying62 hi I8 C8 .i64 .i64 _ _ (n+8) rfl rfl (by omega) (by omega) (by rw[F8];omega) (by unfold maxLen;omega) (Nat.le_refl _) ?_;intro w1 I4 gR;have oO:Below w.heap.size w w1:=(Go.RowKit.Below.grown (Below.refl _ _) gR (Nat.le_refl _) (λk hk=>(by cases hk)));obtain⟨w2,gW,jM,J2⟩:=q9 CP w1 _ ((q9 CI).below oO) I4;have G2:=j3 (oO.trans (q9 J2));clear I4 gR oO J2)
 go_loopw [4] (λi wr=>∃k:Nat,k<=8/\i=.int .i64 k/\Hid (TsRow wr w.heap.size ts k)/\Hid (Below w.heap.size w wr)) (λi _=>8 - (intOf i).toNat)
 case atStart=>exact⟨0,Nat.zero_le _,rfl,jM,G2⟩
 case round=>
  clear jM G2 gW CP;obtain⟨k,hk,rfl,HE,HB⟩:=hrel
  by_cases A1:k<8
  ·have A0:(k:Int)<8:=by omega
   have R0:(0:Int)<=(k:Int):=by omega
   have EN:(0:Int)<=(n:Int)+(k:Int):=by omega
   have S7:(n:Int)+(k:Int)<(n:Int)+8:=by omega
   have nH:=q9 HN;have L4:=(q9 HE).lt;obtain⟨v0,q0⟩:=(q9 HE).cells (k:=n+k) (by omega);have qz:=(q9 HE).fz
   go_wp2_with fail
   go_roundw
   case rel=>exact⟨k+1,by omega,by go_num,j3 (by have:=(q9 HE).step;rw[q9 HN]at this;exact this),j3 ((q9 HB).setCell (Nat.le_refl _) _)⟩
   case measure=>simp[intOf];omega
  ·have t9:k=8:=by omega
   subst t9;have vK:¬((8:Nat):Int)<8:=by omega
   go_wp2_with fail
   go_ret;refine⟨?_,q9 HE,q9 HB⟩;rw[q9 HN];rfl
theorem js9{w:World}{lb:Nat}{a:Option Addr}{c:Nat}{ts:List (List UInt8)}(J3:TsRow w lb ts 8)(aL:TxIn w a ts)(hl:16 * ts.length<=140737488355328):
  Calls prog 82 #[.slice (some ⟨lb,0,none⟩) (ts.length+8) (ts.length+8),.slice a ts.length c] w λe w'=>e=.returned (.bool true)/\Below w.heap.size w w':=by
 obtain⟨n,hn⟩:∃n,ts.length=n:=⟨_,rfl⟩;have HN:=j3 hn;rw[hn]at hl ⊢;have CI:=j3 aL;have oZ:=j3 J3;have M5:=J3.lt;clear aL hn J3;go_enter func82,ntmps82
 go_wp2_with fail
 go_loopw [5] (λi wr=>∃k:Nat,k<=n+8/\i=.int .i64 k/\Hid (Below w.heap.size w wr)) (λi _=>n+8 - (intOf i).toNat)
 case atStart=>exact⟨0,Nat.zero_le _,rfl,j3 (Below.refl _ _)⟩
 case round=>
  obtain⟨k,hk,rfl,HB⟩:=hrel;have cB:=q9 HB;have pS:=(q9 oZ).below cB;have aW:=cB.size
  by_cases A1:k<n+8
  ·have R0:(0:Int)<=(k:Int):=by omega
   have A0:(k:Int)<(n:Int)+8:=by omega
   by_cases Y9:k<n
   ·obtain⟨p,hp⟩:∃p,ts[k]?=some p:=⟨_,List.getElem?_eq_getElem (by have:=q9 HN;omega)⟩
    obtain⟨_,b,off,rfl,hb,e0⟩:=q9 CI k p hp;have l0:=pS.text hp;rw[←(qb0 cB).1 _ _ hb]at e0;have hq:((BS p).toList==(BS p).toList)=true:=beq_self_eq_true _;have yZ:decide ((k:Int)<(n:Int))=true:=by simpa using Y9
    have FK:decide ((k:Int)≥(n:Int))=false:=by simp;omega
    have MW:decide ((n:Int)<=(k:Int))=false:=by simp;omega
    have MV:decide (n<=k)=false:=by simp;omega
    have MU:decide (k<n)=true:=by simpa using Y9
    have A3:(k:Int)<(n:Int):=by omega
    clear cB pS hp
    go_wp2_with fail
    go_quiet (fail)
    go_wp2_with fail
    go_roundw
    case rel=>exact⟨k+1,by omega,by go_num,j3 (Go.below_drewN (q9 HB) _)⟩
    case measure=>simp[intOf];omega
   ·obtain⟨j,rfl⟩:∃j,k=n+j:=⟨k - n,by omega⟩
    have l0:=pS.spare (k:=j) (by omega) (Nat.le_refl _);rw[q9 HN]at l0;obtain⟨sp,fL⟩:∃sp,BS js8=sp:=⟨_,rfl⟩;have iZ:(sp.toList==[115,112,97,114,101])=true:=by rw[←fL,qc9];decide
    rw[fL]at l0;clear fL;obtain⟨q,hq⟩:∃q,n+j=q:=⟨_,rfl⟩;rw[hq]at l0 hk A1 R0 A0 ⊢;have yZ:decide ((q:Int)<(n:Int))=false:=by simp;omega
    have FK:decide ((q:Int)≥(n:Int))=true:=by simp;omega
    have MW:decide ((n:Int)<=(q:Int))=true:=by simp;omega
    have MV:decide (n<=q)=true:=by simp;omega
    have MU:decide (q<n)=false:=by simp;omega
    have A3:¬(q:Int)<(n:Int):=by omega
    have A9:(n:Int)<=(q:Int):=by omega
    clear cB pS Y9 hq
    go_wp2_with fail
    go_quiet (fail)
    go_wp2_with fail
    go_roundw
    case rel=>exact⟨q+1,by omega,by go_num,j3 (Go.below_drewN (q9 HB) _)⟩
    case measure=>simp[intOf];omega
  ·have vK:¬(k:Int)<(n:Int)+8:=by omega
   have dS:=j3 cB;clear cB pS
   go_wp2_with fail
   go_ret;exact⟨rfl,q9 dS⟩
end
section
def qs2(cs:List Co):Nat->List Tm×List Nat
 | 0=>([],[])
 | k+1=>((qd7 (qs2 cs k).1 (cs.getD k (.leaf ⟨3,0,[],[]⟩))).1,(qs2 cs k).2++[(qd7 (qs2 cs k).1 (cs.getD k (.leaf ⟨3,0,[],[]⟩))).2])
theorem ve6(cs:List Co)(k:Nat):(qs2 cs k).2.length=k/\∀r∈(qs2 cs k).2,r<(qs2 cs k).1.length:=by
 induction k with
 | zero=>exact⟨rfl,λr hr=>by simp[qs2]at hr⟩
 | succ k ih=>
  have hp:=vs2 (qs2 cs k).1 (cs.getD k (.leaf ⟨3,0,[],[]⟩));refine⟨by rw[qs2,List.length_append,ih.1];rfl,λr hr=>?_⟩;rw[qs2,List.mem_append]at hr;rw[qs2];rcases hr with hr|hr
  ·have:=ih.2 r hr
   show r<(qd7 (qs2 cs k).1 (cs.getD k (.leaf ⟨3,0,[],[]⟩))).1.length;omega
  ·simp at hr
   subst hr;exact hp.2.2
theorem MkAt.prog{W:World}{mb mp:Nat}{ts:List Tm}{rs:List Nat}{tv rv:Value}(h:MkAt W mb mp ts rs tv rv):ProgAt W mb 0 ts rs:=⟨h.lt,⟨tv,_,h.c0,h.ats⟩,rv,_,h.c1,h.ars⟩
theorem below_mk{w W W':World}{mb mp:Nat}{ts:List Tm}{rs:List Nat}{tv rv tv' rv':Value}(hb:Below w.heap.size w W)(hm:MkAt W mb mp ts rs tv rv)(hk:MkKept mb mp tv rv tv' rv' W W')(hp:w.heap.size<=mp):Below w.heap.size w W':=by
 have eH:=hm.lo;refine⟨hk.os.trans hb.os,hk.tape.trans hb.tape,hk.output.trans hb.output,Nat.le_trans hb.size hk.size,λk A1=>(hk.block k (by have:=hb.size;omega) (λho=>?_)).trans (hb.block k A1)⟩;rcases ho with rfl|rfl|ho|ho
 ·omega
 ·omega
 ·have:=(hm.ats.lt k ho).1;omega
 ·have:=(hm.ars.lt k ho).1;omega
theorem add_ends(c:Co)(hg:jh7 c)(B mb mp:Nat)(W:World)(v:Value)(ts:List Tm)(rs:List Nat)(tv rv:Value)(hm:MkAt W mb mp ts rs tv rv)(hs:CoAt B W.heap.size W v c)(ho:Out B W.heap.size mb mp tv rv)(hn:ts.length+qx8 c<=2500000000)(hr:rs.length<=1000):
  Calls prog 69 #[.pointer (some ⟨mb,0,none⟩),v] W λe w'=>∃tv' rv',e=.returned (.tuple #[])/\MkAt w' mb mp (qd7 ts c).1 (rs++[(qd7 ts c).2]) tv' rv'/\MkKept mb mp tv rv tv' rv' W w':=
 madd_any c hg B W.heap.size mb mp W v ts rs tv rv hm hs (Nat.le_refl _) ho hn hr _ λ_ tv' rv' h1 h2=>⟨tv',rv',rfl,h1,h2⟩
end
section
set_option linter.unusedSimpArgs false
set_option linter.unusedVariables false
attribute [local go_sem ↓] qp7
theorem vh9{base:Nat}{W w:World}{l:List UInt8}{tb:Nat}{t:Tm}{v:Value}(S:WSt base W l tb t w v)(s:List UInt8)(hn:l.length+s.length<=900000)(hs:s.length<=255):
  Calls prog 170 #[v,.string (BS s)] w λe w'=>∃a n c,e=.returned (.slice a n c)/\OB w' base (.slice a n c) (l++vi5 s)/\TmAt w' tb t/\Below base W w'/\base<=w'.heap.size:=by
 have hz:(BS s).size=s.length:=qc1 s;obtain⟨a,c,rfl⟩:=S.ob.form;obtain⟨m,hm⟩:∃m,l.length=m:=⟨_,rfl⟩;obtain⟨g,cap,w5,o6,S5⟩:=S.app (UInt8.ofNat s.length) (s.length:Int) (by rw[UInt8.toNat_ofNat'];simp;omega) (by omega) m hm _ rfl;have s5:=q9 S5;obtain⟨i0,hi,I8,C8,F8⟩:=info_parts vb7
 have yA:w5.ownsRow base 5 1 (.slice (some ⟨g,0,none⟩) (m+1) cap) (m+1) (qk7 (l++[UInt8.ofNat s.length])):=by
  have:=s5.ob;unfold OB at this;rw[List.length_append,List.length_singleton,hm]at this;exact this
 obtain⟨v6,w6,hr,C2,B7,_⟩:=Lib.run_append_own_string (P:=prog) w5 base 51 9 51 5 i0 underlying51 underlying9 hi I8 C8 F8 _ (m+1) _ yA (BS s) (by rw[hz];unfold maxLen;omega) (by rw[hz];omega) s5.ge;have U8:(vj9 #[51,9] 51 #[.slice (some ⟨g,0,none⟩) (m+1) cap,.string (BS s)]).run prog w5=.ok v6 w6:=hr
 have O6:OB w6 base v6 (l++vi5 s):=by
  rw[hz,vp8]at C2;show World.ownsRow _ _ _ _ _ _ _;have e:l++vi5 s=(l++[UInt8.ofNat s.length])++s:=by simp[vi5]
  rw[e,List.length_append,List.length_append,List.length_singleton,hm];unfold qk7 at C2 ⊢;rw[List.map_append (l₁:=l++[UInt8.ofNat s.length])];exact C2
 obtain⟨a6,c6,rfl⟩:=O6.form;have T6:TmAt w6 tb t:=s5.tm.same (Nat.lt_of_lt_of_le s5.tm.lt B7.size) (B7.block tb s5.tm.lt λe=>s5.ne e.symm);have B6:Below base W w6:=s5.bel.trans (Go.RowKit.Below.grown (Below.refl base w5) B7 s5.ge (λk hk=>(World.ownsRow.lt yA k hk).1));have bT:Hid (OB w6 base (.slice a6 (l++vi5 s).length c6) (l++vi5 s)/\TmAt w6 tb t/\Below base W w6/\base<=w6.heap.size):=j3 ⟨O6,T6,B6,Nat.le_trans s5.ge B7.size⟩;have EN:(0:Int)<=(s.length:Int):=by omega
 have S7:(s.length:Int)<256:=by omega
 rw[hm]at o6 ⊢;generalize (l++vi5 s).length=n6 at *;clear O6 T6 B6 S5 s5 yA hr C2 B7 S hi I8 C8 F8;go_enter func170,ntmps170
 go_wp2_with fail
 go_ret;exact⟨_,_,_,rfl,q9 bT⟩
theorem write_22(base:Nat)(v:Value)(l:List UInt8)(t:Tm)(W:World)(h:OB W base v l)(hb:base<=W.heap.size)(hn:l.length<=800000)(ht:SmallT t)(ho:t.op=22)(Q:Ending->World->Prop)(hQ:∀e w',qr5 base W (l++qv8 t) e w'->Q e w'):
  Calls prog 117 #[tmV t,v] W Q:=by
 have hE:qv8 t=[UInt8.ofNat 22,UInt8.ofNat t.left]++vi5 t.esc++vi5 t.str:=by simp[qv8,ho,vb9]
 have HQ:=j3 hQ;rw[hE]at HQ;clear hQ;have S0:=j3 (WSt.start h hb t 125);obtain⟨a,c,rfl⟩:=h.form;have hl:=ht.left;have jB:(0:Int)<=(t.left:Int):=by omega
 have bZ:(t.left:Int)<256:=by omega
 obtain⟨n,I0⟩:∃n,l.length=n:=⟨_,rfl⟩;rw[I0]at S0 hn ⊢;obtain⟨g1,I5,w1,M7,S1⟩:=(q9 S0).app (UInt8.ofNat 22) 22 (by decide) (by omega) n I0 (W.heap.size+1) (by simp);obtain⟨mP,a0,a1,a2,a3,a4,a5,af⟩:=(q9 S1).tm;obtain⟨g2,Q7,w2,U8,S2⟩:=(q9 S1).app (UInt8.ofNat t.left) (t.left:Int) (vq9 hl) (by simp;omega) (n+1) (by simp[I0]) _ rfl;obtain⟨DV,b0,b1,b2,b3,b4,b5,bf⟩:=(q9 S2).tm;have hs:=ht.str;have he:=ht.esc;have WE:=j3 (vh9 (q9 S2) t.esc (by simp;omega) (by omega));have WN:Hid (∀w3 v3,OB w3 base v3 (l++[UInt8.ofNat 22]++[UInt8.ofNat t.left]++vi5 t.esc)->base<=w3.heap.size->Calls prog 170 #[v3,.string (BS t.str)] w3 (qr5 base w3 (l++[UInt8.ofNat 22]++[UInt8.ofNat t.left]++vi5 t.esc++vi5 t.str))):=j3 λw3 v3 h3 E8=>qv1 base v3 _ t.str w3 h3 E8 (by simp[vi5];omega) (by omega) _ (λe w' h=>h)
 have hA:Hid (l++[UInt8.ofNat 22]++[UInt8.ofNat t.left]++vi5 t.esc++vi5 t.str=l++([UInt8.ofNat 22,UInt8.ofNat t.left]++vi5 t.esc++vi5 t.str)):=j3 (by simp);unfold tmV;have e0:(t.op:Int)=22:=by omega
 rw[e0]at a0 M7 b0 ⊢;clear hE ho h hl ht I0 hn hb e0 S0;go_enter func117,ntmps117
 go_wp2_with(first|(go_at_call 170;refine(q9 WN _ _ (q9 O3).1 (q9 O3).2.2).mono ?_;clear WN;rintro e w4⟨v4,rfl,gK,L7⟩;have BR:=j3 gK;have aF:=j3 L7;clear gK L7)|(go_at_call 170;refine(q9 WE).mono ?_;clear WE;rintro e w3⟨a3,n3,c3,rfl,o3,⟨QU,d0,d1,d2,d3,d4,d5,df⟩,GV,GR⟩;have O3:=j3 (And.intro o3 (And.intro GV GR));clear o3 GV GR))
 exact q9 HQ _ _ ⟨_,rfl,by have:=q9 BR;rw[q9 hA]at this;exact this,(q9 O3).2.1.trans (q9 aF)⟩
theorem qv0(t:Tm)(ht:SmallT t)(h:t.op∈[0,1,2,3,4,5,6,7,8,10,11,16,17,18,19,22,23]):vj8 t:=by
 by_cases f9:t.op=22
 ·exact λbase v l W h1 h2 h3=>write_22 base v l t W h1 h2 h3 ht f9 _ λ_ _ h=>h
 ·refine vz1 t ht ?_
  simp only[List.mem_cons,List.not_mem_nil,or_false]at h ⊢;omega
end
section
def FldP(p:CP):Prop:=(0<=p.op/\p.op<=23)/\Rng p.num/\p.str.length<=200/\p.esc.length<=1
def vt6:Co->Prop
 | .leaf p=>FldP p
 | .un p x=>FldP p/\vt6 x
 | .bin p x y=>FldP p/\vt6 x/\vt6 y
theorem qq5{op:Int}(h:0<=op/\op<=23):FldP (qa0 op):=⟨h,rng0,Nat.zero_le _,Nat.zero_le _⟩
theorem qg5{op:Int}(ho:0<=op/\op<=23){x y:Co}(hx:vt6 x)(hy:vt6 y):vt6 (j9 op x y):=by
 unfold j9
 split
 ·exact⟨qq5 ho,hy,hx⟩
 ·exact⟨qq5 ho,hx,hy⟩
theorem fld_not:∀{c:Co},vt6 c->vt6 (qd8 c):=by
 intro c
 induction c with
 | leaf p=>
  intro h;unfold qd8
  split
  ·exact qq5 (by decide)
  ·split
   ·exact qq5 (by decide)
   ·exact⟨qq5 (by decide),h⟩
 | un p x ih=>
  intro h;unfold qd8
  split
  ·exact h.2
  ·exact⟨qq5 (by decide),h⟩
 | bin p x y ihx ihy=>
  intro h;unfold qd8
  split
  ·exact qg5 (by decide) (ihx h.2.1) (ihy h.2.2)
  ·split
   ·exact qg5 (by decide) (ihx h.2.1) (ihy h.2.2)
   ·split
    ·exact qg5 (by decide) h.2.2 h.2.1
    ·split
     ·exact qg5 (by decide) h.2.2 h.2.1
     ·exact⟨qq5 (by decide),h⟩
theorem jr3{t:List UInt8}(h:t.length<=200):vt6 (qd4 t):=⟨(by show(0:Int)<=2/\(2:Int)<=23;decide),rng0,h,Nat.zero_le _⟩
theorem fld_num{n:Int}(h:Rng n):vt6 (qz1 n):=⟨(by show(0:Int)<=1/\(1:Int)<=23;decide),h,Nat.zero_le _,Nat.zero_le _⟩
theorem fld_orAll{x:Co}(hx:vt6 x):∀(r:List (List UInt8)) (f:Co),vt6 f->(∀t∈r,t.length<=200)->vt6 (qm8 x f r):=by
 intro r
 induction r with
 | nil=>intro f hf _;exact hf
 | cons t r ih=>
  intro f hf h;exact ih _ (qg5 (by decide) hf (qg5 (by decide) hx (jr3 (h t List.mem_cons_self)))) λu hu=>h u (List.mem_cons_of_mem _ hu)
theorem fld_among{x:Co}(hx:vt6 x){ts:List (List UInt8)}(h:∀t∈ts,t.length<=200):vt6 (qh1 x ts):=by
 have hm:∀u∈qe5 ts,u.length<=200:=λu hu=>h u (qx9 hu)
 unfold qh1
 cases hs:qe5 ts with
 | nil=>exact hx
 | cons t r=>
  rw[hs]at hm;exact fld_orAll hx r _ (qg5 (by decide) hx (jr3 (hm t List.mem_cons_self))) λu hu=>hm u (List.mem_cons_of_mem _ hu)
theorem fld_core:∀t,ShA t->vg5 t->vg4 t->BqA t->vt6 (j8 t):=by
 intro t
 induction t with
 | leaf p=>intro h0 h1 h2 h3;exact⟨⟨h0.1,by have:=h0.2;show p.op<=23;omega⟩,h1,h2.1,h3.1⟩
 | un p x ih=>
  intro h0 h1 h2 h3;have hx:=ih h0.2.2.2 h1.2 h2.2 h3.2;rw[j8]
  split
  ·exact qg5 (by decide) (fld_num rng0) hx
  ·split
   ·exact qg5 (by decide) (fld_num rng0) hx
   ·split
    ·exact fld_not hx
    ·split
     ·exact fld_among hx h3.1.2
     ·exact⟨⟨by have:=h0.1;show 0<=p.op/\p.op<=23;omega,h1.1,h2.1.1,h3.1.1⟩,hx⟩
 | bin p x y ihx ihy=>
  intro h0 h1 h2 h3;have hx:=ihx h0.2.1 h1.2.1 h2.2.1 h3.2.1;have hy:=ihy h0.2.2 h1.2.2 h2.2.2 h3.2.2;rw[j8]
  split
  ·exact qg5 (by decide) hy hx
  ·split
   ·exact qg5 (by decide) hy hx
   ·split
    ·exact fld_not (qg5 (by decide) hx hy)
    ·exact qg5 (by have:=h0.1;omega) hx hy
 | tri p x y z ihx ihy ihz=>
  intro h0 h1 h2 h3;have hx:=ihx h0.2.1 h1.2.1 h2.2.1 h3.2.1;have hy:=ihy h0.2.2.1 h1.2.2.1 h2.2.2.1 h3.2.2.1;have hz:=ihz h0.2.2.2 h1.2.2.2 h2.2.2.2 h3.2.2.2;exact qg5 (by decide) (qg5 (by decide) hy hx) (qg5 (by decide) hx hz)
theorem good_fld:∀{c:Co},vt6 c->jh7 c:=by
 have hp:∀{p:CP},FldP p->GoodP p:=λh=>⟨h.1,h.2.1,by have:=h.2.2.1;omega,by have:=h.2.2.2;omega⟩
 intro c
 induction c with
 | leaf p=>exact λh=>hp h
 | un p x ih=>exact λh=>⟨hp h.1,ih h.2⟩
 | bin p x y ihx ihy=>exact λh=>⟨hp h.1,ihx h.2.1,ihy h.2.2⟩
theorem za2:∀{c:Co},WfC c->qx8 c<=2 * (x9 c).length+1:=by
 intro c
 induction c with
 | leaf p=>intro _;show 1<=_;omega
 | un p x ih=>
  intro h;have hx:=ih h.2
  have hl:(x9 x).length+1<=(x9 (.un p x)).length:=by
   show _<=(qb1 p (x9 x) []).length;have hu:=h.1;unfold unB at hu;simp only[Bool.or_eq_true,beq_iff_eq]at hu;unfold qb1;rcases hu with(hu|hu)|hu<;>rw[hu]<;>simp<;>omega
  show qx8 x+1<=_;omega
 | bin p x y ihx ihy=>
  intro h;have hx:=ihx h.2.1;have hy:=ihy h.2.2;have hl:=qj0 h.1 x y;show qx8 x+qx8 y+1<=_;omega
structure CoreOk(c:Co):Prop where
 fld:vt6 c
 wf:WfC c
 size:qx8 c<=250000000
theorem core_ok{s:ByteArray}{t:Ast}(h:qg4 s=.ok t):CoreOk (j8 t):=by
 obtain⟨h1,h2,h3,h4,h5,h6⟩:=qs6 h;refine⟨fld_core t h3 h4 h5 h6,h1.gd.wf, ?_⟩;have h7:=za2 h1.gd.wf;have h8:=h1.gd.len;have h9:ndA t * ndA t<=200 * 200:=Nat.mul_le_mul h2 h2;omega
end
end Go.Proofs.YtfkcaldjphakpaaGreatDoor
