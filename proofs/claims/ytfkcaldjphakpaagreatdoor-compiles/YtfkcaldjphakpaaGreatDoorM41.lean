/- The laws by the document's answer. -/
import Derived.Test.YtfkcaldjphakpaaGreatDoorM40
set_option maxHeartbeats 16000000
set_option maxRecDepth 100000
namespace Go.Proofs.YtfkcaldjphakpaaGreatDoor
open Go.RowKit Go.Proofs.Tryz
theorem cmp_ok(ss:List (List UInt8)):∀f k,k+f<=ss.length->(vi2 ss f k).1=0->(∃E,AdOk ss k E)->(gTs ss k).1.length<=80->(∃E,AdOk ss (k+f) E)/\(gTs ss (k+f)).1.length<=80:=by
 intro f
 induction f with
 | zero=>intro k _ _ h1 h2;exact⟨h1,h2⟩
 | succ f ih=>
  intro k hk h0 hE bL;obtain⟨s,hs⟩:∃s,ss[k]?=some s:=⟨_,List.getElem?_eq_getElem (by omega)⟩;rw[vi2]at h0
  have F0:vb5 ss k=match qg4 (BS s) with|.err en _=>some en|.ok _=>if 80<(gTs ss (k+1)).1.length then some 8 else none:=by
   unfold vb5;rw[hs];simp only;cases qg4 (BS s)<;>rfl
  cases hr:qg4 (BS s) with
  | err en pl=>
   rw[hr]at F0;simp only at F0;rw[F0]at h0;have:=qi8 hr;have h0:en=0:=h0;omega
  | ok t=>
   rw[hr]at F0;simp only at F0
   by_cases h8:80<(gTs ss (k+1)).1.length
   ·rw[F0,if_pos h8]at h0
    exact absurd h0 (by show(8:Int)≠0;decide)
   ·rw[F0,if_neg h8]at h0
    obtain⟨E,hE⟩:=hE;have:=ih (k+1) (by omega) h0 (hE.step hs hr) (by omega);rwa [show k+1+f=k+(f+1) by omega]at this
theorem cmpR_ok{ss:List (List UInt8)}(h:(vk3 ss).1=0):ss.length<=8/\(∃E,AdOk ss ss.length E)/\(gTs ss ss.length).1.length<=80:=by
 unfold vk3 at h
 by_cases h8:8<ss.length
 ·rw[if_pos h8]at h;exact absurd h (by show(8:Int)≠0;decide)
 ·rw[if_neg h8]at h
  have:=cmp_ok ss ss.length 0 (by omega) h ⟨[],AdOk.zero ss⟩ (Nat.zero_le _);rw[Nat.zero_add]at this;exact⟨by omega,this⟩
theorem rsum_le:∀(E:List Co),(∀c∈E,FldP (js2 c))->vd1 E<=200 * E.length:=by
 intro E
 induction E with
 | nil=>intro _;simp[vd1]
 | cons c E ih=>
  intro h;have h1:=ih (λd hd=>h d (List.mem_cons_of_mem _ hd));have h2:=(h c List.mem_cons_self).2.2.1;have h3:vf6 (js2 c)<=200:=by unfold vf6;split<;>omega
  unfold vd1 at h1 ⊢;rw[List.map_cons,List.sum_cons,List.length_cons];omega
theorem ji6{ss:List (List UInt8)}(h:(vk3 ss).1=0):(vg7 (qs2 (ss.map coS) ss.length).1 (qs2 (ss.map coS) ss.length).2).length<=16+16 * (gTs ss ss.length).1.length+4 * ss.length+(gTs ss ss.length).2/\(vg7 (qs2 (ss.map coS) ss.length).1 (qs2 (ss.map coS) ss.length).2).length<=100000:=by
 obtain⟨h8,⟨E,hE⟩,bL⟩:=cmpR_ok h;have h1:=hE.bytes bL;have h2:=rsum_le E hE.fld;have h3:(gTs ss ss.length).2=vd1 E:=by rw[hE.tx]
 have h4:(gTs ss ss.length).1.length=E.length:=by rw[hE.tx];simp
 exact⟨h1,by omega⟩
theorem cmpG_zero(ss:List (List UInt8)):∀f k,(vi2 ss f k).1=0->vi2 ss f k=(0,0):=by
 intro f
 induction f with
 | zero=>intro k _;rfl
 | succ f ih=>
  intro k h0;rw[vi2]at h0 ⊢
  cases F0:vb5 ss k with
  | none=>rw[F0]at h0;exact ih (k+1) h0
  | some e=>
   rw[F0]at h0;have h0:e=0:=h0;exfalso;unfold vb5 at F0
   cases hs:ss[k]? with
   | none=>rw[hs]at F0;cases F0
   | some s=>
    rw[hs]at F0;simp only at F0
    cases hr:qg4 (BS s) with
    | err en pl=>
     rw[hr]at F0;injection F0 with F0;have:=qi8 hr;omega
    | ok t=>
     rw[hr]at F0;simp only at F0
     split at F0
     ·injection F0 with F0;omega
     ·cases F0
theorem cmpR_zero{ss:List (List UInt8)}(h:(vk3 ss).1=0):vk3 ss=(0,0):=by
 unfold vk3 at h ⊢
 by_cases h8:8<ss.length
 ·rw[if_pos h8]at h;exact absurd h (by show(8:Int)≠0;decide)
 ·rw[if_neg h8]at h ⊢;exact cmpG_zero ss _ _ h
theorem keep_of{w W Y:World}{B hb bn:Nat}{hv bv:Value}{hs:List (Nat×Nat)}{bxs:List Value}(h:HsAt w W hv hs)(hY:Below W.heap.size W Y)(hB:W.heap.size<=B)(hF:FmAt B Y hb 0 (.slice none 0 0) bv 0 bn [] bxs)(hn:hs.length<=9000000000000)(jF:bn<=100000000):
  Calls prog 84 #[.pointer (some ⟨w.heap.size,0,none⟩),.pointer (some ⟨hb,0,none⟩)] Y λe W'=>e=.returned (.tuple #[])/\∃hv' hs',HsAt w W' hv' hs'/\hs'.length=hs.length+4:=by
 have A1:=h.lt;exact keep_any (h.below hY) hF (by omega) (λk hk=>by have:=(h.row.lt k hk).2;omega) (λx hx=>((h.each x hx).1.keep (λ_ _ _=>rfl) (λb T9 hl=>⟨T9,by omega⟩)).below hY) hn (by omega) jF
theorem ja9{w W:World}{hv:Value}{hs:List (Nat×Nat)}{x:Ox}(h:HsAt w W hv hs)(hx:OxOk W x)(hL:LibOk W)(hn:hs.length<=9000000000000)(hR:(vk3 x.ts).1≠0):Calls prog 47 #[.pointer (some ⟨w.heap.size,0,none⟩),oxV x] W λe W'=>e=.returned (.bool true)/\∃hv' hs',HsAt w W' hv' hs'/\hs'.length=hs.length+4:=by
 obtain⟨kind,nn,id,text,la,lc,ts,ev,ps⟩:=x;obtain⟨ea,en,ec,aL⟩:=hx.ev.slice;have aL:ev=.slice ea en ec:=aL;subst aL;have dE:TxIn W la ts:=hx.tx;have U2:16 * ts.length<=140737488355328:=hx.tl;have mW:ts.length<=lc:=hx.tc;have hR:(vk3 ts).1≠0:=hR
 have N0:∀t∈ts,t.length<=140737488355328:=λt ht=>by
  obtain⟨k,hk⟩:=List.getElem?_of_mem ht;exact(dE k t hk).1
 obtain⟨n,I0⟩:∃n,ts.length=n:=⟨_,rfl⟩;obtain⟨V,hV⟩:∃V:World,V=W.alloc (.cells #[.int .i64 kind,.int .i64 nn,.int .i64 id,.string (BS text),.slice la n lc,.slice ea en ec] 64):=⟨_,rfl⟩;have aP:Below W.heap.size W V:=hV ▸ (Below.refl _ _).alloc (Nat.le_refl _) _
 have oH:V.heap.size=W.heap.size+1:=by rw[hV];simp
 have eV:V.cell? ⟨W.heap.size,4,none⟩=some (.slice la n lc):=by rw[hV];simp
 have TXT:=j3 (jg0 (c:=lc) (dE.below aP) U2)
 have CMP:Hid (∀U,Below V.heap.size V U->TsRow U V.heap.size ts 8->Calls prog 41 #[.slice (some ⟨V.heap.size,0,none⟩) n (n+8)] U λe w'=>Below U.heap.size U w'/\e=.returned (.tuple #[.slice none 0 0,.int .i64 (vk3 ts).1,.int .i64 ((vk3 ts).2:Nat)])):=j3 λU hU hr=>by
  have:=vk6 ts (some ⟨V.heap.size,0,none⟩) (n+8) U (hL.below (j6 aP hU) (Nat.le_refl _)) (hr.tx N0);rw[I0]at this;refine this.mono ?_;rintro e w'⟨h1,⟨h2,_⟩|⟨_,h2⟩⟩
  ·exact absurd h2 hR
  ·exact⟨h1,h2⟩
 have CMD:Hid (∀U,Below V.heap.size V U->Calls prog 81 #[.slice la n lc] U λe w'=>e=.returned (.tuple #[.int .i64 (vk3 ts).1,.int .i64 ((vk3 ts).2:Nat)])/\Below U.heap.size U w'):=j3 λU hU=>by
  have:=vc6 (dE.below (j6 aP hU)) mW;rw[I0]at this;exact this
 have STY:Hid (∀U,Below V.heap.size V U->TsRow U V.heap.size ts 8->Calls prog 82 #[.slice (some ⟨V.heap.size,0,none⟩) (n+8) (n+8),.slice la n lc] U λe w'=>e=.returned (.bool true)/\Below U.heap.size U w'):=j3 λU hU hr=>by
  have:=js9 (c:=lc) hr (dE.below (j6 aP hU)) U2;rw[I0]at this;exact this
 have KEEP:Hid (∀U Y:World,Below V.heap.size V U->Y=U.alloc (.cells #[.slice none 0 0,.slice none 0 0,.int .i64 0] 146)->Calls prog 84 #[.pointer (some ⟨w.heap.size,0,none⟩),.pointer (some ⟨U.heap.size,0,none⟩)] Y λe W'=>e=.returned (.tuple #[])/\∃hv' hs',HsAt w W' hv' hs'/\hs'.length=hs.length+4):=j3 λU Y hU hY=>by
  have hz:=hU.size;refine keep_of (B:=W.heap.size) (bv:=.slice none 0 0) (bn:=0) (bxs:=[]) h (hY ▸ j6 (j6 aP hU) ((Below.refl _ _).alloc (Nat.le_refl _) _)) (Nat.le_refl _) ⟨by omega,⟨_,by rw[hY];exact heap_alloc_new U _⟩,by rw[hY];simp,by rw[hY];simp,by rw[hY];simp,λi=>by rw[hY];simp,World.ownsRow_nil _ _ _ _,World.ownsRow_nil _ _ _ _,by simp[Value.ownBlock],by simp[Value.ownBlock],by simp[Value.ownBlock]⟩ hn (by omega)
 obtain⟨R,FY⟩:∃R,vk3 ts=R:=⟨_,rfl⟩;rw[FY]at CMP CMD hR;have iD:(R.1==0)=false:=by simpa using hR
 unfold vj7 at TXT;rw[I0]at TXT;have mB:W.heap.size<W.heap.size+1:=Nat.lt_succ_self _;rw[oH]at TXT CMP CMD STY KEEP;unfold oxV;simp only;rw[I0];have NV:(0:Int)<=(n:Int):=by omega
 have NU:(n:Int)<=(n:Int)+8:=by omega
 clear h hx hL dE U2 mW N0 aP FY hR oH;subst hV;go_enter func47,ntmps47
 go_wp2_with(first|(go_at_call 84;have _q:=U0;refine(q9 KEEP _ _ (q9 U0) rfl).mono ?_;rintro e w6⟨rfl,b8⟩;have lB:=j3 b8;clear b8)|(go_at_call 82;have _q:=aF;refine(q9 STY _ (q9 aF) (q9 I6)).mono ?_;rintro e w5⟨rfl,S4⟩;have U0:=j3 ((q9 aF).trans (S4.mono (show W.heap.size+1<=w4.heap.size by omega)));clear S4)|(go_at_call 81;have _q:=G2;refine(q9 CMD _ (q9 G2)).mono ?_;rintro e w4⟨rfl,L7⟩;have aF:=j3 ((q9 G2).trans (L7.mono (show W.heap.size+1<=w3.heap.size by omega)));have I6:=j3 ((q9 F4).below L7);have JM:w4.cell? ⟨W.heap.size,4,none⟩=some (.slice la n lc):=((q9 aF).cell (p:=⟨W.heap.size,4,none⟩) mB).trans eV;have l4:W.heap.size<w4.heap.size:=(by have:=(q9 aF).size;simp at this;omega);clear L7)|(go_at_call 41;have _q:=J2;refine(q9 CMP _ (q9 J2) (q9 D6)).mono ?_;rintro e w3⟨E8,rfl⟩;have G2:=j3 ((q9 J2).trans (E8.mono (show W.heap.size+1<=w2.heap.size by omega)));have F4:=j3 ((q9 D6).below E8);have JO:w3.cell? ⟨W.heap.size,4,none⟩=some (.slice la n lc):=((q9 G2).cell (p:=⟨W.heap.size,4,none⟩) mB).trans eV;have l3:W.heap.size<w3.heap.size:=(by have:=(q9 G2).size;simp at this;omega);clear E8)|(go_at_call 80;refine(q9 TXT).mono ?_;rintro e w2⟨rfl,A5,B9⟩;have J2:=j3 B9;have D6:=j3 A5;have JP:w2.cell? ⟨W.heap.size,4,none⟩=some (.slice la n lc):=(B9.cell (p:=⟨W.heap.size,4,none⟩) mB).trans eV;have l2:W.heap.size<w2.heap.size:=(by have:=B9.size;simp at this;omega);clear B9 A5))
 go_ret;exact⟨rfl,q9 lB⟩
theorem vu3{w W:World}{hv:Value}{hs:List (Nat×Nat)}{x:Ox}(h:HsAt w W hv hs)(hx:OxOk W x)(hL:LibOk W)(hn:hs.length<=9000000000000)(hR:(vk3 x.ts).1=0):Calls prog 47 #[.pointer (some ⟨w.heap.size,0,none⟩),oxV x] W λe W'=>e=.returned (.bool true)/\∃hv' hs',HsAt w W' hv' hs'/\hs'.length=hs.length+4:=by
 obtain⟨kind,nn,id,text,la,lc,ts,ev,ps⟩:=x;obtain⟨ea,en,ec,aL⟩:=hx.ev.slice;have aL:ev=.slice ea en ec:=aL;subst aL;have dE:TxIn W la ts:=hx.tx;have U2:16 * ts.length<=140737488355328:=hx.tl;have mW:ts.length<=lc:=hx.tc;have hR:(vk3 ts).1=0:=hR;obtain⟨cI,mZ⟩:=ji6 hR;obtain⟨h8,_⟩:=cmpR_ok hR;have I1:=cmpR_zero hR;obtain⟨LB,AK⟩:∃L,vg7 (qs2 (ts.map coS) ts.length).1 (qs2 (ts.map coS) ts.length).2=L:=⟨_,rfl⟩;obtain⟨N,hN⟩:∃N,LB.length=N:=⟨_,rfl⟩;rw[AK,hN]at cI mZ
 have N0:∀t∈ts,t.length<=140737488355328:=λt ht=>by
  obtain⟨k,hk⟩:=List.getElem?_of_mem ht;exact(dE k t hk).1
 obtain⟨n,I0⟩:∃n,ts.length=n:=⟨_,rfl⟩;obtain⟨V,hV⟩:∃V:World,V=W.alloc (.cells #[.int .i64 kind,.int .i64 nn,.int .i64 id,.string (BS text),.slice la n lc,.slice ea en ec] 64):=⟨_,rfl⟩;have aP:Below W.heap.size W V:=hV ▸ (Below.refl _ _).alloc (Nat.le_refl _) _
 have oH:V.heap.size=W.heap.size+1:=by rw[hV];simp
 have eV:V.cell? ⟨W.heap.size,4,none⟩=some (.slice la n lc):=by rw[hV];simp
 have TXT:=j3 (jg0 (c:=lc) (dE.below aP) U2)
 have CMP:Hid (∀U,Below V.heap.size V U->TsRow U V.heap.size ts 8->Calls prog 41 #[.slice (some ⟨V.heap.size,0,none⟩) n (n+8)] U λe w'=>Below U.heap.size U w'/\∃a c,e=.returned (.tuple #[.slice a N c,.int .i64 0,.int .i64 0])/\w'.ownsRow U.heap.size 5 1 (.slice a N c) N (qk7 LB)):=j3 λU hU hr=>by
  have:=vk6 ts (some ⟨V.heap.size,0,none⟩) (n+8) U (hL.below (j6 aP hU) (Nat.le_refl _)) (hr.tx N0);rw[I0]at this;refine this.mono ?_;rintro e w'⟨h1,⟨_,v,h2,h3⟩|⟨h2,_⟩⟩
  ·rw[AK]at h3
   obtain⟨a,c,rfl⟩:=h3.form;have GO:w'.ownsRow U.heap.size 5 1 (.slice a LB.length c) LB.length (qk7 LB):=h3;rw[hN]at h2 GO;exact⟨h1,a,c,h2,GO⟩
  ·exact absurd hR h2
 have CMD:Hid (∀U,Below V.heap.size V U->Calls prog 81 #[.slice la n lc] U λe w'=>e=.returned (.tuple #[.int .i64 (vk3 ts).1,.int .i64 ((vk3 ts).2:Nat)])/\Below U.heap.size U w'):=j3 λU hU=>by
  have:=vc6 (dE.below (j6 aP hU)) mW;rw[I0]at this;exact this
 have SIZ:Hid (∀U,Below V.heap.size V U->Calls prog 83 #[.slice la n lc] U λe w'=>e=.returned (.int .i64 ((16+16 * (gTs ts n).1.length+4 * n+(gTs ts n).2:Nat):Int))/\Below U.heap.size U w'):=j3 λU hU=>rsize_any (dE.below (j6 aP hU)) I0 (by omega)
 have STY:Hid (∀U,Below V.heap.size V U->TsRow U V.heap.size ts 8->Calls prog 82 #[.slice (some ⟨V.heap.size,0,none⟩) (n+8) (n+8),.slice la n lc] U λe w'=>e=.returned (.bool true)/\Below U.heap.size U w'):=j3 λU hU hr=>by
  have:=js9 (c:=lc) hr (dE.below (j6 aP hU)) U2;rw[I0]at this;exact this
 have KEEP:Hid (∀(B:Nat) (U Y:World) (a:Option Addr) (c:Nat),Below V.heap.size V U->W.heap.size<=B->B<=U.heap.size->U.ownsRow B 5 1 (.slice a N c) N (qk7 LB)->Y=U.alloc (.cells #[.slice none 0 0,.slice a N c,.int .i64 0] 146)->Calls prog 84 #[.pointer (some ⟨w.heap.size,0,none⟩),.pointer (some ⟨U.heap.size,0,none⟩)] Y λe W'=>e=.returned (.tuple #[])/\∃hv' hs',HsAt w W' hv' hs'/\hs'.length=hs.length+4):=j3 λB U Y a c hU oO oN hO hY=>by
  have hz:=hU.size;have FU:Below U.heap.size U Y:=hY ▸ (Below.refl _ _).alloc (Nat.le_refl _) _
  refine keep_of (B:=B) (bn:=N) h (j6 (j6 aP hU) FU) oO ⟨oN,⟨_,by rw[hY];exact heap_alloc_new U _⟩,by rw[hY];simp,by rw[hY];simp,by rw[hY];simp,λi=>by rw[hY];simp,World.ownsRow_nil _ _ _ _,qc3 hO FU (Nat.le_refl _),by simp[Value.ownBlock],λe=>by have:=(hO.lt _ e).2;omega,by simp[Value.ownBlock]⟩ hn (by omega)
 rw[I1]at CMD;obtain⟨SZ,AE⟩:∃S,16+16 * (gTs ts n).1.length+4 * n+(gTs ts n).2=S:=⟨_,rfl⟩;rw[I0,AE]at cI;rw[AE]at SIZ;have N8:(N:Int)<=(SZ:Int):=by omega
 unfold vj7 at TXT;rw[I0]at TXT;have mB:W.heap.size<W.heap.size+1:=Nat.lt_succ_self _;rw[oH]at TXT CMP CMD STY KEEP SIZ;unfold oxV;simp only;rw[I0];have NV:(0:Int)<=(n:Int):=by omega
 have NU:(n:Int)<=(n:Int)+8:=by omega
 clear h hx hL dE U2 mW N0 aP hR I1 oH AK hN cI AE h8;subst hV;go_enter func47,ntmps47
 go_wp2_with(first|(go_at_call 84;have _q:=JB;refine(q9 KEEP _ _ _ _ _ (q9 JB) zG zF (q9 PC) rfl).mono ?_;rintro e w6⟨rfl,b8⟩;have lB:=j3 b8;clear b8)|(go_at_call 83;have _q:=U0;refine(q9 SIZ _ (q9 U0)).mono ?_;rintro e w7⟨rfl,oD⟩;have JB:=j3 ((q9 U0).trans (oD.mono (show W.heap.size+1<=w5.heap.size by omega)));have PC:=j3 (qc3 (q9 fC) oD (Nat.le_refl _));have zF:w2.heap.size<=w7.heap.size:=(by have:=oD.size;omega);clear oD)|(go_at_call 82;have _q:=aF;refine(q9 STY _ (q9 aF) (q9 I6)).mono ?_;rintro e w5⟨rfl,S4⟩;have U0:=j3 ((q9 aF).trans (S4.mono (show W.heap.size+1<=w4.heap.size by omega)));have fC:=j3 (qc3 (q9 BR) S4 (Nat.le_refl _));have QX:w5.cell? ⟨W.heap.size,4,none⟩=some (.slice la n lc):=((q9 U0).cell (p:=⟨W.heap.size,4,none⟩) mB).trans eV;have l5:W.heap.size<w5.heap.size:=(by have:=S4.size;omega);have z5:w2.heap.size<=w5.heap.size:=(by have:=S4.size;omega);clear S4)|(go_at_call 81;have _q:=G2;refine(q9 CMD _ (q9 G2)).mono ?_;rintro e w4⟨rfl,L7⟩;have aF:=j3 ((q9 G2).trans (L7.mono (show W.heap.size+1<=w3.heap.size by omega)));have I6:=j3 ((q9 F4).below L7);have JM:w4.cell? ⟨W.heap.size,4,none⟩=some (.slice la n lc):=((q9 aF).cell (p:=⟨W.heap.size,4,none⟩) mB).trans eV;have l4:W.heap.size<w4.heap.size:=(by have:=(q9 aF).size;simp at this;omega);have BR:=j3 (qc3 (q9 PD) L7 (Nat.le_refl _));have z4:w2.heap.size<=w4.heap.size:=(by have:=L7.size;omega);clear L7)|(go_at_call 41;have _q:=J2;refine(q9 CMP _ (q9 J2) (q9 D6)).mono ?_;rintro e w3⟨E8,ca,cc,rfl,Y8⟩;have PD:=j3 Y8;have z3:w2.heap.size<=w3.heap.size:=E8.size;have zG:W.heap.size<=w2.heap.size:=(by omega);have G2:=j3 ((q9 J2).trans (E8.mono (show W.heap.size+1<=w2.heap.size by omega)));have F4:=j3 ((q9 D6).below E8);have JO:w3.cell? ⟨W.heap.size,4,none⟩=some (.slice la n lc):=((q9 G2).cell (p:=⟨W.heap.size,4,none⟩) mB).trans eV;have l3:W.heap.size<w3.heap.size:=(by have:=(q9 G2).size;simp at this;omega);clear E8 Y8)|(go_at_call 80;refine(q9 TXT).mono ?_;rintro e w2⟨rfl,A5,B9⟩;have J2:=j3 B9;have D6:=j3 A5;have JP:w2.cell? ⟨W.heap.size,4,none⟩=some (.slice la n lc):=(B9.cell (p:=⟨W.heap.size,4,none⟩) mB).trans eV;have l2:W.heap.size<w2.heap.size:=(by have:=B9.size;simp at this;omega);clear B9 A5))
 go_ret;exact⟨rfl,q9 lB⟩
theorem ja8{w W:World}{hv:Value}{hs:List (Nat×Nat)}{x:Ox}(h:HsAt w W hv hs)(hx:OxOk W x)(hL:LibOk W)(hn:hs.length<=9000000000000):Calls prog 47 #[.pointer (some ⟨w.heap.size,0,none⟩),oxV x] W λe W'=>e=.returned (.bool true)/\∃hv' hs',HsAt w W' hv' hs'/\hs'.length=hs.length+4:=by
 by_cases hR:(vk3 x.ts).1=0
 ·exact vu3 h hx hL hn hR
 ·exact ja9 h hx hL hn hR
theorem jf7{w W:World}{hv:Value}{hs:List (Nat×Nat)}{x:Ox}(h:HsAt w W hv hs)(hx:OxOk W x)(hL:LibOk W)(hn:hs.length<=9000000000000)(hk:x.kind=3):Calls prog 33 #[.pointer (some ⟨w.heap.size,0,none⟩),oxV x] W λe W'=>e=.returned (.bool true)/\∃hv' hs',HsAt w W' hv' hs'/\hs'.length=hs.length+4:=by
 obtain⟨ea,en,ec,aL⟩:=hx.ev.slice;have EV:Hid (∀U,Below W.heap.size W U->Calls prog 47 #[.pointer (some ⟨w.heap.size,0,none⟩),oxV x] U λe W'=>e=.returned (.bool true)/\∃hv' hs',HsAt w W' hv' hs'/\hs'.length=hs.length+4):=j3 λU hb=>ja8 (h.below hb) (hx.below hb) (hL.below hb (Nat.le_refl _)) hn
 unfold oxV at EV ⊢;rw[hk,aL]at EV ⊢;have A7:=j3 ((Below.refl W.heap.size W).alloc (Nat.le_refl _) (.cells #[.int .i64 3,.int .i64 x.n,.int .i64 x.id,.string (BS x.text),.slice x.la x.ts.length x.lc,.slice ea en ec] 64));clear h hx hL hk aL;go_enter func33,ntmps33
 go_wp2_with(go_at_call 47;refine(q9 EV _ (q9 A7)).mono ?_;rintro e w2⟨rfl,A3⟩;have E9:=j3 A3;clear A3)
 go_ret;exact⟨rfl,q9 E9⟩
theorem jb0(w:World)(v:Value)(l:List Ox)(hl:OpsAt w v l)(hL:LibOk w):Calls prog 10 #[v] w λe w'=>e=.returned (.bool true)/\Below w.heap.size w w':=by
 have oB:88 * l.length<=140737488355328:=by obtain⟨_,_,_,_,h,_⟩:=hl;exact h
 have UP:Hid (Calls prog 15 #[v,.int .i64 3,.int .i64 3] w λe w'=>e=.returned (.int .i64 (-1))/\Below w.heap.size w w'):=j3 ((za7 3 3 (λk W=>∃hv hs,HsAt w W hv hs/\hs.length<=4 * k) w v l hl ⟨_,[],HsAt.start w,Nat.zero_le _⟩ (λk W ⟨_,_,h,_⟩=>h.bel) (λk W W' ⟨hv,hs,h,hn⟩ hb=>⟨hv,hs,h.below hb,hn⟩) (λk W ⟨hv,hs,h,hn⟩=>⟨hv,hs,h,by omega⟩)
  (λk W x hk ⟨hv,hs,h,hn⟩ hx hkind=>(jf7 h hx (hL.below h.bel (Nat.le_refl _)) (by omega) (by omega)).mono λe W' ⟨h1,hv',hs',h2,h3⟩=>⟨h1,hv',hs',h2,by omega⟩)
  (λk W hk ⟨hv,hs,h,hn⟩=>(looks_any h (by omega)).mono λe W' ⟨h1,h2⟩=>⟨h1,hv,hs,h2,hn⟩)).mono λe w' ⟨h1,hv,hs,h2,_⟩=>⟨h1,h2.bel⟩)
 obtain⟨a,cap,rfl,_⟩:=hl;clear hL oB;go_enter func10,ntmps10
 go_wp2_with(go_at_call 15;refine(q9 UP).mono ?_;rintro e w2⟨rfl,B9⟩)
 go_ret;exact⟨rfl,B9⟩
end Go.Proofs.YtfkcaldjphakpaaGreatDoor
