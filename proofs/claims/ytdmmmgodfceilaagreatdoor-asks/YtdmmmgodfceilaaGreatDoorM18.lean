/- The document's answer -/
import Derived.Test.YtdmmmgodfceilaaGreatDoorM17
set_option maxHeartbeats 4000000
set_option maxRecDepth 100000
namespace Go.Proofs.YtdmmmgodfceilaaGreatDoor
open Go.RowKit Go.Proofs.Tryz
open Go renaming Value->Ap,World->Ao
open Go.Ending renaming returned->Ak
open Go.IntKind renaming i64->J
open Go.Obj renaming cells->Al
open Go.Value renaming agg->Ai,bool->Ah,int->I,pointer->Ag,slice->C,string->Y
open Option renaming none->O,some->G
open Or renaming inl->Am
variable{neg:Bool}{E S:tq}{x y:Co}{Q:Ending->Ao->Prop}{N a c:Int}{q:tu}{b cap n:Nat}{M:Nat->Prop}{g h:RF}{P PZ:RF->Ao->Prop}{inv iv lv:Ap}{w:Ao}
theorem vfk(hi:inv=C (G ⟨b,0,O⟩) n cap)(hn:2<=n)(O0:b<w.1.size)(hc:∀k,k<12->w.cell? ⟨b,k,O⟩=(qw g++qw h)[k]?)
   (HZ:xJ w PZ)
  (hx:RfAt M w x g) (hy:RfAt M w y h) (K:∀b,M b->b<w.1.size) (zx:kS x) (zy:kS y) (HD:qm1 (qp 8 x y)):ua 101 #[Ai #[Y ⟨#[60,62]⟩,I J a,iv,Y S,Y E,lv,I J N,Ah neg,I J c],inv] w (xI M w (vg (qp 8 x y))):=by
 have DZ:=jv HZ (Y ⟨#[60,62]⟩) (I J a) iv (Y S) (Y E) lv (I J N) (Ah neg) (I J c);clear HZ;have F:=kb2 O0 hc;obtain⟨c0,c1,c2,c3,c4,c5,c6,c7,c8,c9,ED,EC⟩:=q9 F w uj;have np:¬b=w.1.size:=ub;have lC:¬b=w.1.size+1:=ub;have rU:¬w.1.size+1=b:=ub;have eO:0<n:=ub;have cY:=ur n;have t9:1<n:=ub;have BR:(1:Int)<(n:Int):=ub;clear hc;subst hi;go_enter func101,ntmps101
 go_wp2_with(go_at_call 145;refine DZ.mono ?_;rintro e A⟨z,rfl,K9,o9,⟨n0,-,-,-,-,-,-,-,-,r0,r1,r2,m,r4,r5,rz,rl,lB,lA,iZ,iY⟩,R,T⟩;obtain⟨m0,-,-,-,-,-,-,-,-,s0,s1,s2,s3,s4,s5,sz,sl,-,-,-,-⟩:=q9 R;obtain⟨v0,v1,v2,v3,v4,v5,v6,v7,v8,v9,AK,AJ⟩:=q9 F _ (qg K9 T);have sS:¬b=A.1.size:=ub;have iE:¬A.1.size=b:=ub)
 obtain⟨d,L⟩:=uk ((A.alloc (Al #[Y z.op,Y (BS z.Q),I J z.H,C z.pa z.pn z.pc,C z.ta z.tn z.tc,C z.ra z.rn z.rc] 106)));have B8:A.1.size<d.1.size:=by rw[L];simp
 have l:=qd (qg K9 T);rw[<-L]at s0 s1 s2 s3 s4 s5 sz sl v0 v1 v2 v3 v4 v5 v6 v7 v8 v9 AK AJ l R |-;clear L T o9 m0 n0 r0 r1 r2 m r4 r5 rz c0 c1 c2 c3 c4 c5 c6 c7 c8 c9 ED EC;have A0:b<d.1.size:=ub;have U:Hid (∀W,Xb d W->(Kx2 W b g h)):=qd λW s=>q9 F W (qg l s)
 have H:Hid (∀W,Xb d W->RfAt M W x g):=qd λW s=>hx.below (qg l s)
 have BXx:=qd zx;have Z:Hid (∀W,Xb d W->RfAt M W y h):=qd λW s=>hy.below (qg l s)
 have BXy:=qd zy;have fG:Hid (∀b,M b->b<d.1.size):=qd λb h=>aq (K b h) l.size
 have XS:=qd K;clear K F hx zx hy zy;have DN:=qd HD;clear HD
 go_cut [6] (λs6 wx=>∃B r,s6=Ag (G ⟨B,0,O⟩)/\Hid (OutAt M d wx B (qp 8 x y) r))
 case first=>
  have OY:b<d.1.size:=ub;have OC:¬b=d.1.size:=ub;have OB:¬d.1.size=b:=ub;have TWA:Hid (∀W:Ao,Xb d W->d.1.size<W.1.size->TwC (λb=>M b\/(d.1.size<=b/\b≠d.1.size)) W ⟨#[61]⟩ g h (qp 8 x y)):=qd λW f h3=>qko (o:=8) (by simp[vF]) f (ky (H W f) (λ_ h _=>Am h)) (ky (Z W f) (λ_ h _=>Am h)) h3 BXx BXy
  have TWC:Hid (∀W:Ao,Xb d W->TwC (λb=>M b\/d.1.size<=b) W ⟨#[61]⟩ g h (qp 8 x y)):=qd λW f=>vb5 (o:=8) (by simp[vF]) f (ky (H W f) (λ_ h _=>Am h)) (ky (Z W f) (λ_ h _=>Am h)) BXx BXy
  go_region_held3 (λW=>Kx2 W b g h) (first|with_reducible assumption|(simp only[Kx2];go_keep)) (first|(go_at_call 148;refine(TWA (d.alloc zoC).drew ((Below.refl d.1.size d).alloc ui zoC).drew (by show d.1.size<(d.alloc _).1.size;simp)).mono ?_;rintro e j⟨i,m,rfl,v⟩;have fC:=qd v;have u:=qd (qg ((Below.refl d.1.size d).alloc ui zoC).drew i);obtain⟨p0,p1,p2,p3,p4,p5,pz,P9⟩:=(yE d).drew.below i;have bJ:=(U j u);clear i v)|(go_at_call 148;refine(TWC d.drew (Below.refl d.1.size d).drew).mono ?_;rintro e j⟨i,m,rfl,v⟩;have fB:=qd v;have u:=qd (qg (Below.refl d.1.size d).drew i);have sV:d.1.size<=j.1.size:=i.size;have NZ:¬b=j.1.size:=ub;have NW:¬j.1.size=b:=ub;have bJ:=(U j u);clear i v))
  all_goals
   go_wp2
   go_meet
   first
    | (have _q:=fC;exact⟨_,m,rfl,qd (OutAt.put u ui P9 fG (ex6 p0 p1 p2 p3 p4 p5) pz fC)⟩)
    | (have _q:=fB;exact⟨_,m,rfl,qd (OutAt.new u fB)⟩)
 obtain⟨B,r,rfl,t⟩:=hcut;have D:=(q9 t).u;obtain⟨o0,o1,o2,o3,o4,o5⟩:=(q9 t).k1;have XV:=qd (R.below D);have aP:B<wc.1.size:=(q9 t).lt;have slc:w.1.size+1<wc.1.size:=aq sl D.size;have YP:=qd (qg l D);have DNC:Hid (ua 102 #[Ai #[Y r.op,Y (BS r.Q),I J r.H,C r.pa r.pn r.pc,C r.ta r.tn r.tc,C r.ra r.rn r.rc]] wc λe w'=>Xb wc w'/\∃q:RF,e=Ak (Ai #[Y q.op,Y (BS q.Q),I J q.H,C q.pa q.pn q.pc,C q.ta q.tn q.tc,C q.ra q.rn q.rc])/\RfAt (λb=>M b\/w.1.size+1+1<=b) w' (vg (qp 8 x y)) q):=qd ((DN _ wc r (ky (N':=λb=>(M b\/w.1.size+1+1<=b)/\b<wc.1.size) t.rf (λb h hl=>⟨by rcases h with h|h;exact Am h;right;omega,hl⟩)) (λb h=>h.2)).mono (by rintro e w'⟨f,q,e1,h2⟩;exact⟨f,q,e1,ky h2 (λb h _=>by rcases h with h|h;exact h.1;right;omega)⟩));clear DN t D s0 s1 s2 s3 s4 s5 sz v0 v1 v2 v3 v4 v5 v6 v7 v8 v9 AK AJ H Z U
 go_wp2_with(go_at_call 102;refine DNC.mono ?_;rintro e w4⟨X,q,rfl,hq⟩;have uG:=qd hq;have iW:=qd (qg YP X);obtain⟨-,-,-,-,-,-,-,-,-,q0,q1,q2,q3,q4,q5,qz,ql,-,-,-,-⟩:=(q9 XV).below X;clear X hq)
 all_goals refine bj (by simp[go_sem,q0,q1,q2,q3,q4,q5]<;>rfl) rfl ?_
 all_goals exact xP XS iW uG (yY _ _ _ _ _ _ _ _)
theorem qhe{u:Co}{j:RF}(hi:inv=C (G ⟨b,0,O⟩) n cap)(hn:3<=n)(O0:b<w.1.size)(hc:∀k,k<18->w.cell? ⟨b,k,O⟩=(qw g++qw h++qw j)[k]?)
   (HZ:xJ w PZ)
  (hx:RfAt M w x g) (hy:RfAt M w y h) (hu:RfAt M w u j) (hN:∀b,M b->b<w.1.size) (zx:kS x) (zy:kS y) (zu:kS u) (byx:kS (qp 11 y x)) (bxu:kS (qp 11 x u)):ua 101 #[Ai #[Y ⟨#[66,69,84,87,69,69,78]⟩,I J a,iv,Y S,Y E,lv,I J N,Ah neg,I J c],inv] w (xI M w (qp 6 (qp 11 y x) (qp 11 x u))):=by
 have DZ:=jv HZ (Y ⟨#[66,69,84,87,69,69,78]⟩) (I J a) iv (Y S) (Y E) lv (I J N) (Ah neg) (I J c);clear HZ;have KB:=kb3 O0 hc;obtain⟨c0,c1,c2,c3,c4,c5,c6,c7,c8,c9,ED,EC,c12,c13,c14,c15,c16,c17⟩:=q9 KB w uj;have np:¬b=w.1.size:=ub;have lC:¬b=w.1.size+1:=ub;have rU:¬w.1.size+1=b:=ub;have eO:0<n:=ub;have cY:=ur n;have t9:1<n:=ub;have BR:(1:Int)<(n:Int):=ub;have O7:2<n:=ub;have hni2:(2:Int)<(n:Int):=ub;clear hc;subst hi;go_enter func101,ntmps101
 go_wp2_with(go_at_call 145;refine DZ.mono ?_;rintro e wz⟨z,rfl,K9,o9,⟨n0,-,-,-,-,-,-,-,-,r0,r1,r2,D,r4,r5,rz,rl,lB,lA,iZ,iY⟩,U,L5⟩;obtain⟨m0,-,-,-,-,-,-,-,-,s0,s1,s2,s3,s4,s5,sz,sl,-,-,-,-⟩:=q9 U;obtain⟨v0,v1,v2,v3,v4,v5,v6,v7,v8,v9,AK,AJ,ZN,ZM,ZL,ZK,ZJ,ZI⟩:=q9 KB _ (qg K9 L5);have sS:¬b=wz.1.size:=ub;have iE:¬wz.1.size=b:=ub)
 obtain⟨f,cU⟩:=uk ((wz.alloc (Al #[Y z.op,Y (BS z.Q),I J z.H,C z.pa z.pn z.pc,C z.ta z.tn z.tc,C z.ra z.rn z.rc] 106)));have B8:wz.1.size<f.1.size:=by rw[cU];simp
 have L:=qd (qg K9 L5);rw[<-cU]at s0 s1 s2 s3 s4 s5 sz sl v0 v1 v2 v3 v4 v5 v6 v7 v8 v9 AK AJ ZN ZM ZL ZK ZJ ZI L U |-;clear cU L5 o9 m0 n0 r0 r1 r2 D r4 r5 rz c0 c1 c2 c3 c4 c5 c6 c7 c8 c9 ED EC c12 c13 c14 c15 c16 c17;have A0:b<f.1.size:=ub;have F:Hid (∀W,Xb f W->(Kx3 W b g h j)):=qd λW m=>q9 KB W (qg L m)
 have H:Hid (∀W,Xb f W->RfAt M W x g):=qd λW m=>hx.below (qg L m)
 have BXx:=qd zx;have EH:Hid (∀W,Xb f W->RfAt M W y h):=qd λW m=>hy.below (qg L m)
 have BXy:=qd zy;have MM:Hid (∀W,Xb f W->RfAt M W u j):=qd λW m=>hu.below (qg L m)
 have BXu:=qd zu;have X:Hid (∀b,M b->b<f.1.size):=qd λb h=>aq (hN b h) L.size
 have XS:=qd hN;clear hN KB hx zx hy zy hu zu;have BYX:=qd byx;have BXU:=qd bxu;clear byx bxu
 go_cut [7] (λs7 wx=>∃t r,s7=Ag (G ⟨t,0,O⟩)/\Hid (OutAt M f wx t (qp 11 y x) r))
 case first=>
  have OY:b<f.1.size:=ub;have OC:¬b=f.1.size:=ub;have OB:¬f.1.size=b:=ub;have TWA:Hid (∀W:Ao,Xb f W->f.1.size<W.1.size->TwC (λb=>M b\/(f.1.size<=b/\b≠f.1.size)) W ⟨#[60,61]⟩ h g (qp 11 y x)):=qd λW l h3=>qko (o:=11) (by simp[vF]) l (ky (EH W l) (λ_ h _=>Am h)) (ky (H W l) (λ_ h _=>Am h)) h3 BXy BXx
  have TWC:Hid (∀W:Ao,Xb f W->TwC (λb=>M b\/f.1.size<=b) W ⟨#[60,61]⟩ h g (qp 11 y x)):=qd λW l=>vb5 (o:=11) (by simp[vF]) l (ky (EH W l) (λ_ h _=>Am h)) (ky (H W l) (λ_ h _=>Am h)) BXy BXx
  go_region_held3 (λW=>Kx3 W b g h j) (first|with_reducible assumption|(simp only[Kx3];go_keep)) (first|(go_at_call 148;refine(TWA (f.alloc zoC).drew ((Below.refl f.1.size f).alloc ui zoC).drew (by show f.1.size<(f.alloc _).1.size;simp)).mono ?_;rintro e v⟨s,D,rfl,B⟩;have Z:=qd B;have A:=qd (qg ((Below.refl f.1.size f).alloc ui zoC).drew s);obtain⟨p0,p1,p2,p3,p4,p5,pz,P9⟩:=(yE f).drew.below s;have bJ:=(F v A);clear s B)|(go_at_call 148;refine(TWC f.drew (Below.refl f.1.size f).drew).mono ?_;rintro e v⟨s,D,rfl,B⟩;have fB:=qd B;have A:=qd (qg (Below.refl f.1.size f).drew s);have sV:f.1.size<=v.1.size:=s.size;have NZ:¬b=v.1.size:=ub;have NW:¬v.1.size=b:=ub;have bJ:=(F v A);clear s B))
  all_goals
   go_wp2
   go_meet
   first
    | (have _q:=Z;exact⟨_,D,rfl,qd (OutAt.put A ui P9 X (ex6 p0 p1 p2 p3 p4 p5) pz Z)⟩)
    | (have _q:=fB;exact⟨_,D,rfl,qd (OutAt.new A fB)⟩)
 obtain⟨t,ra,rfl,K⟩:=hcut;obtain⟨d,rfl⟩:=uk (wc:Ao);have R:=(q9 K).u;have ZX:=R.size;obtain⟨u0,u1,u2,u3,u4,u5,u6,u7,u8,u9,u10,ZO,u12,u13,u14,u15,u16,u17⟩:=q9 F d R;have XR:Hid (∀W,Xb d W->(Kx1 W t ra)):=qd λW m=>vmk λi hi=>(m.cell (p:=⟨t,i,O⟩) K.lt).trans (K.cells i hi)
 obtain⟨o0,o1,o2,o3,o4,o5⟩:=q9 XR d uj;have U:=qd (U.below R);have aP:t<d.1.size:=(q9 K).lt;have hog:f.1.size<=t:=(q9 K).ge;have hlba:b<d.1.size:=ub;have YP:=qd (qg L R);have HKA:=F;have YO:=qd R;have F:Hid (∀W,Xb d W->(Kx3 W b g h j)):=qd λW m=>q9 HKA W (qg YO m)
 have H:Hid (∀W,Xb d W->RfAt (λb=>(M b\/(f.1.size<=b/\b≠t))/\b<d.1.size) W x g):=qd λW m=>ky (H W (qg YO m)) (λb h _=>⟨Am h,aq (X b h) ZX⟩)
 have MM:Hid (∀W,Xb d W->RfAt (λb=>(M b\/(f.1.size<=b/\b≠t))/\b<d.1.size) W u j):=qd λW m=>ky (MM W (qg YO m)) (λb h _=>⟨Am h,aq (X b h) ZX⟩)
 have X:Hid (∀b,(M b\/(f.1.size<=b/\b≠t))/\b<d.1.size->b<d.1.size):=qd λb h=>h.2
 obtain⟨-,-,-,-,-,-,-,-,-,t0,t1,t2,t3,t4,t5,tz,tl,-,-,-,-⟩:=q9 U;clear s0 s1 s2 s3 s4 s5 sz v0 v1 v2 v3 v4 v5 v6 v7 v8 v9 AK AJ ZN ZM ZL ZK ZJ ZI R HKA EH
 go_wp2
 go_cut [8] (λs8 wx=>∃ob r,s8=Ag (G ⟨ob,0,O⟩)/\Hid (OutAt (λb=>(M b\/(f.1.size<=b/\b≠t))/\b<d.1.size) d wx ob (qp 11 x u) r))
 case first=>
  have OY:b<d.1.size:=ub;have OC:¬b=d.1.size:=ub;have OB:¬d.1.size=b:=ub;have TWA:Hid (∀W:Ao,Xb d W->d.1.size<W.1.size->TwC (λb=>(λb=>(M b\/(f.1.size<=b/\b≠t))/\b<d.1.size) b\/(d.1.size<=b/\b≠d.1.size)) W ⟨#[60,61]⟩ g j (qp 11 x u)):=qd λW l h3=>qko (o:=11) (by simp[vF]) l (ky (H W l) (λ_ h _=>Am h)) (ky (MM W l) (λ_ h _=>Am h)) h3 BXx BXu
  have TWC:Hid (∀W:Ao,Xb d W->TwC (λb=>(λb=>(M b\/(f.1.size<=b/\b≠t))/\b<d.1.size) b\/d.1.size<=b) W ⟨#[60,61]⟩ g j (qp 11 x u)):=qd λW l=>vb5 (o:=11) (by simp[vF]) l (ky (H W l) (λ_ h _=>Am h)) (ky (MM W l) (λ_ h _=>Am h)) BXx BXu
  go_region_held3 (λW=>Kx3 W b g h j) (first|with_reducible assumption|(simp only[Kx3];go_keep)) (first|(go_at_call 148;refine(TWA (d.alloc zoC).drew ((Below.refl d.1.size d).alloc ui zoC).drew (by show d.1.size<(d.alloc _).1.size;simp)).mono ?_;rintro e v⟨s,D,rfl,B⟩;have Z:=qd B;have A:=qd (qg ((Below.refl d.1.size d).alloc ui zoC).drew s);obtain⟨p0,p1,p2,p3,p4,p5,pz,P9⟩:=(yE d).drew.below s;have bJ:=(F v A);clear s B)|(go_at_call 148;refine(TWC d.drew (Below.refl d.1.size d).drew).mono ?_;rintro e v⟨s,D,rfl,B⟩;have fB:=qd B;have A:=qd (qg (Below.refl d.1.size d).drew s);have sV:d.1.size<=v.1.size:=s.size;have NZ:¬b=v.1.size:=ub;have NW:¬v.1.size=b:=ub;have bJ:=(F v A);clear s B))
  all_goals
   go_wp2
   go_meet
   first
    | (have _q:=Z;exact⟨_,D,rfl,qd (OutAt.put A ui P9 X (ex6 p0 p1 p2 p3 p4 p5) pz Z)⟩)
    | (have _q:=fB;exact⟨_,D,rfl,qd (OutAt.new A fB)⟩)
 obtain⟨ob,rb,rfl,HP⟩:=hcut;have T:=(q9 HP).u;have hzp:=T.size;obtain⟨a0,a1,a2,a3,a4,a5⟩:=q9 XR wc T;obtain⟨b0,b1,b2,b3,b4,b5⟩:=(q9 HP).k1;have XV:=qd (U.below T);have hpc:ob<wc.1.size:=(q9 HP).lt;have hoc2:t<wc.1.size:=ub;have sld:w.1.size+1<wc.1.size:=ub;have iU:=qd (qg YP T);have TW:Hid (TwC (λb=>M b\/w.1.size+1+1<=b) wc ⟨#[65,78,68]⟩ ra rb (qp 6 (qp 11 y x) (qp 11 x u))):=qd ((gU (o:=6) (by simp[vF]) (ky (N':=λb=>(M b\/w.1.size+1+1<=b)/\b<wc.1.size) (K.rf.below T) (λb h hl=>⟨by rcases h with h|h;exact Am h;right;omega,hl⟩)) (ky (N':=λb=>(M b\/w.1.size+1+1<=b)/\b<wc.1.size) HP.rf (λb h hl=>⟨by rcases h with h|h;rcases h.1 with h|h;exact Am h;right;omega;right;omega,hl⟩)) BYX BXU (λb h=>h.2)).mono (by rintro e w'⟨l,q,e1,h2⟩;exact⟨l,q,e1,ky h2 (λb h _=>by rcases h with h|h;exact h.1;right;omega)⟩));clear K HP T H MM F XR
 go_wp2_with(go_at_call 148;refine TW.mono ?_;rintro e w4⟨K8,q,rfl,hq⟩;have uG:=qd hq;have iW:=qd (qg iU K8);obtain⟨-,-,-,-,-,-,-,-,-,q0,q1,q2,q3,q4,q5,qz,ql,-,-,-,-⟩:=(q9 XV).below K8;clear K8 hq)
 all_goals refine bj (by simp[go_sem,q0,q1,q2,q3,q4,q5]<;>rfl) rfl ?_
 all_goals exact xP XS iW uG (yY _ _ _ _ _ _ _ _)
theorem qp3(hi:inv=C (G ⟨b,0,O⟩) n cap)(hn:1<=n)(O0:b<w.1.size)(v:∀k,k<6->w.cell? ⟨b,k,O⟩=(qw g)[k]?)(hE:E=⟨#[]⟩)(m:g.Q.length<=400000000)(l:q.length<=100000)(T:∀W,ua 147 #[Y S] W λe w'=>e=Ak (Y (BS q))/\w'=W)
   (R:xJ w PZ) (X:ju w PZ P 150 λ_=>#[Y ⟨#[76,73,75,69]⟩,Y (BS ([40]++g.Q++[32,76,73,75,69,32]++q++[41])),I J 1,C (G ⟨b,0,O⟩) n cap,I J (S.size:Nat)])
   (U:jh w P Q):ua 101 #[Ai #[Y ⟨#[76,73,75,69]⟩,I J a,iv,Y S,Y E,lv,I J N,Ah neg,I J c],inv] w Q:=by
 have DZ:=jv R (Y ⟨#[76,73,75,69]⟩) (I J a) iv (Y S) (Y ⟨#[]⟩) lv (I J N) (Ah neg) (I J c);have i:=qd X;have M5:=qd U;simp only[ju,jh,RF.v]at i M5;obtain⟨R1,H,t,a1⟩:=jn ⟨#[40]⟩ (BS g.Q) 1 400000000 ui (by rw[qJ];exact m) ue;obtain⟨R2,F,s,a2⟩:=jn R1 ⟨#[32,76,73,75,69,32]⟩ 400000001 6 t ui ue;obtain⟨R3,D,o,a3⟩:=jn R2 (BS q) 400000007 100000 s (by rw[qJ];exact l) ue;obtain⟨R6,B,y6,a6⟩:=jn R3 ⟨#[41]⟩ 400100007 1 o ui ue
 have A:BS ([40]++g.Q++[32,76,73,75,69,32]++q++[41])=R6:=by
  rw[B,D,F,H,show(⟨#[40]⟩:tq)=BS [40] from rfl,show(⟨#[41]⟩:tq)=BS [41] from rfl,show(⟨#[32,76,73,75,69,32]⟩:tq)=BS [32,76,73,75,69,32] from rfl,jo,jo,jo,jo]
 rw[A]at i;have Z:=qd T;obtain⟨QB,tZ⟩:∃x,BS q=x:=⟨_,rfl⟩;rw[tZ]at Z a3;subst hE;clear T A H t F s D o B y6 m l;clear R X U;have L:=kb1 O0 v;obtain⟨c0,c1,c2,c3,c4,c5⟩:=q9 L w uj;have np:¬b=w.1.size:=ub;have lC:¬b=w.1.size+1:=ub;have rU:¬w.1.size+1=b:=ub;have eO:0<n:=ub;have cY:=ur n;clear v;subst hi;go_enter func101,ntmps101
 go_wp2_with(go_at_call 145;refine DZ.mono ?_;rintro e u⟨z,rfl,f,o9,⟨n0,-,-,n3,n4,-,-,-,-,r0,r1,r2,r3,r4,r5,rz,rl,lB,lA,iZ,iY⟩,K,d⟩;obtain⟨m0,-,-,m3,m4,-,-,-,-,s0,s1,s2,s3,s4,s5,sz,sl,-,-,-,-⟩:=q9 K;obtain⟨v0,v1,v2,v3,v4,v5⟩:=q9 L _ (qg f d);have sS:¬b=u.1.size:=ub;have iE:¬u.1.size=b:=ub)
 go_region_held3 (λW=>Xc W w.1.size 3 (Y S)/\Xc W w.1.size 4 (Y ⟨#[]⟩)/\Kx1 W b g) (first|with_reducible assumption|(simp only[Kx1];go_keep)) ((go_at_call 147;refine be (Z _) λwq hq=>?_;subst wq))
 go_wp2_with(first|(go_at_call 150;refine(i _ _ _ f rl o9 d.drew).mono ?_;rintro e w1⟨j,r,rfl,hp⟩;have D6:=qd (qg (qg f d.drew) j);obtain⟨-,-,-,-,-,-,-,-,-,q0,q1,q2,q3,q4,q5,qz,ql,-,-,-,-⟩:=(q9 K).drew.below j;have bB:=qd hp;clear j hp))
 all_goals exact jU
theorem qp4(hi:inv=C (G ⟨b,0,O⟩) n cap)(hn:1<=n)(O0:b<w.1.size)(H:∀k,k<6->w.cell? ⟨b,k,O⟩=(qw g)[k]?){q':tu}(hE:(E.toList==[])=false)(t:g.Q.length<=400000000)(s:q.length<=100000)(z3:q'.length<=100000)(HT:∀W,ua 147 #[Y S] W λe w'=>e=Ak (Y (BS q))/\w'=W)(MQ:∀W,ua 147 #[Y E] W λe w'=>e=Ak (Y (BS q'))/\w'=W)
   (HZ:xJ w PZ) (H1:ju w PZ P 150 λ_=>#[Y ⟨#[76,73,75,69]⟩,Y (BS ([40]++g.Q++[32,76,73,75,69,32]++q++[32,69,83,67,65,80,69,32]++q'++[41])),I J 1,C (G ⟨b,0,O⟩) n cap,I J (S.size:Nat)])
   (HQ:jh w P Q):ua 101 #[Ai #[Y ⟨#[76,73,75,69]⟩,I J a,iv,Y S,Y E,lv,I J N,Ah neg,I J c],inv] w Q:=by
 have DZ:=jv HZ (Y ⟨#[76,73,75,69]⟩) (I J a) iv (Y S) (Y E) lv (I J N) (Ah neg) (I J c);have m:=qd H1;have M5:=qd HQ;simp only[ju,jh,RF.v]at m M5;obtain⟨R1,Z,D,a1⟩:=jn ⟨#[40]⟩ (BS g.Q) 1 400000000 ui (by rw[qJ];exact t) ue;obtain⟨R2,X,B,a2⟩:=jn R1 ⟨#[32,76,73,75,69,32]⟩ 400000001 6 D ui ue;obtain⟨R3,U,A,a3⟩:=jn R2 (BS q) 400000007 100000 B (by rw[qJ];exact s) ue;obtain⟨R4,T,v,a4⟩:=jn R3 ⟨#[32,69,83,67,65,80,69,32]⟩ 400100007 8 A ui ue;obtain⟨R5,R,u,a5⟩:=jn R4 (BS q') 400100015 100000 v (by rw[qJ];exact z3) ue;obtain⟨R6,L,y6,a6⟩:=jn R5 ⟨#[41]⟩ 400200015 1 u ui ue
 have K:BS ([40]++g.Q++[32,76,73,75,69,32]++q++[32,69,83,67,65,80,69,32]++q'++[41])=R6:=by
  rw[L,R,T,U,X,Z,show(⟨#[40]⟩:tq)=BS [40] from rfl,show(⟨#[41]⟩:tq)=BS [41] from rfl,show(⟨#[32,76,73,75,69,32]⟩:tq)=BS [32,76,73,75,69,32] from rfl,show(⟨#[32,69,83,67,65,80,69,32]⟩:tq)=BS [32,69,83,67,65,80,69,32] from rfl,jo,jo,jo,jo,jo,jo]
 rw[K]at m;have DT:=qd HT;have d:=qd MQ;obtain⟨QB,tZ⟩:∃x,BS q=x:=⟨_,rfl⟩;rw[tZ]at DT a3;obtain⟨QC,i⟩:∃x,BS q'=x:=⟨_,rfl⟩;rw[i]at d a5;clear HT MQ K Z D X B U A T v R u L y6 t s;clear HZ H1 HQ;have KB:=kb1 O0 H;obtain⟨c0,c1,c2,c3,c4,c5⟩:=q9 KB w uj;have np:¬b=w.1.size:=ub;have lC:¬b=w.1.size+1:=ub;have rU:¬w.1.size+1=b:=ub;have eO:0<n:=ub;have cY:=ur n;clear H;subst hi;go_enter func101,ntmps101
 go_wp2_with(go_at_call 145;refine DZ.mono ?_;rintro e F⟨z,rfl,l,o9,⟨n0,-,-,n3,n4,-,-,-,-,r0,r1,r2,r3,r4,r5,rz,rl,lB,lA,iZ,iY⟩,N0,j⟩;obtain⟨m0,-,-,m3,m4,-,-,-,-,s0,s1,s2,s3,s4,s5,sz,sl,-,-,-,-⟩:=q9 N0;obtain⟨v0,v1,v2,v3,v4,v5⟩:=q9 KB _ (qg l j);have sS:¬b=F.1.size:=ub;have iE:¬F.1.size=b:=ub)
 go_region_held3 (λW=>Xc W w.1.size 3 (Y S)/\Xc W w.1.size 4 (Y E)/\Kx1 W b g) (first|with_reducible assumption|(simp only[Kx1];go_keep)) ((go_at_call 147;refine be (DT _) λf hq=>?_;subst f))
 go_wp2_with(first|(go_at_call 150;refine(m _ _ _ l rl o9 j.drew).mono ?_;rintro e w1⟨o,r,rfl,hp⟩;have D6:=qd (qg (qg l j.drew) o);obtain⟨-,-,-,-,-,-,-,-,-,q0,q1,q2,q3,q4,q5,qz,ql,-,-,-,-⟩:=(q9 N0).drew.below o;have bB:=qd hp;clear o hp)|(go_at_call 147;refine be (d _) λf hq=>?_;subst f))
 all_goals exact jU
end Go.Proofs.YtdmmmgodfceilaaGreatDoor
