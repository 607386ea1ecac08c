/- the small functions of -/
import Derived.Test.YtdmmmgodfceilaaGreatDoorProg
import Derived.WalkKit
import Derived.Deep.QuietTactic
import Derived.BigQuiet
import Derived.WalkSpells
import Derived.WalkLawsBesides
import Derived.Lib.Strings
import Derived.Deep.Light
import Derived.Lib.IndexBytes
import Derived.Test.YtdmmmgodfceilaaGreatDoorShelf
import Derived.Lib.ParseIntB
import Derived.Lib.AtoiErrMem
import Derived.Laws.IdiomStrings
set_option maxHeartbeats 1600000
namespace Go.Proofs.YtdmmmgodfceilaaGreatDoor
open Go.RowKit Go.Proofs.Tryz
open Go renaming Value->Ap,World->Ao
open Go.Ending renaming returned->Ak
open Go.IntKind renaming i64->J
open Go.Value renaming agg->Ai,bool->Ah,int->I,string->Y,tuple->Aj
open Option renaming none->O,some->G
theorem be{P:Program}{f:FuncId}{a:Array Ap}{w:Ao}{E:Ending}{B:Ao->Prop}{Q:Ending->Ao->Prop}(h:Calls P f a w λe w'=>e=E/\B w')(k:∀w',B w'->Q E w'):Calls P f a w Q:=h.mono λ_ w' ⟨c,b⟩=>c▸k w' b
theorem it{α:Type}(a:α):∃x,a=x:=⟨a,rfl⟩
theorem uk{α:Type}(a:α):∃x,x=a:=⟨a,rfl⟩
theorem um(k:Nat):(0:Int)<=(k:Int):=by omega
theorem uo(a b:Nat)(h:a<b:=by omega):(a:Int)<(b:Int):=by omega
theorem uq(a b:Nat)(h:b<=a:=by omega):¬(a:Int)<(b:Int):=by omega
theorem ur(k:Nat)(h:0<k:=by omega):(0:Int)<(k:Int):=by omega
theorem uu{p q:Prop}(x:q)(h:q->p:=by intro _;omega):p:=h x
@[reducible]def ut(f:FuncId)(a:Array Ap)(w:Ao)(v:Ap):Prop:=Calls Tryz.prog f a w λe w'=>e=Ak v/\Below w.1.size w w'
theorem ub{p:Prop}(h:p:=by omega):p:=h
theorem uc{p:Prop}(h:p:=by simp):p:=h
theorem ud{p:Prop}(h:p:=by simp;omega):p:=h
theorem ue{p:Prop}(h:p:=by decide):p:=h
theorem ug{p:Prop}(h:p:=by simp<;>omega):p:=h
theorem uh{p:Prop}(h:p:=by kernel_rfl):p:=h
theorem ui{n:Nat}:n<=n:=Nat.le_refl n
theorem uj{n:Nat}{w:Ao}:Below n w w:=Below.refl n w
abbrev ae:=@Nat.le_refl
abbrev ag:=@List.getElem?_eq_getElem
abbrev aj:=@List.getElem?_eq_some_iff
abbrev ak:=@if_neg
abbrev aq:=@Nat.lt_of_lt_of_le
abbrev au:=@Below.heap_setCell
abbrev aw:=@World.cell?_of_block
abbrev bg:=@List.mem_of_getElem?
abbrev bh:=@beq_eq_false_iff_ne
abbrev bi:=@List.getD_eq_getElem?_getD
abbrev bj:=@bodyPost_ret
abbrev bo:=@if_pos
abbrev bs:=@Nat.le_trans
abbrev bt:=@Nat.zero_le
abbrev bu:=@List.append_assoc
abbrev bw:=@World.cell?_alloc_past
abbrev cd:=@List.length_map
abbrev ce:=@List.length_append
abbrev cf:=@Array.getElem?_eq_some_iff
abbrev cg:=@List.getElem?_append_left
abbrev ch:=@World.cell?_alloc_at
abbrev cj:=@List.drop_eq_getElem_cons
abbrev cm:=@List.getElem?_map
abbrev cn:=@World.frozen?_of_block
abbrev cr:=@List.mem_append
abbrev cu:=@List.mem_singleton
abbrev cw:=@List.length_take
abbrev da:=@List.getElem?_append_right
abbrev db:=@decide_eq_false
abbrev dd:=@List.getElem?_of_mem
abbrev de:=@List.eq_nil_of_length_eq_zero
abbrev dg:=@Bool.false_eq_true
abbrev dh:=@Bool.and_eq_true
abbrev di:=@decide_eq_true
abbrev dj:=@List.length_drop
abbrev dk:=@List.cons_append
abbrev dn:=@List.take_add_one
abbrev dp:=@List.flatMap_cons
abbrev dq:=@List.map_append
abbrev dt:=@Nat.lt_succ_self
abbrev du:=@List.length_singleton
abbrev dw:=@List.drop_zero
abbrev dy:=@World.ownsRow_nil
abbrev ed:=@List.pairwise_iff_getElem
abbrev ee:=@Nat.zero_add
abbrev eg:=@List.mem_map
abbrev eh:=@List.drop_of_length_le
abbrev ei:=@List.mem_cons_self
abbrev eo:=@List.mem_cons
abbrev ep:=@Go.below_drewN
abbrev eu:=@List.length_set
abbrev ew:=@beq_iff_eq
abbrev fe:=@List.mem_cons_of_mem
abbrev ff:=@Bool.or_eq_true
abbrev fh:=@List.take_append_drop
abbrev fj:=@decide_eq_true_eq
abbrev fk:=@List.length_cons
abbrev fm:=@List.getElem_mem
abbrev fo:=@List.take_of_length_le
abbrev fq:=@List.getElem?_set
abbrev fu:=@List.map_cons
abbrev fw:=@List.append_nil
abbrev gs:=@Lib.toList_data
abbrev ib:=@List.findIdx?_eq_some_iff_getElem
abbrev ig:=@Below.heap_alloc
abbrev ii:=@Bool.or_eq_false_iff
abbrev ij:=@Array.getElem?_modify
abbrev ik:=@List.mem_map_of_mem
abbrev im:=@List.take_length
abbrev io:=@List.getElem?_drop
abbrev ip:=@List.mem_range
abbrev iq:=@List.length_nil
abbrev ir:=@World.cell?_drew
abbrev iu:=@List.length_range
abbrev ix:=@List.ext_getElem?
abbrev iy:=@List.pairwise_append
abbrev iz:=@Bool.and_false
abbrev ld:=@Nat.sub_self
abbrev lh:=@List.mem_or_eq_of_mem_set
abbrev li:=@Bool.true_and
abbrev lj:=@List.nil_append
abbrev ll:=@List.getElem?_take
abbrev ln:=@List.mem_of_mem_drop
abbrev lp:=@List.mem_append_left
abbrev lq:=@List.map_map
abbrev lu:=@List.drop_succ_cons
abbrev lw:=@Bool.eq_iff_iff
abbrev lz:=@List.getElem?_eq_none
abbrev md:=@World.size_setCell
abbrev mf:=@List.pairwise_cons
abbrev mg:=@List.not_mem_nil
abbrev mh:=@List.any_eq_true
abbrev mi:=@World.frozen?_alloc_past
abbrev mj:=@Bool.or_false
abbrev mn:=@Bool.and_true
abbrev mq:=@World.block_lt_of_cell?
abbrev mr:=@Bool.eq_false_iff
abbrev mt:=@List.flatMap_append
abbrev mu:=@World.frozen?_alloc_at
abbrev mw:=@List.getElem?_set_self
abbrev mx:=@Bool.false_or
abbrev my:=@World.size_alloc
abbrev nh:=@List.set_append_right
abbrev nj:=@List.mem_of_find?_eq_some
abbrev nl:=@Option.map_some
abbrev nt:=@List.pairwise_map
abbrev nw:=@List.mem_of_mem_take
abbrev ny:=@List.map_set
abbrev nz:=@List.getElem?_set_ne
abbrev oe:=@List.map_take
abbrev og:=@List.map_drop
abbrev oh:=@Bool.and_or_distrib_left
abbrev ol:=@Calls.quiet_of_same
abbrev om:=@beq_self_eq_true
abbrev on:=@List.getElem!_eq_getElem?_getD
abbrev oo:=@Bool.false_and
abbrev oq:=@List.head?_eq_getElem?
abbrev ot:=@Nat.min_eq_left
abbrev ou:=@List.mem_filter
abbrev ov:=@Array.getElem?_setIfInBounds
abbrev ow:=@Bool.not_true
abbrev ox:=@List.mem_append_right
abbrev oy:=@Bool.and_eq_false_iff
abbrev oz:=@List.any_eq_false
abbrev rh:=@Nat.mul_le_mul_right
abbrev ri:=@Nat.mul_le_mul
abbrev rm:=@List.takeWhile_cons_of_pos
abbrev ro:=@List.takeWhile_cons_of_neg
abbrev rp:=@Int.tdiv_eq_ediv_of_nonneg
abbrev rq:=@Int.le_refl
abbrev ry:=@Bool.not_false
abbrev sd:=@Nat.add_zero
abbrev se:=@Lib.extract_data
abbrev sf:=@List.getElem?_zip_eq_some
abbrev sg:=@List.findIdx?_eq_none_iff
abbrev si:=@Nat.mul_le_mul_left
abbrev sj:=@List.getElem?_take_of_lt
abbrev sk:=@UInt8.toNat_inj
abbrev sm:=@UInt8.lt_irrefl
abbrev sn:=@List.take_left'
abbrev sq:=@List.foldl_cons
abbrev sr:=@List.contains_cons
abbrev td:=@List.filter_cons_of_neg
abbrev tg:=@Nat.zero_mul
abbrev th:=@List.drop_drop
abbrev ti:=@Bool.true_or
abbrev tj:=@List.contains_iff_mem
attribute[go_sem]results results88 results118 results167 results206 results204 results205 results202 results237 results108 results77 results128 results210 results83 results46 results74 results48 results136 results47 results22 results139 results101 results98 results99 results137 results53 results56 results54 results265 results97 results218 results264 results69 results187 results189 results188 results110 results102 results138 results62 results145 results150 results129 results149 results134 results135 results148 results133 results182 results124 results91 results185 results178 results89 results186 results125 results181 results127 results184 results180 results177 results183 results90 results175
theorem tw{P:Program}{b:Func}{R:Ending->Ao->Prop}{a:Act}{w:Ao}{v:Ap}(k:R (Ak v) w)(h:(results b a.tmps).run P w=.ok v w:=by simp[go_sem]<;>rfl)(d:a.defers=[]:=by rfl):bodyPost P b R .ret a w:=bodyPost_ret h d k
abbrev ua:=Calls prog
abbrev tq:=ByteArray
abbrev tu:=List UInt8
abbrev Xb(w w':Ao):=Below w.1.size w w'
abbrev Xc(w:Ao)(b i:Nat)(v:Ap):=w.cell? ⟨b,i,O⟩=G v
abbrev Xf(w:Ao)(b:Nat):=∀j,w.frozen? ⟨b,j,O⟩=false
attribute[simp,go_sem]Xc Xf
variable{s:tq}{z z':Int}{l xs:tu}{k:Nat}{c:UInt8}{w w':Ao}
theorem qd{p:Prop}(h:p):Hid p:=h
theorem q9{p:Prop}(h:Hid p):p:=h
theorem qk{W a:Ao}(d:Xb W a):(∀b o,b<W.1.size->a.cell? ⟨b,o,O⟩=W.cell? ⟨b,o,O⟩)/\(∀b o,b<W.1.size->a.frozen? ⟨b,o,O⟩=W.frozen? ⟨b,o,O⟩):=
 ⟨λb o h=>d.cell (p:=⟨b,o,O⟩) h,λb o h=>d.frozen (p:=⟨b,o,O⟩) h⟩
theorem vf{o:Obj}(a:Below (w.alloc o).1.size (w.alloc o) w'):Xb w w':=
 (uj.alloc ui _).trans (a.mono uc)
def ErrOk(w:Ao):Prop:=3<w.1.size/\∃ev,w.cell? ⟨3,0,O⟩=G ev/\(ev=.nilIface\/∃te pe,ev=.iface te pe)
theorem ErrOk.below{B:Nat}(h:ErrOk w)(a:Below B w w')(d:w.1.size<=B):ErrOk w':=by
 obtain⟨b,ev,f,e⟩:=h;refine⟨aq b a.size,ev, ?_,e⟩;rw[a.cell (p:=⟨3,0,O⟩) (aq b d)];exact f
theorem ErrOk.alloc(h:ErrOk w)(o:Obj):ErrOk (w.alloc o):=
 h.below ((Below.refl w.1.size w).alloc ui o) ui
def spB(c:Int):Bool:=c==32||c==9||c==10
def qbt(c:Int):Bool:=decide (48<=c)&&decide (c<=57)
def qbj(c:Int):Bool:=decide (65<=c)&&decide (c<=90)||decide (97<=c)&&decide (c<=122)||c==95||c==36
def vdm(c:Int):Bool:=qbj c||qbt c||c==46
theorem qY{a b:Bool}(h:a=true↔b=true):Ak (Ah a)=Ak (Ah b):=by
 rw[lw.2 h]
theorem qd3(c:Int)(w:Ao):
  ua 166 #[I .u8 c] w λe w'=>e=Ak (Ah (spB c))/\w'=w:=by
 unfold spB;go_enter func166,ntmps166
 go_wp2
 all_goals(go_ret;exact⟨qY ug,rfl⟩)
theorem jX(c:Int)(w:Ao):
  ua 203 #[I .u8 c] w λe w'=>e=Ak (Ah (qbt c))/\w'=w:=by
 unfold qbt;go_enter func203,ntmps203
 go_wp2
 all_goals(go_ret;exact⟨qY ug,rfl⟩)
theorem vS(c:Int)(w:Ao):
  ua 201 #[I .u8 c] w λe w'=>e=Ak (Ah (qbj c))/\w'=w:=by
 unfold qbj;go_enter func201,ntmps201
 go_wp2
 all_goals(go_ret;exact⟨qY ug,rfl⟩)
theorem pf(c:Int)(w:Ao):
  ua 212 #[I .u8 c] w λe w'=>e=Ak (Ah (vdm c))/\w'=w:=by
 unfold vdm;go_enter func212,ntmps212
 go_wp2_with(first|(go_at_call 201;refine be (vS _ _) ?_;rintro w' rfl)|(go_at_call 203;refine be (jX _ _) ?_;rintro w' rfl))
 all_goals(go_ret;exact⟨qY (by simp_all),rfl⟩)
def qA(p:UInt8->Bool):List UInt8->Nat
 | []=>0
 | c::t=>if p c then qA p t+1 else 0
def kJ(c:UInt8):Bool:=vdm (c.toNat:Int)
def yH(c:UInt8):Bool:=qbj (c.toNat:Int)
def jj(c:UInt8):Bool:=qbt (c.toNat:Int)
def spU(c:UInt8):Bool:=spB (c.toNat:Int)
theorem gC(p:UInt8->Bool)(l:tu):qA p l<=l.length:=by
 induction l with
 | nil=>simp[qA]
 | cons c t ih=>simp only[qA];split<;>simp<;>omega
theorem vH(p:UInt8->Bool)(l:tu)(k:Nat)(h:k<l.length)(hp:p (l[k])=true):
  qA p (l.drop k)=qA p (l.drop (k+1))+1:=by
 rw[cj h];simp[qA,hp]
theorem vR(p:UInt8->Bool)(l:tu)(k:Nat)(h:k<l.length)(hp:p (l[k])=false):
  qA p (l.drop k)=0:=by
 rw[cj h];simp[qA,hp]
theorem vX(p:UInt8->Bool)(l:tu)(k:Nat)(h:l.length<=k):qA p (l.drop k)=0:=by
 rw[eh h];rfl
def qB:List UInt8->Nat
 | []=>0
 | c::t=>if yH c then qA kJ t+1 else 0
theorem qu(s:tq):s.data.toList.length=s.size:=by simp only[Array.length_toList];rfl
theorem qD(s:tq)(k:Nat)(h:k<s.size):s.data.toList[k]'(by rw[qu];exact h)=s[k]:=rfl
theorem qak(h:0<s.size):s.toList.isEmpty=false:=by
 have a:=qu s;rw[gs]
 cases he:s.data.toList with
 | nil=>rw[he]at a;simp at a;omega
 | cons c t=>rfl
theorem vb0(h:¬0<s.size):s.toList.isEmpty=true:=by
 have a:=qu s;rw[gs,de (show s.data.toList.length=0 by omega)];rfl
theorem jd{k:IntKind}{a b:Int}(h:a=b):Ak (I k a)=Ak (I k b):=by rw[h]
theorem qhz(s:tq)(h:0<s.size):qB s.data.toList=if yH s[0] then qA kJ (s.data.toList.drop 1)+1 else 0:=by
 have e:=cj (l:=s.data.toList) (i:=0) (by rw[qu];exact h);rw[dw,qD s 0 h]at e;rw[e];rfl
theorem xA(s:tq)(m:s.size<=maxLen)(w:Ao):
  ua 173 #[Y s] w λe w'=>e=Ak (I J (qB s.data.toList))/\w'=w:=by
 unfold maxLen at m;have n:=qu s
 by_cases h0:0<s.size
 .have hne:s.toList.isEmpty=false:=qak h0
  have a:=qhz s h0
  cases hb:yH s[0] with
  | false=>
   rw[hb,ak uc]at a;have H:=qd a;have j:=qd hb;clear a hb;go_enter func173,ntmps173
   go_wp2_with(go_at_call 201;refine be (vS _ _) ?_;rintro w' rfl;rw[show qbj (s[0].toNat:Int)=false from q9 j])
   go_ret;exact⟨jd (by rw[q9 H];rfl),rfl⟩
  | true=>
   rw[hb,bo rfl]at a;have H:=qd a;have j:=qd hb;clear a hb;go_enter func173,ntmps173
   go_wp2_with(go_at_call 201;refine be (vS _ _) ?_;rintro w' rfl;rw[show qbj (s[0].toNat:Int)=true from q9 j])
   go_loop [3] (λi=>∃k:Nat,1<=k/\k<=s.size/\i=I J k/\Hid (qA kJ (s.data.toList.drop 1)+1=qA kJ (s.data.toList.drop k)+k)) (λi=>s.size - (intOf i).toNat)
   exact⟨1,ui,ub,rfl,qd rfl⟩;obtain⟨k,r,o,rfl,d⟩:=hrel
   by_cases A1:k<s.size
   .cases hg:kJ s[k] with
    | true=>
     have b:=vH kJ s.data.toList k ub hg;have f:Hid (qA kJ (s.data.toList.drop 1)+1=qA kJ (s.data.toList.drop (k+1))+(k+1)):=qd (by rw[q9 d,b];omega);have g:=qd hg;clear b hg d
     go_wp2_with(go_at_call 212;refine be (pf _ _) ?_;rintro w' rfl;rw[show vdm (s[k].toNat:Int)=true from q9 g])
     go_round
     case rel=>exact⟨k+1,ub,ub,by go_num,f⟩
     simp[intOf];omega
    | false=>
     have b:=vR kJ s.data.toList k ub hg;have f:Hid (qA kJ (s.data.toList.drop 1)+1=k):=qd (by rw[q9 d,b];omega);have g:=qd hg;clear b hg d
     go_wp2_with(go_at_call 212;refine be (pf _ _) ?_;rintro w' rfl;rw[show vdm (s[k].toNat:Int)=false from q9 g])
     go_ret;exact⟨jd (by rw[q9 H,q9 f]),rfl⟩
   have b:=vX kJ s.data.toList k ub;have f:Hid (qA kJ (s.data.toList.drop 1)+1=k):=qd (by rw[q9 d,b];omega);clear b d
   go_wp2
   go_ret;exact⟨jd (by rw[q9 H,q9 f]),rfl⟩
 have a:qB s.data.toList=0:=by rw[de (show s.data.toList.length=0 by omega)];rfl
 have q:s.toList.isEmpty=true:=vb0 h0;have H:=qd a;clear a;go_enter func173,ntmps173
 go_wp2
 go_ret;exact⟨jd (by rw[q9 H];rfl),rfl⟩
def BS(l:List UInt8):ByteArray:=⟨l.toArray⟩
theorem xB(l:tu):(BS l).data.toList=l:=rfl
theorem vig(s:tq):BS s.data.toList=s:=rfl
theorem qP(l:tu):(BS l).toList=l:=by rw[gs];rfl
theorem qJ(l:tu):(BS l).size=l.length:=rfl
def qgn(l:List UInt8):Int:=
 if l==[61] then 16 else if l==[60] then 18 else if l==[60,61] then 19 else if l==[62] then 20 else if l==[62,61] then 21
 else if l==[43] then 22 else if l==[45] then 23 else if l==[42] then 24 else if l==[47] then 25 else if l==[40] then 26
 else if l==[41] then 27 else if l==[44] then 28 else 1
theorem qbk(s:tq)(w:Ao):
  ua 227 #[Y s] w λe w'=>e=Ak (I J (qgn s.data.toList))/\w'=w:=by
 go_enter func227,ntmps227
 go_wp2
 all_goals(go_ret;refine⟨jd ?_,rfl⟩;simp only[gs]at *;simp only[qgn, *,if_true,dg,if_false])
structure Tk where
 A:Int
 K:Int
 V:List UInt8
def tkV(t:Tk)(place:Int):Ap:=Ai #[I J t.A,I J place,I J t.K,Y (BS t.V)]
def qi(k:Int):Tk:=⟨k,0,[]⟩
def yJ(l:List UInt8):Nat:=
 match l with
 | []=>1
 | [_]=>1
 | a::b::_=>if a==60&&b==62||(a==60||a==62)&&b==61 then 2 else 1
def xG(l:List UInt8):Int:=if l.take 2==[60,62] then 17 else qgn (l.take (yJ l))
theorem ke(c d:UInt8):((c.toNat:Int)==(d.toNat:Int))=(c==d):=by
 rw[lw];simp[<-sk];omega
theorem vb7(c:UInt8):((c.toNat:Int)==39)=(c==39):=ke c 39
theorem vrr(c:UInt8):((c.toNat:Int)==60)=(c==60):=ke c 60
theorem vrs(c:UInt8):((c.toNat:Int)==61)=(c==61):=ke c 61
theorem vrt(c:UInt8):((c.toNat:Int)==62)=(c==62):=ke c 62
theorem vb1{k a:Int}(d:k=a)(b:z=z'):
  Ak (Aj #[Ai #[I J k,I J 0,I J 0,Y ⟨#[]⟩],I J z])=Ak (Aj #[tkV (qi a) 0,I J z']):=by
 rw[d,b];rfl
theorem ver(s:tq)(h:s.size=1):s.data.toList=[s[0]]:=by
 have a:=qu s;have e:=cj (l:=s.data.toList) (i:=0) ub;rw[dw,qD s 0 ub,eh ub]at e;exact e
theorem veb(s:tq)(e:0<s.size)(d:s.size<=maxLen)(w:Ao):
  ut 206 #[Y s] w (Aj #[tkV (qi (xG s.data.toList)) 0,I J (yJ s.data.toList)]):=by
 unfold maxLen at d
 by_cases h1:1<s.size
 .obtain⟨t,a⟩:=Lib.two_bytes s h1
  have b:=qd a;go_enter func206,ntmps206
  go_wp2_with(go_at_call 227;refine be (qbk _ _) ?_;rintro w' rfl)
  all_goals
   refine tw ⟨?_, ?_⟩
   case refine_2=>exact(uj).alloc ui _
  all_goals(go_light;rw[q9 b];simp only[vrr,vrs,vrt]at *;refine vb1 ?_ ?_<;>simp_all [xG,yJ])
 have a:=ver s ub;have b:=qd a;go_enter func206,ntmps206
 go_wp2_with(go_at_call 227;refine be (qbk _ _) ?_;rintro w' rfl)
 all_goals
  refine tw ⟨?_, ?_⟩
  case refine_2=>exact(uj).alloc ui _
 all_goals(go_light;rw[q9 b];refine vb1 ?_ ?_<;>simp[xG,yJ])
def kwK(l:List UInt8):Int:=
 if l==[65,78,68] then 5 else if l==[79,82] then 6 else if l==[78,79,84] then 7 else if l==[84,82,85,69] then 8
 else if l==[70,65,76,83,69] then 9 else if l==[66,69,84,87,69,69,78] then 10 else if l==[73,78] then 11
 else if l==[76,73,75,69] then 12 else if l==[69,83,67,65,80,69] then 13 else if l==[73,83] then 14
 else if l==[78,85,76,76] then 15 else 2
def yf(l:List UInt8):Int:=kwK (Lib.toUpperA l)
theorem viv(h:∀c∈l,c.toNat<128):∀(j:Nat) (b:UInt8),l[j]?=G b->b.toNat<128:=
 λ_ _ a=>h _ (bg a)
theorem gH(s:tq)(d:s.size<=140737488355328)(b:∀c∈s.data.toList,c.toNat<128)(w:Ao):
  ut 174 #[Y s] w (I J (yf s.data.toList)):=by
 have f:=qd (viv b);clear b;unfold yf;obtain⟨u,a⟩:=it (Lib.toUpperA s.data.toList);rw[a];have e:=qd a;clear a;go_enter func174,ntmps174
 go_wp2_with(go_at_call 213;refine be (Tryz.strings_ToUpper_ascii _ _ d f) λw' g=>?_;rw[q9 e])
 all_goals(go_ret;refine⟨jd ?_,by assumption⟩;go_light;simp only[kwK, *,if_true,dg,if_false])
theorem qwt(h:kJ c=true):c.toNat<128:=by
 simp[kJ,vdm,qbj,qbt]at h;omega
theorem qvf(h:yH c=true):c.toNat<128:=by
 simp[yH,qbj]at h;omega
theorem qfd(p:UInt8->Bool)(l:tu):∀c∈l.take (qA p l),p c=true:=by
 induction l with
 | nil=>simp[qA]
 | cons d t ih=>
  intro c a
  by_cases hd:p d=true
  simp only[qA,hd,if_true,List.take_succ_cons,eo]at a;rcases a with rfl|a;exact hd;exact ih c a;simp[qA,hd]at a
theorem xh(l:tu):qB l<=l.length:=by
 cases l with
 | nil=>simp[qB]
 | cons c t=>have:=gC kJ t;simp only[qB];split<;>simp<;>omega
theorem qfn(l:tu):∀c∈l.take (qB l),c.toNat<128:=by
 cases l with
 | nil=>simp
 | cons d t=>
  intro c a
  by_cases hd:yH d=true
  simp only[qB,hd,if_true,List.take_succ_cons,eo]at a;rcases a with rfl|a;exact qvf hd;exact qwt (qfd kJ t c a);simp[qB,hd]at a
def j9(l:List UInt8):Tk:=if yf (l.take (qB l))=2 then⟨2,0,l.take (qB l)⟩ else qi (yf (l.take (qB l)))
theorem kE{w:Tk}{k n:Int}{b:tq}(f:k=w.A)(e:n=w.K)(d:b=BS w.V)(a:z=z'):
  Ak (Aj #[Ai #[I J k,I J 0,I J n,Y b],I J z])=Ak (Aj #[tkV w 0,I J z']):=by
 rw[f,e,d,a];rfl
theorem qvy(s:tq)(w:Ao)(a:s.size<=281474976710656):
  ut 52 #[Y s] w (Y s):=by
 go_enter func52,ntmps52
 go_wp2_with(go_at_call 93;refine be (Tryz.stringslite_Clone s _ a) λd b=>?_)
 go_ret;exact⟨rfl,b⟩
theorem vh3(s:tq)(C:s.size<=140737488355328)(w:Ao):
  ut 202 #[Y s] w (Aj #[tkV (j9 s.data.toList) 0,I J (qB s.data.toList)]):=by
 have v:=xh s.data.toList;rw[qu]at v;have o:(s.extract 0 (qB s.data.toList)).data.toList=s.data.toList.take (qB s.data.toList):=by rw[se];simp
 have t:s.size<=maxLen:=by unfold maxLen;omega
 have r:=qd (qfn s.data.toList);obtain⟨z,d⟩:=it (qB s.data.toList);have f:Hid (j9 s.data.toList=if yf (s.data.toList.take z)=2 then⟨2,0,s.data.toList.take z⟩ else qi (yf (s.data.toList.take z))):=by rw[<-d];exact qd rfl
 rw[d]at v o r |-;have g:=qd o;have x:=qd d;clear o d;obtain⟨k,u⟩:=it (yf (s.data.toList.take z));have b:=qd u;clear u
 by_cases h2:k=2
 .have h2'':(k != 2)=false:=by simp[h2]
  have e:=qd h2;clear h2;go_enter func202,ntmps202
  go_wp2_with(first|(go_at_call 173;refine be (xA _ t _) ?_;rintro w' rfl;rw[q9 x])|(go_at_call 174;refine be (gH _ ud (by rw[q9 g];exact q9 r) _) λw' a=>?_;obtain⟨n,q⟩:=qk a;have d:=a.size;rw[q9 g,q9 b])|(go_at_call 52;refine be (qvy _ _ ud) λw2 m=>?_;have y:w.1.size<w'.1.size:=(by simp at d;omega);have D:w.1.size<w2.1.size:=(uu m.size);have c0:∀i,w2.cell? ⟨w.1.size,i,O⟩=(#[I J 0,I J 0,I J 0,Y ⟨#[]⟩]:Array Ap)[i]?:=(λi=>((qk m).1 _ i y).trans ((n _ i uc).trans uc));have B:Xf w2 w.1.size:=(λj=>((qk m).2 _ j y).trans ((q _ j uc).trans uc));have A:=qd (a.trans (m.mono a.size));clear a m n q d))
  refine bj (by simp[go_sem,c0];rfl) rfl ⟨?_, ?_⟩
  all_goals go_light
  exact kE (by rw[q9 f,q9 b,bo (q9 e)]) (by rw[q9 f,q9 b,bo (q9 e)]) (by rw[q9 f,q9 b,bo (q9 e),<-q9 g];rfl) rfl;exact((((vf A).setCell uc _).setCell uc _).setCell uc _).setCell uc _
 have h2'':(k != 2)=true:=by simp[h2]
 have e:=qd h2;clear h2;go_enter func202,ntmps202
 go_wp2_with(first|(go_at_call 173;refine be (xA _ t _) ?_;rintro w' rfl;rw[q9 x])|(go_at_call 174;refine be (gH _ ud (by rw[q9 g];exact q9 r) _) λw' a=>?_;obtain⟨n,q⟩:=qk a;have d:=a.size;rw[q9 g,q9 b]))
 refine bj (by simp[go_sem,n];rfl) rfl ⟨?_, ?_⟩
 all_goals go_light
 exact kE (by rw[q9 f,q9 b,ak (q9 e)];rfl) (by rw[q9 f,q9 b,ak (q9 e)];rfl) (by rw[q9 f,q9 b,ak (q9 e)];rfl) rfl;exact((((vf a).setCell uc _).setCell uc _).setCell uc _).setCell uc _
section
open Go.Lib Go.Proofs.Tryz
def vK(acc:Nat):List UInt8->Nat
 | []=>acc
 | c::r=>vK (acc * 10+(c.toNat - 48)) r
theorem qxa(l:tu):∀acc,acc<=vK acc l:=by
 induction l with
 | nil=>intro acc;exact ui
 | cons c r ih=>intro acc;exact bs ub (ih _)
theorem qb5(M:Nat)(f:M<18446744073709551616)(i:18446744073709551615<=M)(l:tu):∀acc,acc<=M->(∀c∈l,48<=c.toNat/\c.toNat<=57) ->
  parseUintM M acc l=if vK acc l<=M then .ok (vK acc l) else .range:=by
 induction l with
 | nil=>intro acc h _;rw[bo (show vK acc []<=M from h)];rfl
 | cons c r ih=>
  intro acc h hd;have b:=hd c uc;have g:=qxa r (acc * 10+(c.toNat - 48));have e:vK acc (c::r)=vK (acc * 10+(c.toNat - 48)) r:=rfl;rw[e,parseUintM,bo b]
  by_cases h1:1844674407370955162<=acc
  rw[bo h1,ak ub];rw[ak h1]
  by_cases h2:M<acc * 10+(c.toNat - 48)
  rw[bo h2,ak ub];rw[ak h2];exact ih _ ub (λd a=>hd d (by simp[a]))
theorem qbv(l:tu)(a:l≠[])(hd:∀c∈l,48<=c.toNat/\c.toNat<=57):
  parseIntB 64 l=if vK 0 l<=9223372036854775807 then .ok (vK 0 l:Int) else .range:=by
 cases l with
 | nil=>exact absurd rfl a
 | cons c r=>
  have e:=hd c uc;have d:¬(c.toNat=43\/c.toNat=45):=ub;have b:¬c.toNat=45:=ub;have hp:(2:Nat) ^ (64 - 1)=9223372036854775808:=by decide +kernel
  unfold parseIntB parseUintB;simp only[ak d,hp];rw[ak (List.cons_ne_nil c r),qb5 (2 ^ 64 - 1) (by decide +kernel) (by decide +kernel) _ 0 (bt _) hd]
  by_cases h:vK 0 (c::r)<=2 ^ 64 - 1
  rw[bo h]
  by_cases h2:vK 0 (c::r)<=9223372036854775807
  rw[bo h2];dsimp only
  rw[ak ub,ak ub,ak b];rw[ak h2];dsimp only
  rw[bo ub];rw[ak h,ak ub]
end
def xN(l:List UInt8):Tk:=if vK 0 (l.take (qA jj l))<=9223372036854775807 then⟨3,vK 0 (l.take (qA jj l)),[]⟩ else qi 1
theorem vjc(l:tu):∀c∈l.take (qA jj l),48<=c.toNat/\c.toNat<=57:=by
 intro c a;have:=qfd jj l c a;simp[jj,qbt]at this;omega
theorem vex(s:tq)(a:s.size<=140737488355328)(v:Int)(h:Lib.parseIntB 64 s.data.toList=.ok v)(w:Ao):
  Calls prog 226 #[Y s,I J 10,I J 64] w λe w'=>e=Ak (Aj #[I J v,.nilIface])/\Xb w w':=by
 refine(Tryz.strconv_ParseInt_10_at64_ok s ub v h w).mono ?_;rintro e w'⟨rfl,rfl|⟨t,rfl⟩⟩;exact⟨rfl,uj⟩;exact⟨rfl,Lib.bytesWorld_below _ _ _⟩
theorem qnx(s:tq)(g:s.size<=140737488355328)(h:Lib.parseIntB 64 s.data.toList=.range)(w:Ao)(b:ErrOk w):
  Calls prog 226 #[Y s,I J 10,I J 64] w λe w'=>(∃x t p,e=Ak (Aj #[I J x,.iface t p]))/\Xb w w':=by
 obtain⟨_,ev,f,d⟩:=b;refine(Tryz.strconv_ParseInt_10_at64_range s ub h ev w f d).mono ?_;rintro e w'⟨N,rfl,_,_,a⟩;exact⟨⟨_,_,_,rfl⟩,a⟩
theorem qu1(p:UInt8->Bool)(s:tq)(h:0<s.size)(hp:p s[0]=true):qA p s.data.toList=qA p (s.data.toList.drop 1)+1:=by
 have:=vH p s.data.toList 0 (by rw[qu];exact h) hp;rwa [dw]at this
theorem qt6(s:tq)(F:0<s.size)(N:s.size<=140737488355328)(hd:jj s[0]=true)(w:Ao)(B:ErrOk w):
  ut 204 #[Y s] w (Aj #[tkV (xN s.data.toList) 0,I J (qA jj s.data.toList)]):=by
 have O:=qu s;have hp:=qu1 jj s F hd;have G:=gC jj s.data.toList;have A:=vjc s.data.toList;have S:Hid (jj s[0]=true):=hd;clear hd;obtain⟨z,g⟩:=it (qA jj s.data.toList);have T:1<=z:=ub;have Q:z<=s.size:=ub;have j:(s.extract 0 z).data.toList=s.data.toList.take z:=by rw[se];simp
 have y:=qbv (s.data.toList.take z) (by intro h;have:=congrArg List.length h;rw[cw,iq]at this;omega) (by rw[<-g];exact A);have d:Hid (xN s.data.toList=if vK 0 (s.data.toList.take z)<=9223372036854775807 then⟨3,vK 0 (s.data.toList.take z),[]⟩ else qi 1):=by rw[<-g];exact qd rfl
 rw[g]at hp |-;have L:=qd hp;have C:=qd j;have n:=qd y;have m:=λo=>B.alloc o
 have M:=qd m;clear A G g hp j y B m;obtain⟨v,hv⟩:=it (vK 0 (s.data.toList.take z));rw[hv]at d n;have R:=qd hv;clear hv;go_enter func204,ntmps204
 go_wp2
 go_loop [4] (λi=>∃k:Nat,1<=k/\k<=s.size/\i=I J k/\Hid (z=qA jj (s.data.toList.drop k)+k)) (λi=>s.size - (intOf i).toNat)
 exact⟨1,ui,ub,rfl,L⟩;obtain⟨k,U,P,rfl,q⟩:=hrel
 have more:∀a:k<s.size,jj s[k]=true->Hid (z=qA jj (s.data.toList.drop (k+1))+(k+1)):=λa b=>qd (by
  have:=vH jj s.data.toList k ub b;rw[q9 q,this];omega)
 have done1:∀a:k<s.size,jj s[k]=false->z=k:=λa b=>by
  have:=vR jj s.data.toList k ub b;rw[q9 q,this];omega
 have done2:¬k<s.size->z=k:=λa=>by
  have:=vX jj s.data.toList k ub;rw[q9 q,this];omega
 clear q
 by_cases l8:∃a:k<s.size,jj s[k]=true
 .obtain⟨a,b⟩:=l8
  have K:=more a b;have r:=qd b;clear more done1 done2 b
  go_wp2_with(go_at_call 203;refine be (jX _ _) ?_;rintro w' rfl;rw[show qbt (s[k].toNat:Int)=true from q9 r])
  go_round
  case rel=>exact⟨k+1,ub,ub,by go_num,K⟩
  simp[intOf];omega
 have D:z=k:=by
  by_cases a:k<s.size
  exact done1 a (by cases b:jj s[k] with|false=>rfl|true=>exact absurd ⟨a,b⟩ l8);exact done2 a
 have r:Hid (∀a:k<s.size,jj s[k]=false):=qd λa=>by cases b:jj s[k] with|false=>rfl|true=>exact absurd ⟨a,b⟩ l8
 clear more done1 done2 l8;subst D
 by_cases hv:v<=9223372036854775807
 .rw[bo hv]at d n
  have H:=qd hv;clear hv
  by_cases a:z<s.size
  all_goals
   go_wp2_with(first|(go_at_call 203;refine be (jX _ _) ?_;rintro w' rfl;rw[show qbt (s[z].toNat:Int)=false from q9 r a])|(go_at_call 226;refine be (vex _ ud v (by rw[q9 C];exact q9 n) _) λw' f=>?_;obtain⟨u,E⟩:=qk f;have g:=f.size))
   refine bj (by simp[go_sem,u];rfl) rfl ⟨?_, ?_⟩
   all_goals go_light
   exact kE (by rw[q9 d]) (by rw[q9 d]) (by rw[q9 d];rfl) rfl;exact((((vf f).setCell uc _).setCell uc _).setCell uc _).setCell uc _
 rw[ak hv]at d n;clear hv
 by_cases a:z<s.size
 all_goals
  go_wp2_with(first|(go_at_call 203;refine be (jX _ _) ?_;rintro w' rfl;rw[show qbt (s[z].toNat:Int)=false from q9 r a])|(go_at_call 226;refine(qnx _ ud (by rw[q9 C];exact q9 n) _ (M _)).mono ?_;rintro e w'⟨⟨x,t,p,rfl⟩,f⟩;obtain⟨u,E⟩:=qk f;have g:=f.size))
  refine bj (by simp[go_sem,u];rfl) rfl ⟨?_, ?_⟩
  all_goals go_light
  exact kE (by rw[q9 d];rfl) (by rw[q9 d];rfl) (by rw[q9 d];rfl) rfl;exact((((vf f).setCell uc _).setCell uc _).setCell uc _).setCell uc _
def vm:List UInt8->Option (List UInt8×Nat)
 | []=>O
 | [c]=>if c==39 then G ([],1) else O
 | c::d::t=>
  if c==39 then(if d==39 then(vm t).map λr=>(39::r.1,r.2+2) else G ([],1))
  else(vm (d::t)).map λr=>(c::r.1,r.2+1)
def vP(l:List UInt8):Tk:=match vm (l.drop 1) with
 | some r=>⟨4,0,r.1⟩
 | none=>qi 1
def yi(l:List UInt8):Nat:=match vm (l.drop 1) with
 | some r=>r.2+1
 | none=>l.length
def QAt(l:List UInt8)(k:Nat)(xs:List UInt8):Prop:=vm (l.drop 1)=(vm (l.drop k)).map λr=>(xs++r.1,r.2+(k - 1))
theorem vjd(l:tu)(k:Nat)(h:k+1<l.length):l.drop k=l[k]::l[k+1]::l.drop (k+2):=by
 rw[cj ub,cj ub]
theorem vny(l:tu)(k:Nat)(h:k+1=l.length):l.drop k=[l[k]]:=by
 rw[cj ub,eh ub]
theorem QAt.start(l:tu):QAt l 1 []:=by
 unfold QAt;cases vm (l.drop 1)<;>simp
theorem QAt.over(h:QAt l k xs)(a:l.length<=k):vm (l.drop 1)=O:=by
 unfold QAt at h;rw[h,eh a];rfl
theorem QAt.close(h:QAt l k xs)(e:1<=k)(d:k<l.length)(a:l[k]=39)(b:∀h:k+1<l.length,l[k+1]≠39):
  vm (l.drop 1)=G (xs,k):=by
 unfold QAt at h;rw[h]
 by_cases h2:k+1<l.length
 have:=b h2;rw[vjd l k h2,vm,bo (by simp[a]),ak (by simpa using this)];simp;omega;rw[vny l k ub,vm,bo (by simp[a])];simp;omega
theorem QAt.two(h:QAt l k xs)(d:1<=k)(a:k+1<l.length)(b:l[k]=39)(hd:l[k+1]=39):QAt l (k+2) (xs++[39]):=by
 unfold QAt at h |-;rw[h,vjd l k a,vm,bo (by simp[b]),bo (by simp[hd])]
 cases vm (l.drop (k+2)) with
 | none=>rfl
 | some r=>simp;omega
theorem QAt.one(h:QAt l k xs)(d:1<=k)(b:k<l.length)(a:l[k]≠39):QAt l (k+1) (xs++[l[k]]):=by
 unfold QAt at h |-;rw[h]
 by_cases h2:k+1<l.length
 rw[vjd l k h2,vm,ak (by simpa using a),cj h2]
 cases vm (l[k+1]::l.drop (k+1+1)) with
 | none=>rfl
 | some r=>simp;omega
 rw[vny l k ub,vm,ak (by simpa using a),eh ub];rfl
theorem Tryz.info5u:(prog.info? 5).map (λi=>(i.zero,i.size,i.bytes))=G (G (I .u8 0),1,1):=uh
theorem vcw{base:Nat}{v:Ap}(h:w.ownsRow base 5 1 v l.length (l.map λc=>I .u8 (c.toNat:Int))):
  (convert 65 9 v).run prog w=.ok (Y (BS l)) w:=by
 have d:=h;obtain⟨_,⟨rfl,a⟩|⟨g,cap,cur,rfl,_⟩⟩:=h;have:l=[]:=de a;subst this;rw[run_convert_bytes_string w 65 9 5 O 0 0 underlying65 underlying5 underlying9];simp[Conv.bytesToString];rfl;refine run_convert_bytes_back w 65 9 5 ⟨g,0,O⟩ cap l underlying65 underlying5 underlying9 λj b=>?_
 exact d.cells rfl j _ (by simp[ag b])
end Go.Proofs.YtdmmmgodfceilaaGreatDoor
