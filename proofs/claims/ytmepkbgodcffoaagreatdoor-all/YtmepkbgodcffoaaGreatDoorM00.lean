/- the small functions of -/
import Derived.Test.YtmepkbgodcffoaaGreatDoorProg
import Derived.WalkKit
import Derived.Deep.QuietTactic
import Derived.BigQuiet
import Derived.WalkSpells
import Derived.WalkLawsBesides
import Derived.Lib.Strings
import Derived.Lib.ParseIntB
import Derived.Deep.Light
import Derived.Lib.IndexBytes
import Derived.Test.YtmepkbgodcffoaaGreatDoorShelf
import Derived.Lib.AtoiErrMem
import Derived.Laws.IdiomStrings
import Derived.Deep.RegionWith
import Derived.Deep.RegionHeld3
set_option maxHeartbeats 16000000
set_option maxRecDepth 100000
namespace Go.Proofs.YtmepkbgodcffoaaGreatDoor
open Go.RowKit Go.Proofs.Tryz
open _root_.List renaming length->A
open Go.World renaming setCell->B,ownsRow->ue
open Go.Value renaming ownBlock->ug,agg->Ai,bool->Ah,int->I,pointer->Ag,slice->C,string->Y,tuple->Aj
open Bool renaming false->uh,true->ui
open Go.Addr renaming mk->D
open _root_.Array renaming size->Z,toList->T
open Go renaming Value->Ap,World->Ao
open Go.Ending renaming returned->Ak
open Go.IntKind renaming i64->J
open Go.Obj renaming cells->Al
open Option renaming none->O,some->G
open Or renaming inl->Am,inr->An
theorem be{P:Program}{f:FuncId}{a:Array Ap}{w:Ao}{E:Ending}{uc:Ao->Prop}{Q:Ending->Ao->Prop}(h:Calls P f a w λe w'=>e=E/\uc w')(k:∀w',uc w'->Q E w'):Calls P f a w Q:=h.mono λ_ w' ⟨c,b⟩=>c▸k w' b
theorem ie{α:Type}(a:α):∃x,a=x:=⟨a,rfl⟩
theorem il{α:Type}(a:α):∃x,x=a:=⟨a,rfl⟩
theorem it(k:Nat):(0:Int)<=(k:Int):=by omega
theorem je(a b:Nat)(h:a<b:=by omega):(a:Int)<(b:Int):=by omega
theorem jl(a b:Nat)(h:b<=a:=by omega):¬(a:Int)<(b:Int):=by omega
theorem lq(k:Nat)(h:0<k:=by omega):(0:Int)<(k:Int):=by omega
theorem md{p q:Prop}(x:q)(h:q->p:=by intro _;omega):p:=h x
@[reducible]def lz(f:FuncId)(a:Array Ap)(w:Ao)(v:Ap):Prop:=Calls Tryz.prog f a w λe w'=>e=Ak v/\Below (Z w.1) w w'
theorem uq{p:Prop}(h:p:=by omega):p:=h
theorem ur{p:Prop}(h:p:=by simp):p:=h
theorem ut{p:Prop}(h:p:=by simp;omega):p:=h
theorem uu{p:Prop}(h:p:=by decide):p:=h
theorem uv{p:Prop}(h:p:=by simp<;>omega):p:=h
theorem uw{p:Prop}(h:p:=by kernel_rfl):p:=h
theorem ux{n:Nat}:n<=n:=Nat.le_refl n
theorem uy{n:Nat}{w:Ao}:Below n w w:=Below.refl n w
abbrev ae:=@Nat.le_refl
abbrev ag:=@List.getElem?_eq_getElem
abbrev bo:=@bodyPost_ret
abbrev bg:=@World.cell?_of_block
abbrev aj:=@List.getElem?_eq_some_iff
abbrev bh:=@List.mem_of_getElem?
abbrev au:=@Nat.lt_of_lt_of_le
abbrev bi:=@Below.heap_setCell
abbrev bt:=@Nat.zero_le
abbrev aw:=@beq_eq_false_iff_ne
abbrev bj:=@World.cell?_alloc_past
abbrev ak:=@if_neg
abbrev aq:=@List.getD_eq_getElem?_getD
abbrev bu:=@Nat.le_trans
abbrev ce:=@World.cell?_alloc_at
abbrev bs:=@if_pos
abbrev cf:=@List.length_map
abbrev bw:=@List.append_assoc
abbrev cm:=@List.drop_eq_getElem_cons
abbrev cn:=@World.frozen?_of_block
abbrev cj:=@List.getElem?_map
abbrev cd:=@List.length_append
abbrev db:=@List.getElem?_of_mem
abbrev ch:=@Array.getElem?_eq_some_iff
abbrev da:=@decide_eq_false
abbrev dk:=@Bool.false_eq_true
abbrev de:=@decide_eq_true
abbrev dw:=@World.ownsRow_nil
abbrev dt:=@List.take_add_one
abbrev du:=@Nat.lt_succ_self
abbrev cr:=@List.mem_append
abbrev cw:=@List.length_take
abbrev eg:=@Go.below_drewN
abbrev ei:=@List.pairwise_iff_getElem
abbrev cg:=@List.getElem?_append_left
abbrev dn:=@Bool.and_eq_true
abbrev eh:=@List.mem_map
abbrev ee:=@List.drop_zero
abbrev ed:=@Nat.zero_add
abbrev fq:=@List.take_append_drop
abbrev dj:=@List.length_singleton
abbrev dh:=@List.eq_nil_of_length_eq_zero
abbrev fo:=@List.take_of_length_le
abbrev eo:=@List.drop_of_length_le
abbrev dd:=@List.mem_singleton
abbrev dp:=@List.length_drop
abbrev dq:=@List.map_append
abbrev ep:=@List.mem_cons
abbrev fm:=@List.length_set
abbrev di:=@List.cons_append
abbrev ik:=@Below.heap_alloc
abbrev eu:=@List.mem_cons_self
abbrev cu:=@List.getElem?_append_right
abbrev ip:=@List.findIdx?_eq_some_iff_getElem
abbrev iq:=@World.frozen?_alloc_at
abbrev iu:=@World.frozen?_alloc_past
abbrev io:=@Lib.toList_data
abbrev fk:=@List.getElem_mem
abbrev ii:=@List.getElem?_set
abbrev fe:=@List.mem_cons_of_mem
abbrev gs:=@List.append_nil
abbrev ll:=@World.cell?_drew
abbrev ln:=@List.not_mem_nil
abbrev ld:=@List.mem_map_of_mem
abbrev lh:=@List.ext_getElem?
abbrev ew:=@beq_iff_eq
abbrev mh:=@World.size_alloc
abbrev ig:=@List.take_length
abbrev fj:=@List.length_cons
abbrev iy:=@Array.getElem?_modify
abbrev ir:=@Bool.or_eq_false_iff
abbrev ij:=@List.nil_append
abbrev im:=@List.length_nil
abbrev mu:=@beq_self_eq_true
abbrev mx:=@UInt8.toNat_ofNat'
abbrev my:=@List.pairwise_cons
abbrev lj:=@List.mem_range
abbrev lu:=@Bool.and_false
abbrev fw:=@decide_eq_true_eq
abbrev dy:=@List.flatMap_cons
abbrev fh:=@Bool.or_eq_true
abbrev iz:=@Nat.sub_self
abbrev mf:=@Bool.true_and
abbrev nl:=@Bool.and_true
abbrev mw:=@World.size_setCell
abbrev ix:=@List.getElem?_drop
abbrev mi:=@Nat.mul_le_mul_right
abbrev oo:=@List.map_set
abbrev oe:=@Bool.false_or
abbrev ov:=@Bool.and_or_distrib_left
abbrev ox:=@Calls.quiet_of_same
abbrev nt:=@World.block_lt_of_cell?
abbrev mq:=@List.map_map
abbrev rm:=@List.head?_eq_getElem?
abbrev mg:=@Nat.min_eq_left
abbrev rp:=@Array.getElem?_setIfInBounds
abbrev rq:=@Bool.not_true
abbrev ol:=@List.pairwise_map
abbrev oy:=@Nat.mul_le_mul
abbrev si:=@List.takeWhile_cons_of_pos
abbrev sj:=@List.takeWhile_cons_of_neg
abbrev mj:=@List.mem_of_mem_drop
abbrev sn:=@Bool.not_false
abbrev rh:=@Bool.false_and
abbrev nh:=@List.any_eq_true
abbrev lw:=@List.mem_or_eq_of_mem_set
abbrev ow:=@Nat.mul_le_mul_left
abbrev fu:=@List.map_cons
abbrev nj:=@Bool.or_false
abbrev th:=@UInt8.toNat_inj
abbrev ny:=@Option.map_some
abbrev ro:=@List.mem_filter
abbrev li:=@List.getElem?_take
abbrev ub:=@bodyPost_end
abbrev lp:=@List.length_range
attribute[go_sem]results results86 results116 results165 results204 results202 results203 results200 results235 results106 results105 results75 results49 results124 results90 results126 results208 results81 results44 results22 results25 results19 results72 results46 results134 results45 results23 results26 results20 results137 results99 results96 results97 results135 results51 results54 results52 results263 results95 results216 results262 results67 results185 results187 results186 results108 results100 results136 results60 results143 results148 results127 results147 results132 results133 results146 results131 results180 results122 results89 results183 results176 results87 results184 results123 results179 results125 results182 results178 results175 results181 results88 results173
theorem um{P:Program}{f:Func}{R:Ending->Ao->Prop}{a:Act}{w:Ao}{v:Ap}(k:R (Ak v) w)(h:(results f a.tmps).run P w=.ok v w:=by simp[go_sem]<;>rfl)(d:a.defers=[]:=by rfl):bodyPost P f R .ret a w:=bodyPost_ret h d k
abbrev uo:=Calls prog
abbrev uj:=ByteArray
abbrev uk:=List UInt8
abbrev Xb(w w':Ao):=Below w.1.size w w'
abbrev Xc(w:Ao)(b i:Nat)(v:Ap):=w.cell? ⟨b,i,O⟩=G v
abbrev Xf(w:Ao)(b:Nat):=∀j,w.frozen? ⟨b,j,O⟩=uh
attribute[simp,go_sem]Xc Xf
variable{p:Addr}{b:Bool}{s:uj}{e:Ending}{en pl z z':Int}{ks:List Int}{l xs:uk}{uc K k lo n op rb:Nat}{c:UInt8}{v:Ap}{W a w w' w1:Ao}
theorem qd{p:Prop}(h:p):Hid p:=h
theorem q9{p:Prop}(h:Hid p):p:=h
theorem qi(d:Xb W w1):(∀b o,b<Z W.1->w1.cell? (D b o O)=W.cell? (D b o O))/\(∀b o,b<Z W.1->w1.frozen? (D b o O)=W.frozen? (D b o O)):=by grind[Below.cell,Below.frozen]
theorem vh{o:Obj}(d:Below (Z (w.alloc o).1) (w.alloc o) w'):Xb w w':=
 (uy.alloc ux _).trans (d.mono ur)
def ErrOk(w:Ao):Prop:=3<Z w.1/\∃ev,w.cell? ⟨3,0,O⟩=G ev/\(ev=.nilIface\/∃te pe,ev=.iface te pe)
theorem ErrOk.h(h:ErrOk w)(d:Below uc w w')(i:Z w.1<=uc):ErrOk w':=by
 obtain⟨g,ev,j,f⟩:=h;refine⟨au g d.size,ev, ?_,f⟩
 grind[Below.cell]
theorem ErrOk.alloc(h:ErrOk w)(o:Obj):ErrOk (w.alloc o):=
 h.h ((Below.refl (Z w.1) w).alloc ux o) ux
def spB(c:Int):Bool:=c==32||c==9||c==10
def qdc(c:Int):Bool:=decide (48<=c)&&decide (c<=57)
def qd0(c:Int):Bool:=decide (65<=c)&&decide (c<=90)||decide (97<=c)&&decide (c<=122)||c==95||c==36
def vil(c:Int):Bool:=qd0 c||qdc c||c==46
theorem vd{a:Bool}(h:a=ui↔b=ui):Ak (Ah a)=Ak (Ah b):=by
 grind
theorem qf3(c:Int)(w:Ao):
  uo 164 #[I .u8 c] w λe w'=>e=Ak (Ah (spB c))/\w'=w:=by
 unfold spB;go_enter func164,ntmps164
 go_wp2
 all_goals(go_ret;exact⟨vd uv,rfl⟩)
theorem zA(c:Int)(w:Ao):
  uo 201 #[I .u8 c] w λe w'=>e=Ak (Ah (qdc c))/\w'=w:=by
 unfold qdc;go_enter func201,ntmps201
 go_wp2
 all_goals(go_ret;exact⟨vd uv,rfl⟩)
theorem j4(c:Int)(w:Ao):
  uo 199 #[I .u8 c] w λe w'=>e=Ak (Ah (qd0 c))/\w'=w:=by
 unfold qd0;go_enter func199,ntmps199
 go_wp2
 all_goals(go_ret;exact⟨vd uv,rfl⟩)
theorem qa3(c:Int)(w:Ao):
  uo 210 #[I .u8 c] w λe w'=>e=Ak (Ah (vil c))/\w'=w:=by
 unfold vil;go_enter func210,ntmps210
 go_wp2_with(first|(go_at_call 199;refine be (j4 _ _) ?_;rintro w' rfl)|(refine be (zA _ _) ?_;rintro w' rfl))
 all_goals(go_ret;exact⟨vd (by simp_all),rfl⟩)
def qD(p:UInt8->Bool):List UInt8->Nat
 | []=>0
 | c::t=>if p c then qD p t+1 else 0
def gK(c:UInt8):Bool:=vil (c.toNat:Int)
def km(c:UInt8):Bool:=qd0 (c.toNat:Int)
def jx(c:UInt8):Bool:=qdc (c.toNat:Int)
def spU(c:UInt8):Bool:=spB (c.toNat:Int)
theorem pC(p:UInt8->Bool)(l:uk):qD p l<=A l:=by
 induction l<;>grind[qD]
theorem vN(p:UInt8->Bool)(l:uk)(k:Nat)(h:k<A l)(hp:p (l[k])=ui):
  qD p (l.drop k)=qD p (l.drop (k+1))+1:=by
 grind[List.drop_eq_getElem_cons,qD]
theorem j3(p:UInt8->Bool)(l:uk)(k:Nat)(h:k<A l)(hp:p (l[k])=uh):
  qD p (l.drop k)=0:=by
 grind[List.drop_eq_getElem_cons,qD]
theorem jb(p:UInt8->Bool)(l:uk)(k:Nat)(h:A l<=k):qD p (l.drop k)=0:=by
 rw[eo h];rfl
def qE:List UInt8->Nat
 | []=>0
 | c::t=>if km c then qD gK t+1 else 0
theorem qy(s:uj):A (T s.data)=s.size:=ur
theorem qF(s:uj)(k:Nat)(h:k<s.size):s.data.toList[k]'(by rwa[qy])=s[k]:=rfl
theorem qbs(h:0<s.size):s.toList.isEmpty=uh:=by
 have d:=qy s;rw[io]
 grind
theorem vfw(h:¬0<s.size):s.toList.isEmpty=ui:=by
 simp_all
theorem js{k:IntKind}{a b:Int}(h:a=b):Ak (I k a)=Ak (I k b):=by rw[h]
theorem qkn(s:uj)(h:0<s.size):qE (T s.data)=if km s[0] then qD gK (s.data.toList.drop 1)+1 else 0:=by
 have e:=cm (l:=T s.data) (i:=0) (by grind[qy]);rw[ee,qF s 0 h]at e;rw[e];rfl
theorem xX(s:uj)(q:s.size<=maxLen)(w:Ao):
  uo 171 #[Y s] w λe w'=>e=Ak (I J (qE (T s.data)))/\w'=w:=by
 unfold maxLen at q;have r:=qy s
 by_cases h0:0<s.size
 .have hne:s.toList.isEmpty=uh:=qbs h0
  have d:=qkn s h0
  cases hb:km s[0] with
  | false=>
   rw[hb,ak ur]at d;have H:=qd d;have o:=qd hb;clear d hb;go_enter func171,ntmps171
   go_wp2_with(go_at_call 199;refine be (j4 _ _) ?_;rintro w' rfl;rw[show qd0 (s[0].toNat:Int)=uh from q9 o])
   go_ret;exact⟨js (by rw[q9 H];rfl),rfl⟩
  | true=>
   rw[hb,bs rfl]at d;have H:=qd d;have o:=qd hb;clear d hb;go_enter func171,ntmps171
   go_wp2_with(go_at_call 199;refine be (j4 _ _) ?_;rintro w' rfl;rw[show qd0 (s[0].toNat:Int)=ui from q9 o])
   go_loop [3] (λi=>∃k:Nat,1<=k/\k<=s.size/\i=I J k/\Hid (qD gK (s.data.toList.drop 1)+1=qD gK (s.data.toList.drop k)+k)) (λi=>s.size - (intOf i).toNat)
   exact⟨1,ux,uq,rfl,qd rfl⟩;obtain⟨k,x,t,rfl,g⟩:=hrel
   by_cases A1:k<s.size
   .cases hg:gK s[k] with
    | true=>
     have f:=vN gK (T s.data) k uq hg;have j:Hid (qD gK (s.data.toList.drop 1)+1=qD gK (s.data.toList.drop (k+1))+(k+1)):=qd (by rw[q9 g,f];omega);have m:=qd hg;clear f hg g
     go_wp2_with(go_at_call 210;refine be (qa3 _ _) ?_;rintro w' rfl;rw[show vil (s[k].toNat:Int)=ui from q9 m])
     go_round
     case rel=>exact⟨k+1,uq,uq,by go_num,j⟩
     simp[intOf];omega
    | false=>
     have f:=j3 gK (T s.data) k uq hg;have j:Hid (qD gK (s.data.toList.drop 1)+1=k):=qd (by rw[q9 g,f];omega);have m:=qd hg;clear f hg g
     go_wp2_with(go_at_call 210;refine be (qa3 _ _) ?_;rintro w' rfl;rw[show vil (s[k].toNat:Int)=uh from q9 m])
     go_ret;exact⟨js (by rw[q9 H,q9 j]),rfl⟩
   have f:=jb gK (T s.data) k uq;have j:Hid (qD gK (s.data.toList.drop 1)+1=k):=qd (by rw[q9 g,f];omega);clear f g
   go_wp2
   go_ret;exact⟨js (by rw[q9 H,q9 j]),rfl⟩
 have d:qE (T s.data)=0:=by rw[dh (show A (T s.data)=0 by omega)];rfl
 have u:s.toList.isEmpty=ui:=vfw h0;have H:=qd d;clear d;go_enter func171,ntmps171
 go_wp2
 go_ret;exact⟨js (by rw[q9 H];rfl),rfl⟩
section
open Go.Lib Go.Proofs.Tryz
def vR(acc:Nat):List UInt8->Nat
 | []=>acc
 | c::r=>vR (acc * 10+(c.toNat - 48)) r
theorem vbs(l:uk):∀acc,acc<=vR acc l:=by
 induction l with
 | nil=>intro acc;exact ux
 | cons c r ih=>intro acc;exact bu uq (ih _)
theorem qck(M:Nat)(f:M<18446744073709551616)(i:18446744073709551615<=M)(l:uk):∀acc,acc<=M->(∀c∈l,48<=c.toNat/\c.toNat<=57) ->
  parseUintM M acc l=if vR acc l<=M then .ok (vR acc l) else .range:=by
 induction l with
 | nil=>intro acc h _;rw[bs (show vR acc []<=M from h)];rfl
 | cons c r ih=>
  intro acc h hd;have d:=hd c ur;have g:=vbs r (acc * 10+(c.toNat - 48));have e:vR acc (c::r)=vR (acc * 10+(c.toNat - 48)) r:=rfl;rw[e,parseUintM,bs d]
  by_cases h1:1844674407370955162<=acc
  grind
  grind
theorem qde(l:uk)(d:l≠[])(hd:∀c∈l,48<=c.toNat/\c.toNat<=57):
  parseIntB 64 l=if vR 0 l<=9223372036854775807 then .ok (vR 0 l:Int) else .range:=by
 cases l with
 | nil=>exact absurd rfl d
 | cons c r=>
  have g:=hd c ur;have f:¬(c.toNat=43\/c.toNat=45):=uq;have hp:(2:Nat) ^ (64 - 1)=9223372036854775808:=by decide +kernel
  unfold parseIntB parseUintB;simp only[ak f,hp];rw[ak (List.cons_ne_nil c r),qck (2 ^ 64 - 1) (by decide +kernel) (by decide +kernel) _ 0 (bt _) hd]
  by_cases h:vR 0 (c::r)<=2 ^ 64 - 1
  grind
  grind
end
def BS(l:List UInt8):ByteArray:=⟨l.toArray⟩
theorem zW(l:uk):T (BS l).data=l:=rfl
theorem vpl(s:uj):BS (T s.data)=s:=rfl
theorem qP(l:uk):(BS l).toList=l:=by simp[BS]
theorem qI(l:uk):(BS l).size=A l:=rfl
def qj9(l:List UInt8):Int:=
 if l==[61] then 16 else if l==[60] then 18 else if l==[60,61] then 19 else if l==[62] then 20 else if l==[62,61] then 21
 else if l==[43] then 22 else if l==[45] then 23 else if l==[42] then 24 else if l==[47] then 25 else if l==[40] then 26
 else if l==[41] then 27 else if l==[44] then 28 else 1
theorem qd1(s:uj)(w:Ao):
  uo 225 #[Y s] w λe w'=>e=Ak (I J (qj9 (T s.data)))/\w'=w:=by
 go_enter func225,ntmps225
 go_wp2
 all_goals(go_ret;refine⟨js ?_,rfl⟩;simp only[io]at *;simp only[qj9, *,if_true,dk,if_false])
structure Tk where
 Q:Int
 M:Int
 str:List UInt8
def tkV(t:Tk)(place:Int):Ap:=Ai #[I J t.Q,I J place,I J t.M,Y (BS t.str)]
def qk(k:Int):Tk:=⟨k,0,[]⟩
def ko(l:List UInt8):Nat:=
 match l with
 | []=>1
 | [_]=>1
 | a::b::_=>if a==60&&b==62||(a==60||a==62)&&b==61 then 2 else 1
def yd(l:List UInt8):Int:=if l.take 2==[60,62] then 17 else qj9 (l.take (ko l))
theorem kO(c d:UInt8):((c.toNat:Int)==(d.toNat:Int))=(c==d):=by
 rw[Bool.eq_iff_iff];simp[<-th];omega
theorem vg3(c:UInt8):((c.toNat:Int)==39)=(c==39):=kO c 39
theorem vx8(c:UInt8):((c.toNat:Int)==60)=(c==60):=kO c 60
theorem vx9(c:UInt8):((c.toNat:Int)==61)=(c==61):=kO c 61
theorem vxa(c:UInt8):((c.toNat:Int)==62)=(c==62):=kO c 62
theorem vfx{k d:Int}(g:k=d)(f:z=z'):
  Ak (Aj #[Ai #[I J k,I J 0,I J 0,Y ⟨#[]⟩],I J z])=Ak (Aj #[tkV (qk d) 0,I J z']):=by
 rw[g,f];rfl
theorem vjv(s:uj)(h:s.size=1):T s.data=[s[0]]:=by
 have d:=qy s;have e:=cm (l:=T s.data) (i:=0) uq
 grind[qF]
theorem vja(s:uj)(i:0<s.size)(g:s.size<=maxLen)(w:Ao):
  lz 204 #[Y s] w (Aj #[tkV (qk (yd (T s.data))) 0,I J (ko (T s.data))]):=by
 unfold maxLen at g
 by_cases h1:1<s.size
 .obtain⟨t,d⟩:=Lib.two_bytes s h1
  have f:=qd d;go_enter func204,ntmps204
  go_wp2_with(refine be (qd1 _ _) ?_;rintro w' rfl)
  all_goals
   refine um ⟨?_, ?_⟩
   case refine_2=>exact(uy).alloc ux _
  all_goals(go_light;rw[q9 f];simp only[vx8,vx9,vxa]at *;refine vfx ?_ ?_<;>simp_all [yd,ko])
 have d:=vjv s uq;have f:=qd d;go_enter func204,ntmps204
 go_wp2_with(refine be (qd1 _ _) ?_;rintro w' rfl)
 all_goals
  refine um ⟨?_, ?_⟩
  case refine_2=>exact(uy).alloc ux _
 all_goals(go_light;rw[q9 f];refine vfx ?_ ?_<;>simp[yd,ko])
def kwK(l:List UInt8):Int:=
 if l==[65,78,68] then 5 else if l==[79,82] then 6 else if l==[78,79,84] then 7 else if l==[84,82,85,69] then 8
 else if l==[70,65,76,83,69] then 9 else if l==[66,69,84,87,69,69,78] then 10 else if l==[73,78] then 11
 else if l==[76,73,75,69] then 12 else if l==[69,83,67,65,80,69] then 13 else if l==[73,83] then 14
 else if l==[78,85,76,76] then 15 else 2
def yI(l:List UInt8):Int:=kwK (Lib.toUpperA l)
theorem vq0(h:∀c∈l,c.toNat<128):∀(j:Nat) (b:UInt8),l[j]?=G b->b.toNat<128:=by grind
theorem pG(s:uj)(f:s.size<=140737488355328)(g:∀c∈T s.data,c.toNat<128)(w:Ao):
  lz 172 #[Y s] w (I J (yI (T s.data))):=by
 have i:=qd (vq0 g);unfold yI;obtain⟨u,d⟩:=ie (Lib.toUpperA (T s.data));rw[d];have h:=qd d;go_enter func172,ntmps172
 go_wp2_with(refine be (Tryz.strings_ToUpper_ascii _ _ f i) λw' j=>?_;rw[q9 h])
 all_goals(go_ret;refine⟨js ?_,by assumption⟩;go_light;simp only[kwK, *,if_true,dk,if_false])
theorem vb9(h:gK c=ui):c.toNat<128:=by
 grind[gK,vil,qd0,qdc]
theorem qzs(h:km c=ui):c.toNat<128:=by
 grind[km,qd0]
theorem qhv(p:UInt8->Bool)(l:uk):∀c∈l.take (qD p l),p c=ui:=by
 induction l<;>grind[qD]
theorem xE(l:uk):qE l<=A l:=by
 cases l<;>grind[qE,pC]
theorem qi4(l:uk):∀c∈l.take (qE l),c.toNat<128:=by
 cases l<;>grind[qE,qzs,vb9,qhv]
def jk(l:List UInt8):Tk:=if yI (l.take (qE l))=2 then⟨2,0,l.take (qE l)⟩ else qk (yI (l.take (qE l)))
theorem gD{w:Tk}{k n:Int}{b:uj}(h:k=w.Q)(g:n=w.M)(f:b=BS w.str)(d:z=z'):
  Ak (Aj #[Ai #[I J k,I J 0,I J n,Y b],I J z])=Ak (Aj #[tkV w 0,I J z']):=by
 rw[h,g,f,d];rfl
theorem qm4(s:uj)(w:Ao)(d:s.size<=281474976710656):
  lz 50 #[Y s] w (Y s):=by
 go_enter func50,ntmps50
 go_wp2_with(refine be (Tryz.stringslite_Clone s _ d) λw1 f=>?_)
 go_ret;exact⟨rfl,f⟩
theorem vn8(s:uj)(G:s.size<=140737488355328)(w:Ao):
  lz 200 #[Y s] w (Aj #[tkV (jk (T s.data)) 0,I J (qE (T s.data))]):=by
 have u:=xE (T s.data);rw[qy]at u;have x:T (s.extract 0 (qE (T s.data))).data=s.data.toList.take (qE (T s.data)):=by rw[Lib.extract_data];simp
 have y:s.size<=maxLen:=by unfold maxLen;omega
 have E:=qd (qi4 (T s.data));obtain⟨z,m⟩:=ie (qE (T s.data));have o:Hid (jk (T s.data)=if yI (s.data.toList.take z)=2 then⟨2,0,s.data.toList.take z⟩ else qk (yI (s.data.toList.take z))):=by rw[<-m];exact qd rfl
 rw[m]at u x E |-;have t:=qd x;have B:=qd m;obtain⟨k,D⟩:=ie (yI (s.data.toList.take z));have d:=qd D
 by_cases h2:k=2
 .have h2'':(k != 2)=uh:=by simp[h2]
  have g:=qd h2;go_enter func200,ntmps200
  go_wp2_with(first|(go_at_call 171;refine be (xX _ y _) ?_;rintro w' rfl;rw[q9 B])|(go_at_call 172;refine be (pG _ ut (by grind[Hid]) _) λw' f=>?_;obtain⟨r,A⟩:=qi f;have m:=f.size;rw[q9 t,q9 d])|(refine be (qm4 _ _ ut) λw2 q=>?_;have C:Z w.1<Z w'.1:=(by simp at m;omega);have L:Z w.1<Z w2.1:=(md q.size);have c0:∀i,w2.cell? ⟨Z w.1,i,O⟩=(#[I J 0,I J 0,I J 0,Y ⟨#[]⟩]:Array Ap)[i]?:=(λi=>((qi q).1 _ i C).trans ((r _ i ur).trans ur));have F:Xf w2 (Z w.1):=(λj=>((qi q).2 _ j C).trans ((A _ j ur).trans ur));have H:=qd (f.trans (q.mono f.size))))
  refine bo (by simp[go_sem,c0];rfl) rfl ⟨?_, ?_⟩
  all_goals go_light
  exact gD (by rw[q9 o,q9 d,bs (q9 g)]) (by rw[q9 o,q9 d,bs (q9 g)]) (by rw[q9 o,q9 d,bs (q9 g),<-q9 t];rfl) rfl
  grind[vh,Below.setCell,Hid]
 have h2'':(k != 2)=ui:=by simp[h2]
 have g:=qd h2;go_enter func200,ntmps200
 go_wp2_with(first|(go_at_call 171;refine be (xX _ y _) ?_;rintro w' rfl;rw[q9 B])|(refine be (pG _ ut (by grind[Hid]) _) λw' f=>?_;obtain⟨r,A⟩:=qi f;have m:=f.size;rw[q9 t,q9 d]))
 refine bo (by simp[go_sem,r];rfl) rfl ⟨?_, ?_⟩
 all_goals go_light
 exact gD (by rw[q9 o,q9 d,ak (q9 g)];rfl) (by rw[q9 o,q9 d,ak (q9 g)];rfl) (by rw[q9 o,q9 d,ak (q9 g)];rfl) rfl
 grind[vh,Below.setCell]
def yj(l:List UInt8):Tk:=if vR 0 (l.take (qD jx l))<=9223372036854775807 then⟨3,vR 0 (l.take (qD jx l)),[]⟩ else qk 1
theorem vqh(l:uk):∀c∈l.take (qD jx l),48<=c.toNat/\c.toNat<=57:=by
 grind[qhv,jx,qdc]
theorem vk1(s:uj)(d:s.size<=140737488355328)(v:Int)(h:Lib.parseIntB 64 (T s.data)=.ok v)(w:Ao):
  Calls prog 224 #[Y s,I J 10,I J 64] w λe w'=>e=Ak (Aj #[I J v,.nilIface])/\Xb w w':=by
 refine(Tryz.strconv_ParseInt_10_at64_ok s uq v h w).mono ?_;rintro e w'⟨rfl,rfl|⟨t,rfl⟩⟩
 grind[Below.refl]
 exact⟨rfl,Lib.bytesWorld_below _ _ _⟩
theorem qs6(s:uj)(i:s.size<=140737488355328)(h:Lib.parseIntB 64 (T s.data)=.range)(w:Ao)(d:ErrOk w):
  Calls prog 224 #[Y s,I J 10,I J 64] w λe w'=>(∃x t p,e=Ak (Aj #[I J x,.iface t p]))/\Xb w w':=by
 obtain⟨_,ev,g,f⟩:=d;refine(Tryz.strconv_ParseInt_10_at64_range s uq h ev w g f).mono ?_
 grind
theorem qy6(p:UInt8->Bool)(s:uj)(h:0<s.size)(hp:p s[0]=ui):qD p (T s.data)=qD p (s.data.toList.drop 1)+1:=by
 have:=vN p (T s.data) 0 (by grind[qy]) hp
 grind
theorem qx7(s:uj)(L:0<s.size)(P:s.size<=140737488355328)(hd:jx s[0]=ui)(w:Ao)(C:ErrOk w):
  lz 202 #[Y s] w (Aj #[tkV (yj (T s.data)) 0,I J (qD jx (T s.data))]):=by
 have Q:=qy s;have hp:=qy6 jx s L hd;have G:=pC jx (T s.data);have E:=vqh (T s.data);have HD:Hid (jx s[0]=ui):=hd;clear hd;obtain⟨z,j⟩:=ie (qD jx (T s.data));have B9:1<=z:=uq;have S:z<=s.size:=uq;have m:T (s.extract 0 z).data=s.data.toList.take z:=by rw[Lib.extract_data];simp
 have D:=qde (s.data.toList.take z) (by grind[List.length_take]) (by rwa[<-j]);have f:Hid (yj (T s.data)=if vR 0 (s.data.toList.take z)<=9223372036854775807 then⟨3,vR 0 (s.data.toList.take z),[]⟩ else qk 1):=by rw[<-j];exact qd rfl
 rw[j]at hp |-;have N:=qd hp;have U:=qd m;have B:=qd D;have r:=λo=>C.alloc o
 have O:=qd r;clear E G j hp m D C r;obtain⟨v,hv⟩:=ie (vR 0 (s.data.toList.take z));rw[hv]at f B;have X:=qd hv;clear hv;go_enter func202,ntmps202
 go_wp2
 go_loop [4] (λi=>∃k:Nat,1<=k/\k<=s.size/\i=I J k/\Hid (z=qD jx (s.data.toList.drop k)+k)) (λi=>s.size - (intOf i).toNat)
 exact⟨1,ux,uq,rfl,N⟩;obtain⟨k,A5,R,rfl,u⟩:=hrel
 have more:∀d:k<s.size,jx s[k]=ui->Hid (z=qD jx (s.data.toList.drop (k+1))+(k+1)):=λd g=>qd (by
  have:=vN jx (T s.data) k uq g;rw[q9 u,this];omega)
 have done1:∀d:k<s.size,jx s[k]=uh->z=k:=λd g=>by
  have:=j3 jx (T s.data) k uq g;rw[q9 u,this];omega
 have done2:¬k<s.size->z=k:=λd=>by
  have:=jb jx (T s.data) k uq;rw[q9 u,this];omega
 clear u
 by_cases bK:∃d:k<s.size,jx s[k]=ui
 .obtain⟨d,g⟩:=bK
  have Z:=more d g;have y:=qd g;clear more done1 done2 g
  go_wp2_with(go_at_call 201;refine be (zA _ _) ?_;rintro w' rfl;rw[show qdc (s[k].toNat:Int)=ui from q9 y])
  go_round
  grind
  simp[intOf];omega
 have F:z=k:=by
  by_cases d:k<s.size
  grind
  exact done2 d
 have y:Hid (∀d:k<s.size,jx s[k]=uh):=qd λd=>by grind
 clear more done1 done2 bK;subst F
 by_cases hv:v<=9223372036854775807
 .rw[bs hv]at f B
  have M:=qd hv;clear hv
  by_cases d:z<s.size
  all_goals
   go_wp2_with(first|(go_at_call 201;refine be (zA _ _) ?_;rintro w' rfl;rw[show qdc (s[z].toNat:Int)=uh from q9 y d])|(go_at_call 224;refine be (vk1 _ ut v (by grind[Hid]) _) λw' q=>?_;obtain⟨A,H⟩:=qi q;have j:=q.size))
   refine bo (by simp[go_sem,A];rfl) rfl ⟨?_, ?_⟩
   all_goals go_light
   exact gD (by rw[q9 f]) (by rw[q9 f]) (by rw[q9 f];rfl) rfl
   grind[vh,Below.setCell]
 rw[ak hv]at f B;clear hv
 by_cases d:z<s.size
 all_goals
  go_wp2_with(first|(go_at_call 201;refine be (zA _ _) ?_;rintro w' rfl;rw[show qdc (s[z].toNat:Int)=uh from q9 y d])|(go_at_call 224;refine(qs6 _ ut (by grind[Hid]) _ (O _)).mono ?_;rintro e w'⟨⟨x,t,p,rfl⟩,q⟩;obtain⟨A,H⟩:=qi q;have j:=q.size))
  refine bo (by simp[go_sem,A];rfl) rfl ⟨?_, ?_⟩
  all_goals go_light
  exact gD (by rw[q9 f];rfl) (by rw[q9 f];rfl) (by rw[q9 f];rfl) rfl
  grind[vh,Below.setCell]
def vu:List UInt8->Option (List UInt8×Nat)
 | []=>O
 | [c]=>if c==39 then G ([],1) else O
 | c::d::t=>
  if c==39 then(if d==39 then(vu t).map λr=>(39::r.1,r.2+2) else G ([],1))
  else(vu (d::t)).map λr=>(c::r.1,r.2+1)
def vY(l:List UInt8):Tk:=match vu (l.drop 1) with
 | some r=>⟨4,0,r.1⟩
 | none=>qk 1
def yL(l:List UInt8):Nat:=match vu (l.drop 1) with
 | some r=>r.2+1
 | none=>A l
def QAt(l:List UInt8)(k:Nat)(xs:List UInt8):Prop:=vu (l.drop 1)=(vu (l.drop k)).map λr=>(xs++r.1,r.2+(k - 1))
theorem vqi(l:uk)(k:Nat)(h:k+1<A l):l.drop k=l[k]::l[k+1]::l.drop (k+2):=by
 simp
theorem vug(l:uk)(k:Nat)(h:k+1=A l):l.drop k=[l[k]]:=by
 grind[List.drop_eq_getElem_cons]
theorem QAt.start(l:uk):QAt l 1 []:=by
 simp[QAt]
theorem QAt.over(h:QAt l k xs)(d:A l<=k):vu (l.drop 1)=O:=by
 rw[h,eo d];rfl
theorem QAt.close(h:QAt l k xs)(i:1<=k)(f:k<A l)(g:l[k]=39)(d:∀h:k+1<A l,l[k+1]≠39):
  vu (l.drop 1)=G (xs,k):=by
 grind[QAt,vqi,vu,vug]
theorem QAt.two(h:QAt l k xs)(g:1<=k)(d:k+1<A l)(f:l[k]=39)(hd:l[k+1]=39):QAt l (k+2) (xs++[39]):=by
 unfold QAt at h |-;rw[h,vqi l k d,vu,bs (by simp[f]),bs (by simp[hd])];cases vu (l.drop (k+2))<;>grind
theorem QAt.one(h:QAt l k xs)(g:1<=k)(f:k<A l)(d:l[k]≠39):QAt l (k+1) (xs++[l[k]]):=by
 unfold QAt at h |-;rw[h]
 by_cases h2:k+1<A l
 rw[vqi l k h2,vu,ak (by simpa using d),cm h2]
 cases vu (l[k+1]::l.drop (k+1+1)) with
 | none=>rfl
 | some r=>simp;omega
 grind[vug,vu]
theorem Tryz.info5u:(prog.info? 5).map (λi=>(i.zero,i.size,i.bytes))=G (G (I .u8 0),1,1):=uw
theorem vhq{base:Nat}(h:ue w base 5 1 v (A l) (l.map λc=>I .u8 (c.toNat:Int))):
  (convert 65 9 v).run prog w=.ok (Y (BS l)) w:=by
 have f:=h;obtain⟨_,⟨rfl,d⟩|⟨g,cap,cur,rfl,_⟩⟩:=h;have:l=[]:=dh d;subst this;rw[run_convert_bytes_string w 65 9 5 O 0 0 underlying65 underlying5 underlying9];rfl;refine run_convert_bytes_back w 65 9 5 ⟨g,0,O⟩ cap l underlying65 underlying5 underlying9 λj i=>?_
 exact f.cells rfl j _ (by grind)
theorem qul{wr:Ao}{xs:List Ap}{e:TypeId}(i:Below uc W wr)(j:uc<=Z wr.1)(d:ue wr uc e 1 v n xs)(o:Obj)
  (g:(wr.alloc o).grownBy w1 (ug v)):Below uc W w1:=
 (i.alloc j o).grown g ut λk f=>(d.lt k f).1
theorem qvd(c:UInt8):((c.toNat:Int) != 39)=!(c==39):=by grind[vg3]
theorem gq(h:vu (l.drop 1)=G (xs,k)):vY l=⟨4,0,xs⟩/\yL l=k+1:=by
 grind[vY,yL]
theorem qfs(h:vu (l.drop 1)=O):vY l=qk 1/\yL l=A l:=by
 grind[vY,yL]
theorem qxi(s:uj)(h0:0<s.size)(hs:s.size<=140737488355328)(w:Ao):
  lz 203 #[Y s] w (Aj #[tkV (vY (T s.data)) 0,I J (yL (T s.data))]):=by
 have hl:=qy s;obtain⟨N,P,U,B9,X⟩:=info_parts Tryz.info5u;obtain⟨TK,S⟩:=ie (vY (T s.data));obtain⟨Z,Q⟩:=ie (yL (T s.data));rw[S,Q];have d:=qd S;have E:=qd Q;go_enter func203,ntmps203
 go_wp2
 go_loopw [4,5] (λv i wr=>∃(k:Nat) (xs:uk),1<=k/\k<=s.size/\i=I J k/\Hid (QAt (T s.data) k xs)/\A xs<k/\ue wr (w.1.size+1) 5 1 v (A xs) (xs.map λc=>I .u8 (c.toNat:Int))/\Below (w.1.size+1) (w.alloc (Al #[I J 0,I J 0,I J 0,Y ⟨#[]⟩] 154)) wr)
  (λ_ i _=>s.size - (intOf i).toNat)
 exact⟨1,[],ux,uq,rfl,qd (QAt.start _),ur,dw _ _ _ _,uy⟩;obtain⟨k,xs,t,hk,rfl,hq,mI,o,q⟩:=hrel;have R:w.1.size+1<=wr.1.size:=by have:=q.size;simpa using this
 have UR:=vhq o;have N8:Below (w.alloc (Al #[I J 0,I J 0,I J 0,Y ⟨#[]⟩] 154)).1.size (w.alloc (Al #[I J 0,I J 0,I J 0,Y ⟨#[]⟩] 154)) wr:=by simpa using q
 obtain⟨x,OJ⟩:=qi N8
 by_cases A1:k<s.size
 .cases hc:(s[k]==39) with
  | false=>
   have F:Hid (QAt (T s.data) (k+1) (xs++[s[k]])):=qd (hq.one t uq (by grind[qF]));have aF:((s[k].toNat:Int)==39)=uh:=by rwa[vg3]
   go_wp2_with(at_builtin;refine wpList_append_own _ rfl _ _ 65 rfl (w.1.size+1) 5 N (I .u8 0) 1 1 underlying65 P U B9 X rfl uu _ _ _ rfl (o.alloc _) ⟨wr.1.size,0,O⟩ 1 1 [I .u8 (s[k].toNat:Int)] rfl rfl ?c1 ?c2 ?c3 ?c4 ?c5 ?_)
   case c1=>
    intro j u f
    match j,f with
    | 0,f=>simp at f;subst f;simp[Addr.add]
   case c2=>intro u m;simp at m;subst m;rfl
   case c3=>unfold maxLen;omega
   case c4=>omega
   case c5=>simp;omega
   intro v' w1 B L _;have M:=qul q R o _ L;have y:ue w1 (w.1.size+1) 5 1 v' (A (xs++[s[k]])) ((xs++[s[k]]).map λc=>I .u8 (c.toNat:Int)):=by simpa using B
   go_wp2
   go_roundw
   case rel=>exact⟨k+1,xs++[s[k]],uq,uq,by go_num,F,ut,y,M⟩
   simp[intOf];omega
  | true=>
   have aF:((s[k].toNat:Int)==39)=ui:=by rwa[vg3]
   have H:s.data.toList[k]'uq=39:=by grind[qF]
   by_cases h2:k+1<s.size
   .cases hd:(s[k+1]==39) with
    | true=>
     have F:Hid (QAt (T s.data) (k+2) (xs++[39])):=qd (hq.two t uq H (by grind[qF]));have ZN:((s[k+1].toNat:Int) != 39)=uh:=by rw[qvd,hd];rfl
     have OM:(s[k+1].toNat:Int)=39:=by grind
     have he:((k:Int)+1==(s.size:Int))=uh:=by grind
     go_wp2_with(at_builtin;refine wpList_append_own _ rfl _ _ 65 rfl (w.1.size+1) 5 N (I .u8 0) 1 1 underlying65 P U B9 X rfl uu _ _ _ rfl (o.alloc _) ⟨wr.1.size,0,O⟩ 1 1 [I .u8 39] rfl rfl ?c1 ?c2 ?c3 ?c4 ?c5 ?_)
     case c1=>
      intro j u f
      match j,f with
      | 0,f=>simp at f;subst f;simp[Addr.add]
     case c2=>intro u m;simp at m;subst m;rfl
     case c3=>unfold maxLen;omega
     case c4=>omega
     case c5=>simp;omega
     intro v' w1 B L _;have M:=qul q R o _ L;have y:ue w1 (w.1.size+1) 5 1 v' (A (xs++[(39:UInt8)])) ((xs++[(39:UInt8)]).map λc=>I .u8 (c.toNat:Int)):=by simpa using B
     go_wp2
     go_roundw
     case rel=>exact⟨k+2,xs++[39],uq,uq,by go_num,F,ut,y,M⟩
     simp[intOf];omega
    | false=>
     have g:Hid (vu (s.data.toList.drop 1)=G (xs,k)):=qd (hq.close t uq H (λ_=>by grind[qF]));have ZN:((s[k+1].toNat:Int) != 39)=ui:=by rw[qvd,hd];rfl
     have he:((k:Int)+1==(s.size:Int))=uh:=by grind
     go_wp2
     refine bo (by simp[go_sem,x];rfl) rfl ⟨?_, ?_⟩
     all_goals go_light
     .exact gD (by rw[<-q9 d,(gq (q9 g)).1]) (by rw[<-q9 d,(gq (q9 g)).1]) (by rw[<-q9 d,(gq (q9 g)).1]) (by rw[<-q9 E,(gq (q9 g)).2];go_num)
     grind[vh,Below.setCell]
   have g:Hid (vu (s.data.toList.drop 1)=G (xs,k)):=qd (hq.close t uq H (λh=>absurd h uq))
   go_wp2
   refine bo (by simp[go_sem,x];rfl) rfl ⟨?_, ?_⟩
   all_goals go_light
   .exact gD (by rw[<-q9 d,(gq (q9 g)).1]) (by rw[<-q9 d,(gq (q9 g)).1]) (by rw[<-q9 d,(gq (q9 g)).1]) (by rw[<-q9 E,(gq (q9 g)).2];go_num)
   grind[vh,Below.setCell]
 have r:Hid (vu (s.data.toList.drop 1)=O):=qd (hq.over uq)
 go_wp2
 refine bo (by simp[go_sem,x];rfl) rfl ⟨?_, ?_⟩
 all_goals go_light
 exact gD (by rw[<-q9 d,(qfs (q9 r)).1];rfl) (by rw[<-q9 d,(qfs (q9 r)).1];rfl) (by rw[<-q9 d,(qfs (q9 r)).1];rfl) (by rw[<-q9 E,(qfs (q9 r)).2,hl])
 grind[vh,Below.setCell]
def vk(l:List UInt8):Tk:=match l with
 | []=>qk 1
 | c::_=>if km c then jk l else if jx c then yj l else if c==39 then vY l else qk (yd l)
def xN(l:List UInt8):Nat:=match l with
 | []=>1
 | c::_=>if km c then qE l else if jx c then qD jx l else if c==39 then yL l else ko l
theorem vic(s:uj)(h:0<s.size):
  vk (T s.data)=(if km s[0] then jk (T s.data) else if jx s[0] then yj (T s.data) else if s[0]==39 then vY (T s.data) else qk (yd (T s.data))) /\
  xN (T s.data)=(if km s[0] then qE (T s.data) else if jx s[0] then qD jx (T s.data) else if s[0]==39 then yL (T s.data) else ko (T s.data)):=by
 have e:=cm (l:=T s.data) (i:=0) (by grind[qy]);rw[ee,qF s 0 h]at e;constructor
 .conv=>lhs;rw[e]
  rw[e];rfl
 conv=>lhs;rw[e]
 rw[e];rfl
theorem vay(s:uj)(q:0<s.size)(r:s.size<=140737488355328)(w:Ao)(A:ErrOk w):
  lz 165 #[Y s] w (Aj #[tkV (vk (T s.data)) 0,I J (xN (T s.data))]):=by
 obtain⟨g,f⟩:=vic s q;have y:s.size<=maxLen:=by unfold maxLen;omega
 have B:Hid (∀o,ErrOk (w.alloc o)):=qd λo=>A.alloc o
 cases d:km s[0] with
 | true=>
  rw[d,bs rfl]at g f;rw[g,f];have m:=qd d;go_enter func165,ntmps165
  go_wp2_with(first|(go_at_call 199;refine be (j4 _ _) ?_;rintro w' rfl;rw[show qd0 (s[0].toNat:Int)=ui from q9 m])|(refine be (vn8 _ r _) λw' d=>?_;obtain⟨i,t⟩:=qi d;have u:=d.size;simp only[tkV]))
  refine bo (by simp[go_sem,i];rfl) rfl ⟨?_, ?_⟩
  all_goals go_light
  rfl
  grind[vh,Below.setCell]
 | false=>
  rw[d,ak ur]at g f;have m:=qd d
  cases hd:jx s[0] with
  | true=>
   rw[hd,bs rfl]at g f;rw[g,f];have j:=qd hd;go_enter func165,ntmps165
   go_wp2_with(first|(go_at_call 199;refine be (j4 _ _) ?_;rintro w' rfl;rw[show qd0 (s[0].toNat:Int)=uh from q9 m])|(go_at_call 201;refine be (zA _ _) ?_;rintro w' rfl;rw[show qdc (s[0].toNat:Int)=ui from q9 j])|(refine be (qx7 _ q r j _ (B _)) λw' d=>?_;obtain⟨i,t⟩:=qi d;have u:=d.size;simp only[tkV]))
   refine bo (by simp[go_sem,i];rfl) rfl ⟨?_, ?_⟩
   all_goals go_light
   rfl
   grind[vh,Below.setCell]
  | false=>
   rw[hd,ak ur]at g f;have j:=qd hd
   cases hq:(s[0]==39) with
   | true=>
    rw[hq,bs rfl]at g f;rw[g,f];have x:((s[0].toNat:Int)==39)=ui:=by rwa[vg3]
    go_enter func165,ntmps165
    go_wp2_with(first|(go_at_call 199;refine be (j4 _ _) ?_;rintro w' rfl;rw[show qd0 (s[0].toNat:Int)=uh from q9 m])|(go_at_call 201;refine be (zA _ _) ?_;rintro w' rfl;rw[show qdc (s[0].toNat:Int)=uh from q9 j])|(refine be (qxi _ q r _) λw' d=>?_;obtain⟨i,t⟩:=qi d;have u:=d.size;simp only[tkV]))
    refine bo (by simp[go_sem,i];rfl) rfl ⟨?_, ?_⟩
    all_goals go_light
    rfl
    grind[vh,Below.setCell]
   | false=>
    rw[hq,ak ur]at g f;rw[g,f];have x:((s[0].toNat:Int)==39)=uh:=by rwa[vg3]
    go_enter func165,ntmps165
    go_wp2_with(first|(go_at_call 199;refine be (j4 _ _) ?_;rintro w' rfl;rw[show qd0 (s[0].toNat:Int)=uh from q9 m])|(go_at_call 201;refine be (zA _ _) ?_;rintro w' rfl;rw[show qdc (s[0].toNat:Int)=uh from q9 j])|(refine be (vja _ q y _) λw' d=>?_;obtain⟨i,t⟩:=qi d;simp only[tkV]))
    refine bo (by simp[go_sem,i];rfl) rfl ⟨?_, ?_⟩
    all_goals go_light
    rfl
    grind[vh,Below.setCell]
def qS(l:List UInt8)(k:Nat):Nat:=k+qD spU (l.drop k)
def qQ(l:List UInt8)(k:Nat):Tk:=if qS l k<A l then vk (l.drop (qS l k)) else qk 0
def vq(l:List UInt8)(k:Nat):Nat:=if qS l k<A l then qS l k+xN (l.drop (qS l k)) else A l
theorem qn8(l:uk)(k:Nat)(h:k<=A l):qS l k<=A l:=by
 grind[pC,qS]
theorem vc7(l:uk)(h:0<A l):ko l<=A l:=by
 unfold ko;grind
theorem vkg:∀(n:Nat) (l:uk),A l<=n->∀r,vu l=G r->r.2<=A l:=by
 intro n
 induction n with
 | zero =>grind[vu]
 | succ n ih=>
  intro l f r h
  match l,f,h with
  | [],_,h=>simp[vu]at h
  | [c],_,h =>grind[vu]
  | c::d::t,f,h=>
   simp only[vu]at h
   split at h
   split at h
   cases hq:vu t with
   | none=>grind
   | some q =>grind
   grind
   cases hq:vu (d::t) with
   | none=>grind
   | some q =>grind
theorem vkh(l:uk)(h:0<A l):yL l<=A l:=by
 unfold yL;split
 .rename_i r hr
  have:=vkg _ (l.drop 1) ux r hr;rw[dp]at this;omega
 all_goals grind
theorem qmm(l:uk)(h:0<A l):xN l<=A l:=by
 cases l<;>grind[xN,xE,pC,vkh,vc7]
theorem qfh(l:uk)(k:Nat):vq l k<=A l:=by
 grind[vq,qmm]
structure V where
 Q:Int
 M:Int
 str:List UInt8
 deriving DecidableEq
def vV(v:V):Ap:=Ai #[I J v.Q,I J v.M,Y (BS v.str)]
def nV:V:=⟨0,0,[]⟩
def bV(b:Bool):V:=⟨1,if b then 1 else 0,[]⟩
def iV(n:Int):V:=⟨2,n,[]⟩
def tV(s:List UInt8):V:=⟨3,0,s⟩
theorem jC(b:Bool)(w:Ao):
  lz 89 #[Ah b] w (vV (bV b)):=by
 cases b
 all_goals
  go_enter func89,ntmps89
  go_wp2
  refine um ⟨rfl,uy.alloc ux _⟩
theorem kd(n:Int)(w:Ao):
  lz 87 #[I J n] w (vV (iV n)):=by
 go_enter func87,ntmps87
 go_wp2
 refine um ⟨rfl,uy.alloc ux _⟩
theorem qgj(s:uj)(w:Ao):
  lz 88 #[Y s] w (vV (tV (T s.data))):=by
 go_enter func88,ntmps88
 go_wp2
 refine um ⟨rfl,uy.alloc ux _⟩
theorem zn(w:Ao):
  lz 173 #[] w (vV nV):=by
 go_enter func173,ntmps173
 go_wp2
 refine um ⟨rfl,uy.alloc ux _⟩
def jO(x y:V):Bool:=x.Q==2&&y.Q==2
theorem qM(w:Ao)(o d:Obj):Xb w ((w.alloc o).alloc d):=by grind[Below.refl,Below.alloc,World.alloc]
theorem jK(w:Ao)(o d o'':Obj):Xb w (((w.alloc o).alloc d).alloc o''):=(qM w o d).alloc ut o''
theorem yN(x y:V)(w:Ao):
  lz 174 #[vV x,vV y] w (Ah (jO x y)):=by
 unfold jO vV;go_enter func174,ntmps174
 go_wp2
 all_goals
  go_ret;exact⟨vd (by simp_all),qM _ _ _⟩
theorem qg(d:Xb w W)(f:Xb W w'):Xb w w':=d.trans (f.mono d.size)
def yR(x:V):V:=if x.Q==1 then bV (x.M==0) else nV
theorem qvi(x:V)(w:Ao):
  lz 178 #[vV x] w (vV (yR x)):=by
 unfold yR
 cases hk:(x.Q==1) with
 | true=>
  have h:(x.Q != 1)=uh:=by grind
  simp only[vV];go_enter func178,ntmps178
  go_wp2_with(refine be (jC _ _) λw' f=>?_;obtain⟨d,g⟩:=qi f;simp only[vV])
  refine bo (by simp[go_sem,d]<;>rfl) rfl ⟨rfl, ?_⟩
  grind[qg,qM,Below.setCell]
 | false=>
  have h:(x.Q != 1)=ui:=by grind
  simp only[vV];go_enter func178,ntmps178
  go_wp2_with(refine be (zn _) λw' f=>?_;obtain⟨d,g⟩:=qi f;simp only[vV])
  refine bo (by simp[go_sem,d]<;>rfl) rfl ⟨rfl, ?_⟩
  grind[qg,qM,Below.setCell]
theorem qt7(x:V)(w:Ao):
  lz 184 #[vV x] w (vV (bV (x.Q==0))):=by
 simp only[vV];go_enter func184,ntmps184
 go_wp2_with(refine be (jC _ _) λw' f=>?_;obtain⟨d,g⟩:=qi f;simp only[vV])
 refine bo (by simp[go_sem,d]<;>rfl) rfl ⟨rfl, ?_⟩
 grind[qg,qM,Below.setCell]
def eqV(x y:V):V:=if x.Q==0||!(x.Q==y.Q) then nV else bV (decide (x=y))
def kC(x y:V):V:=if jO x y then bV (decide (x.M<y.M)) else nV
def leV(x y:V):V:=if jO x y then bV (decide (x.M<=y.M)) else nV
theorem qvk{F:Nat}(x y:V)(j:F=179/\decide (x.M<y.M)=b\/F=123/\decide (x.M<=y.M)=b)(w:Ao):
  Calls prog F #[vV x,vV y] w λe w'=>e=Ak (vV (if jO x y then bV b else nV))/\Xb w w':=by
 cases hk:jO x y
 all_goals
  have o:=qd hk;clear hk;simp only[if_true,if_false,dk]
  conv=>arg 3;simp only[vV]
  obtain⟨rfl,f⟩|⟨rfl,f⟩:=j
  all_goals
   have q:=qd f;clear f
   first|go_enter func179,ntmps179|go_enter func123,ntmps123
   go_wp2_with(first|(go_at_call 174;refine be (yN x y _) λw1 g=>?_;rw[q9 o];obtain⟨r,u⟩:=qi g;have t:Z w.1+2<Z w1.1:=(by have:=g.size;simp at this;omega))|(go_at_call 89;rw[q9 q];refine be (jC _ _) λw2 d=>?_;obtain⟨i,m⟩:=qi d;simp only[vV])|(go_at_call 173;refine be (zn _) λw2 d=>?_;obtain⟨i,m⟩:=qi d;simp only[vV]))
   refine bo (by simp[go_sem,i,r,t]<;>rfl) rfl ⟨rfl, ?_⟩;exact((((qg (qg (jK _ _ _ _) g) d).setCell ut _).setCell ut _).setCell ut _)
theorem qpo(x y:V)(w:Ao):lz 179 #[vV x,vV y] w (vV (kC x y)):=qvk x y (Am ⟨rfl,rfl⟩) w
theorem xK(x y:V)(w:Ao):lz 123 #[vV x,vV y] w (vV (leV x y)):=qvk x y (An ⟨rfl,rfl⟩) w
theorem qit(x y:V)(w:Ao):(binOp .eql 57 (vV x) (vV y)).run prog w=.ok (Ah (decide (x=y))) w:=by
 obtain⟨k,n,s⟩:=x;obtain⟨g,f,d⟩:=y;simp only[vV,V.mk.injEq]
 by_cases h1:k=g
 .by_cases h2:n=f
  .by_cases h3:s=d
   .subst h1 h2 h3
    simp[go_sem]
   simp[go_sem,h1,h2,h3,qP]
  simp[go_sem,h1,h2]
 simp[go_sem,h1]
theorem qcz(x y:V)(w:Ao):
  Calls prog 176 #[vV x,vV y] w λe w'=>e=Ak (vV (eqV x y))/\Xb w w':=by
 have g:=λw=>qit x y w
 simp only[vV]at g;unfold eqV;generalize decide (x=y)=d at *;have o:∀a b:Int,(a != b)=!(a==b):=λ_ _=>rfl
 cases h0:(x.Q==0)<;>cases h1:(x.Q==y.Q)
 all_goals
  simp only[Bool.true_or,oe,rq,sn,dk,if_true,if_false]
  conv=>arg 3;simp only[vV]
  go_enter func176,ntmps176
  go_wp2_with((first|(go_at_call 89;refine(jC _ _).mono ?_)|(go_at_call 173;refine(zn _).mono ?_));rintro e w'⟨rfl,f⟩;obtain⟨m,j⟩:=qi f;have i:Xb w w':=(by first|exact qg (jK _ _ _ _) f|exact qg (by assumption) f);simp only[vV])
  refine bo (by simp[go_sem, *]<;>rfl) rfl ⟨rfl, ?_⟩;exact(((i.setCell ut _).setCell ut _).setCell ut _)
theorem qvc{t:Tk}{p d:Int}(hp:p=d)(f:z=z'):
  Ak (Aj #[Ai #[I J t.Q,I J p,I J t.M,Y (BS t.str)],I J z])=Ak (Aj #[tkV t d,I J z']):=by
 rw[hp,f];rfl
theorem vjf(s:uj)(hs:s.size<=140737488355328)(f:Nat)(O:f<=s.size)(w:Ao)(G:ErrOk w):
  lz 116 #[Y s,I J f] w (Aj #[tkV (qQ (T s.data) f) (qS (T s.data) f),I J (vq (T s.data) f)]):=by
 have M:=qy s;have H:=qn8 (T s.data) f uq;have S:Hid (∀o,ErrOk (w.alloc o)):=qd λo=>G.alloc o
 clear G;obtain⟨d,j⟩:=ie (qS (T s.data) f);have B:qQ (T s.data) f=if d<A (T s.data) then vk (s.data.toList.drop d) else qk 0:=by rw[<-j];rfl
 have y:vq (T s.data) f=if d<A (T s.data) then d+xN (s.data.toList.drop d) else A (T s.data):=by rw[<-j];rfl
 obtain⟨ua,D⟩:=ie (qQ (T s.data) f);obtain⟨Z,C⟩:=ie (vq (T s.data) f);rw[D]at B;rw[C]at y;rw[j]at H;rw[j,D,C];have U:Hid (d=f+qD spU (s.data.toList.drop f)):=qd (by rw[<-j];rfl);have u:=qd B;have r:=qd y;clear B y D C j;go_enter func116,ntmps116
 go_wp2
 go_loop [6] (λi=>∃k:Nat,f<=k/\k<=s.size/\i=I J k/\Hid (d=qD spU (s.data.toList.drop k)+k)) (λi=>s.size - (intOf i).toNat)
 exact⟨f,ux,O,rfl,qd (by rw[Nat.add_comm];exact q9 U)⟩;obtain⟨k,A5,hk,rfl,q⟩:=hrel
 have more:∀m:k<s.size,spU s[k]=ui->Hid (d=qD spU (s.data.toList.drop (k+1))+(k+1)):=λm g=>qd (by
  have:=vN spU (T s.data) k uq g;rw[q9 q,this];omega)
 have done1:∀m:k<s.size,spU s[k]=uh->d=k:=λm g=>by
  have:=j3 spU (T s.data) k uq g;rw[q9 q,this];omega
 have done2:¬k<s.size->d=k:=λm=>by
  have:=jb spU (T s.data) k uq;rw[q9 q,this];omega
 clear q
 by_cases m:k<s.size
 .cases g:spU s[k] with
  | true=>
   have R:=more m g;have E:=qd g;clear more done1 done2 g
   go_wp2_with(go_at_call 164;refine be (qf3 _ _) ?_;rintro w' rfl;rw[show spB (s[k].toNat:Int)=ui from q9 E])
   go_round
   case rel=>exact⟨k+1,uq,uq,by go_num,R⟩
   simp[intOf];omega
  | false=>
   have j:=done1 m g;have E:=qd g;clear more done1 done2 g;subst j;rw[bs uq]at u r;have F:T (s.extract d s.size).data=s.data.toList.drop d:=Lib.extract_to_end s d;have X:=qmm (s.data.toList.drop d) (by rw[dp];omega);rw[dp,M]at X;have Q:=qd F;clear F
   go_wp2_with(first|(go_at_call 164;refine be (qf3 _ _) ?_;rintro w' rfl;rw[show spB (s[d].toNat:Int)=uh from q9 E])|(go_at_call 165;refine be (vay _ ut ut _ (S _)) λw' x=>?_;obtain⟨P,N⟩:=qi x;have L:w.1.size<w'.1.size:=(by have:=x.size;simp at this;omega);rw[q9 Q];simp only[tkV]))
   refine bo (by simp[go_sem,P,L];rfl) rfl ⟨?_, ?_⟩
   all_goals go_light
   rw[q9 u,q9 r];exact qvc rfl uq;exact(((((vh x).setCell ur _).setCell ur _).setCell ur _).setCell ur _).alloc ut _
 have j:=done2 m;clear more done1 done2;subst j;rw[ak uq]at u r
 go_wp2
 refine um ⟨?_, ?_⟩
 all_goals go_light
 rw[q9 u,q9 r];exact qvc (t:=qk 0) uq uq;exact(uy).alloc ux _
def kD(l:List UInt8):Bool:=decide (0<qE l)&&decide (qE l=A l)&&(yI l==2)
theorem qrv(h:qE l=A l):∀c∈l,c.toNat<128:=by
 grind[qi4]
theorem qwx(s:uj)(j:s.size<=140737488355328)(w:Ao):
  lz 121 #[Y s] w (Ah (kD (T s.data))):=by
 have d:s.size<=maxLen:=by unfold maxLen;omega
 have o:=qy s;have m:kD (T s.data)=(decide (0<qE (T s.data))&&decide (qE (T s.data)=s.size)&&(yI (T s.data)==2)):=by unfold kD;rw[o]
 have q:=λh=>qrv (l:=T s.data) h
 rw[m];generalize hz:qE (T s.data)=z at *;generalize hk:yI (T s.data)=k at *;have f:=qd hz;have r:=qd hk
 by_cases h0:0<z
 .by_cases h1:z=s.size
  .have HA:=qd (q uq)
   have i:((z:Int)==(s.size:Int))=ui:=ew.2 uq;have g:=qd h1;go_enter func121,ntmps121
   go_wp2_with(first|(go_at_call 171;refine be (xX _ d _) ?_;rintro w' rfl;rw[q9 f])|(refine be (pG _ j HA _) λw' t=>?_;rw[q9 r]))
   all_goals(go_ret;exact⟨vd (by have:=q9 g;simp_all),by assumption⟩)
  have i:((z:Int)==(s.size:Int))=uh:=aw.2 uq;have g:=qd h1;go_enter func121,ntmps121
  go_wp2_with(first|(refine be (xX _ d _) ?_;rintro w' rfl;rw[q9 f]))
  go_ret;exact⟨vd (by have:=q9 g;simp[this]),uy⟩
 go_enter func121,ntmps121
 go_wp2_with(first|(refine be (xX _ d _) ?_;rintro w' rfl;rw[q9 f]))
 go_ret;exact⟨vd ut,uy⟩
structure St where
 tk:Tk
 U:Nat
 H:Nat
 op:Nat
structure RdAt(w:Ao)(rb:Nat)(s:ByteArray)(st:St):Prop where
 c0:w.cell? ⟨rb,0,O⟩=G (Y s)
 c1:w.cell? ⟨rb,1,O⟩=G (I J st.tk.Q)
 c2:w.cell? ⟨rb,2,O⟩=G (I J st.U)
 c3:w.cell? ⟨rb,3,O⟩=G (I J st.tk.M)
 c4:w.cell? ⟨rb,4,O⟩=G (Y (BS st.tk.str))
 c5:w.cell? ⟨rb,5,O⟩=G (I J st.H)
 c6:w.cell? ⟨rb,6,O⟩=G (I J st.op)
 fz:∀j,w.frozen? ⟨rb,j,O⟩=uh
structure Kept(rb:Nat)(w w':Ao):Prop where
 os:w'.os=w.os
 tape:w'.tape=w.tape
 output:w'.output=w.output
 size:w.1.size<=w'.1.size
 block:∀k,k<w.1.size->k≠rb->w'.1[k]?=w.1[k]?
theorem Kept.refl(rb:Nat)(w:Ao):Kept rb w w:=by grind[Kept]
theorem Kept.trans{b c:Ao}(h:Kept rb a b)(k:Kept rb b c):Kept rb a c:=by grind[Kept]
theorem Kept.x(h:Xb w w'):Kept rb w w':=⟨h.os,h.tape,h.output,h.size,λk d _=>h.block k d⟩
theorem Kept.drew(h:Kept rb a w):Kept rb a w.drew:=⟨h.os,h.tape,h.output,h.size,h.block⟩
theorem Kept.setCell(h:Kept rb a w)(j:Nat)(u:Ap):Kept rb a (B w (D rb j O) u):=by
 grind[B,Kept]
theorem Kept.alloc(h:Kept rb a w)(o:Obj):Kept rb a (w.alloc o):=
 h.trans (Kept.x (uy.alloc ux o))
theorem RdAt.h{st:St}(h:RdAt w rb s st)(d:Xb w w')(f:rb<Z w.1):RdAt w' rb s st:=by grind[Below.cell,Below.frozen,RdAt]
theorem ErrOk.P(h:ErrOk w)(k:Kept rb w w')(d:3<rb):ErrOk w':=by
 grind[World.cell?_of_block,ErrOk,Kept]
def qh(s:ByteArray)(st:St):St:=⟨qQ (T s.data) st.H,qS (T s.data) st.H,vq (T s.data) st.H,st.op⟩
theorem yY(rb:Nat)(s:uj)(st:St)(w:Ao)(g:s.size<=140737488355328)(h:st.H<=s.size)(d:RdAt w rb s st)(B:rb<Z w.1)(i:ErrOk w):
  uo 79 #[Ag (G (D rb 0 O))] w λe w'=>e=Ak (Aj #[])/\RdAt w' rb s (qh s st)/\Kept rb w w':=by
 have A:=qd d;obtain⟨c0,J,I,H,c4,F,E,fz⟩:=d;go_enter func79,ntmps79
 go_wp2
 go_region_with(go_at_call 116;refine be (vjf s g st.H h _ (by exact i)) λw1 C=>?_;have f:Xb w w1:=((Below.refl (Z w.1) w).drew).trans C;obtain⟨y,x,u,t,r,q,o,m⟩:=(q9 A).h f B;simp only[tkV])
 all_goals(go_wp2)
 all_goals go_end0
 all_goals refine⟨rfl,⟨?_, ?_, ?_, ?_, ?_, ?_, ?_, ?_⟩,(((((Kept.x f).setCell 1 _).setCell 2 _).setCell 3 _).setCell 4 _).setCell 5 _⟩
 all_goals first|(simp[go_sem,qh,y,x,u,t,r,q,o];done)|(intro j;simp[go_sem,m];done)
def vg(en pl:Int):Ending:=.panicked [{ v:=.iface 151 (Ai #[I J en,I J pl]),recovered:=uh }]
theorem qho(r:Ap)(pl:Int)(w:Ao):
  uo 119 #[r,I J pl] w λe w'=>e=vg 2 pl/\w'=w:=by
 go_enter func119,ntmps119
 go_wp2
 exact⟨rfl,rfl,rfl⟩
theorem RdAt.N{st:St}(h:RdAt w rb s st)(o:Obj)(d:rb<Z w.1):RdAt (w.alloc o) rb s st:=
 h.h (uy.alloc ux o) d
theorem jY(d:Kept rb W w1):(∀b o,b<Z W.1->¬b=rb->w1.cell? (D b o O)=W.cell? (D b o O))/\(∀b o,b<Z W.1->¬b=rb->w1.frozen? (D b o O)=W.frozen? (D b o O)):=by grind[World.cell?_of_block,World.frozen?_of_block,Kept]
theorem Kept.later(h:Kept rb a w)(hp:Z a.1<=p.block)(u:Ap):Kept rb a (B w p u):=by
 grind[B,Kept]
theorem RdAt.setOther{st:St}(h:RdAt w rb s st)(hp:¬p.block=rb)(u:Ap):RdAt (B w p u) rb s st:=by
 grind[Below.setCell,B,World.cell?,World.frozen?,Below.trans,RdAt,St]
theorem qki(rb:Nat)(s:uj)(st:St)(k:Int)(w:Ao)(t:s.size<=140737488355328)(x:st.H<=s.size)(g:RdAt w rb s st)(B:rb<Z w.1)(y:ErrOk w)(i:st.tk.Q=k):
  uo 81 #[Ag (G (D rb 0 O)),I J k] w λe w'=>e=Ak (tkV st.tk st.U)/\RdAt w' rb s (qh s st)/\Kept rb w w':=by
 have A:=qd g;obtain⟨c0,N,M,L,c4,H,F,fz⟩:=g;have u:(st.tk.Q != k)=uh:=by rw[i];simp
 have n0:¬Z w.1=rb:=uq;have C:¬Z w.1+1=rb:=uq;clear i;go_enter func81,ntmps81
 go_wp2_with(go_at_call 79;refine be (yY rb s st _ t x (A.h (qM _ _ _) B) ut ((y.alloc _).alloc _)) ?_;rintro w1⟨f,j⟩;obtain⟨d,E⟩:=jY j;have f:=qd f;have r:Xc w1 (Z w.1) 0 (I J 0):=(d _ 0 ut n0).trans ur;have q:Xc w1 (Z w.1) 1 (I J 0):=(d _ 1 ut n0).trans ur;have o:Xc w1 (Z w.1) 2 (I J 0):=(d _ 2 ut n0).trans ur;have m:Xc w1 (Z w.1) 3 (Y ⟨#[]⟩):=(d _ 3 ut n0).trans ur)
 refine bo (by simp[go_sem,r,q,o,m]<;>rfl) rfl ⟨rfl, ?_, ?_⟩;exact(((f.setOther (by simpa using n0) _).setOther (by simpa using n0) _).setOther (by simpa using n0) _).setOther (by simpa using n0) _;exact(((((((Kept.refl rb w).alloc _).alloc _).trans j).later ur _).later ur _).later ur _).later ur _
theorem qt2(rb:Nat)(s:uj)(st:St)(k:Int)(w:Ao)(d:RdAt w rb s st)(o:rb<Z w.1)(f:¬st.tk.Q=k):
  uo 81 #[Ag (G (D rb 0 O)),I J k] w λe w'=>e=vg 2 st.U/\Kept rb w w':=by
 obtain⟨c0,m,j,i,c4,h,g,fz⟩:=d;go_enter func81,ntmps81
 go_wp2_with(refine be (qho _ _ _) ?_;rintro w1 rfl;simp only[vg])
 exact⟨rfl,rfl,((Kept.refl rb w).alloc _).alloc _⟩
theorem RdAt.setOp{st:St}(h:RdAt w rb s st)(n:Nat)(m:Int)(d:m=n):RdAt (B w (D rb 6 O) (I J m)) rb s { st with op:=n }:=by
 cases h;constructor<;>simp_all [go_sem]
theorem size_setCell(w:Ao)(p:Addr)(u:Ap):Z (B w p u).1=Z w.1:=ur
theorem vi0(rb:Nat)(s:uj)(st:St)(w:Ao)(t:s.size<=140737488355328)(u:st.H<=s.size)(g:RdAt w rb s st)(Q:rb<Z w.1)(x:ErrOk w)(y:3<rb)(P:st.op<12):
  uo 208 #[Ag (G (D rb 0 O))] w λe w'=>e=Ak (tkV st.tk st.U)/\RdAt w' rb s { qh s st with op:=st.op+1 }/\Kept rb w w':=by
 have A:=qd (g.setOp (st.op+1) ((st.op:Int)+1) uq);have i:=qd ((Kept.refl rb w).setCell 6 (I J ((st.op:Int)+1)));have B:=qd (x.P i y);obtain⟨c0,N,M,L,c4,H,F,fz⟩:=g;have n0:¬Z w.1=rb:=uq;have C:¬Z w.1+1=rb:=uq;go_enter func208,ntmps208
 go_wp2_with fail
 refine be (yY rb s { st with op:=st.op+1 } _ t u (A.h (qM _ _ _) (by rwa[size_setCell])) ut ((B.alloc _).alloc _)) ?_;rintro w1⟨f,j⟩;obtain⟨d,E⟩:=jY j;have f:=qd f;have r:w1.cell? ⟨Z w.1,0,O⟩=G (I J 0):=(d _ 0 ut n0).trans (by rw[bj _ _ _ ur,ce _ _ _ _ ur];rfl);have q:w1.cell? ⟨Z w.1,1,O⟩=G (I J 0):=(d _ 1 ut n0).trans (by rw[bj _ _ _ ur,ce _ _ _ _ ur];rfl);have o:w1.cell? ⟨Z w.1,2,O⟩=G (I J 0):=(d _ 2 ut n0).trans (by rw[bj _ _ _ ur,ce _ _ _ _ ur];rfl);have m:w1.cell? ⟨Z w.1,3,O⟩=G (Y ⟨#[]⟩):=(d _ 3 ut n0).trans (by rw[bj _ _ _ ur,ce _ _ _ _ ur];rfl)
 go_wp2
 refine bo (by simp[go_sem,r,q,o,m]<;>rfl) rfl ⟨rfl, ?_, ?_⟩;exact(((f.setOther (by simpa using n0) _).setOther (by simpa using n0) _).setOther (by simpa using n0) _).setOther (by simpa using n0) _;exact(((((((i.alloc _).alloc _).trans j).later ur _).later ur _).later ur _).later ur _)
theorem vhz(rb:Nat)(s:uj)(st:St)(w:Ao)(d:RdAt w rb s st)(o:rb<Z w.1)(m:st.op=12):
  uo 208 #[Ag (G (D rb 0 O))] w λe w'=>e=vg 3 st.U/\Kept rb w w':=by
 obtain⟨c0,j,i,h,c4,g,f,fz⟩:=d;go_enter func208,ntmps208
 go_wp2
 exact⟨rfl,rfl,((Kept.refl rb w).alloc _).alloc _⟩
theorem vmp(rb:Nat)(s:uj)(st:St)(k:Int)(w:Ao)(g:s.size<=140737488355328)(h:st.H<=s.size)(f:RdAt w rb s st)(o:rb<Z w.1)(i:ErrOk w)(q:st.tk.Q=k):
  uo 250 #[Ag (G (D rb 0 O)),I J k] w λe w'=>e=Ak (Ah ui)/\RdAt w' rb s (qh s st)/\Kept rb w w':=by
 have j:=qd f;obtain⟨c0,y,x,u,c4,t,r,fz⟩:=f;go_enter func250,ntmps250
 go_wp2_with(refine be (yY rb s st _ g h j o i) ?_;rintro w1⟨d,m⟩;have d:=qd d)
 go_ret;exact⟨rfl,q9 d,m⟩
theorem vsz(rb:Nat)(s:uj)(st:St)(k:Int)(w:Ao)(d:RdAt w rb s st)(f:¬st.tk.Q=k):
  uo 250 #[Ag (G (D rb 0 O)),I J k] w λe w'=>e=Ak (Ah uh)/\w'=w:=by
 obtain⟨c0,m,j,i,c4,h,g,fz⟩:=d;go_enter func250,ntmps250
 go_wp2
 go_ret;exact⟨rfl,rfl⟩
def KsAt(w:Ao)(b:Nat)(ks:List Int):Prop:=∀(j:Nat) (k:Int),ks[j]?=G k->w.cell? (D b j O)=G (I J k)
def vbd(ks:List Int)(x:Int)(j:Nat):Int:=match ks with
 | []=>-1
 | k::t=>if x==k then j else vbd t x (j+1)
theorem vbe{x k:Int}{j:Nat}(h:ks[j]?=G k):vbd (ks.drop j) x j=if x==k then(j:Int) else vbd (ks.drop (j+1)) x (j+1):=by
 obtain⟨d,f⟩:=aj.1 h;rw[cm d,f];rfl
theorem vqu(ks:List Int)(x:Int):∀j:Nat,decide (0<=vbd ks x j)=ks.contains x:=by
 induction ks<;>grind[vbd]
theorem qwr(b cap:Nat)(ks:List Int)(x:Int)(w:Ao)(q:A ks<=8)(m:KsAt w b ks):
  uo 205 #[C (G (D b 0 O)) (A ks) cap,I J x] w λe w'=>e=Ak (I J (vbd ks x 0))/\w'=w:=by
 obtain⟨R,g⟩:=ie (vbd ks x 0);rw[g];have o:=qd g;go_enter func205,ntmps205
 go_wp2
 go_loop [5,8] (λ_ i=>∃j:Nat,j<=A ks/\i=I J j/\Hid (R=vbd (ks.drop j) x j)) (λ_ i=>A ks - (intOf i).toNat)
 exact⟨0,bt _,rfl,qd (by rw[ee,q9 o])⟩;obtain⟨j,r,rfl,f⟩:=hrel
 by_cases A1:j<A ks
 .obtain⟨k,hp⟩:∃k,ks[j]?=G k:=⟨_,ag A1⟩
  have t:=m j k hp;have hd:=vbe (x:=x) hp
  cases hx:(x==k) with
  | true=>
   rw[hx,bs rfl]at hd;have d:Hid (R=j):=qd (by rw[q9 f,hd])
   go_wp2
   go_ret;exact⟨js (by rw[q9 d]),rfl⟩
  | false=>
   rw[hx,ak ur]at hd;have d:Hid (R=vbd (ks.drop (j+1)) x (j+1)):=qd (by rw[q9 f,hd])
   go_wp2
   go_round
   case rel=>exact⟨j+1,uq,by go_num,d⟩
   simp[intOf];omega
 have d:Hid (R=-1):=qd (by rw[q9 f,eo uq];rfl)
 go_wp2
 go_ret;exact⟨js (by rw[q9 d]),rfl⟩
theorem qil(b cap:Nat)(ks:List Int)(x:Int)(w:Ao)(f:A ks<=8)(g:KsAt w b ks):
  uo 166 #[C (G (D b 0 O)) (A ks) cap,I J x] w λe w'=>e=Ak (Ah (ks.contains x))/\w'=w:=by
 have d:=qd (vqu ks x 0);go_enter func166,ntmps166
 go_wp2_with(refine be (qwr _ _ _ _ _ f g) ?_;rintro w' rfl;generalize vbd ks x 0=r at d)
 all_goals(go_ret;exact⟨vd (by rw[<-q9 d]),rfl⟩)
def qgs(k:Int):Int:=
 if k==5 then 6 else if k==6 then 7 else if k==16 then 8 else if k==17 then 9 else if k==18 then 10 else if k==19 then 11
 else if k==20 then 12 else if k==21 then 13 else if k==22 then 16 else if k==23 then 17 else if k==24 then 18 else 19
theorem qda(k:Int)(w:Ao):
  uo 206 #[I J k] w λe w'=>e=Ak (I J (qgs k))/\w'=w:=by
 go_enter func206,ntmps206
 go_wp2
 all_goals(go_ret;refine⟨js ?_,rfl⟩;go_light;simp only[qgs, *,if_true,dk,if_false])
structure Pay where
 op:Int
 U:Int
 M:Int
 str:List UInt8
 esc:List UInt8
 i:List (List UInt8)
inductive Ast where
 | leaf (p:Pay)
 | un (p:Pay) (x:Ast)
 | bin (p:Pay) (x y:Ast)
 | tri (p:Pay) (x y z:Ast)
def TextsAt(lo:Nat)(w:Ao)(v:Ap)(ts:List (List UInt8)):Prop:=
 (ts=[]/\v=C O 0 0)\/∃g cap,v=C (G (D g 0 O)) (A ts) cap/\lo<g/\g<Z w.1/\∀(j:Nat) (t:List UInt8),ts[j]?=G t->w.cell? (D g j O)=G (Y (BS t))
structure NodeAt(lo:Nat)(w:Ao)(b:Nat)(p:Pay)(sides:Ap):Prop where
 above:lo<b
 within:b<w.1.size
 c0:w.cell? ⟨b,0,O⟩=G (I J p.op)
 c1:w.cell? ⟨b,1,O⟩=G (I J p.U)
 c2:w.cell? ⟨b,2,O⟩=G sides
 c3:w.cell? ⟨b,3,O⟩=G (I J p.M)
 c4:w.cell? ⟨b,4,O⟩=G (Y (BS p.str))
 c5:w.cell? ⟨b,5,O⟩=G (Y (BS p.esc))
 c6:∃tv,w.cell? ⟨b,6,O⟩=G tv/\TextsAt lo w tv p.i
def IsNode(lo:Nat)(w:Ao):Ap->Ast->Prop
 | v,.leaf p=>∃b,v=Ag (G (D b 0 O))/\NodeAt lo w b p (C O 0 0)
 | v,.un p x=>∃b g v1,v=Ag (G (D b 0 O))/\NodeAt lo w b p (C (G (D g 0 O)) 1 1)/\lo<g/\g<Z w.1/\w.cell? (D g 0 O)=G v1/\IsNode lo w v1 x
 | v,.bin p x y=>∃b g v1 v2,v=Ag (G (D b 0 O))/\NodeAt lo w b p (C (G (D g 0 O)) 2 2)/\lo<g/\g<Z w.1/\w.cell? (D g 0 O)=G v1/\w.cell? (D g 1 O)=G v2/\IsNode lo w v1 x/\IsNode lo w v2 y
 | v,.tri p x y z=>∃b g v1 v2 v3,v=Ag (G (D b 0 O))/\NodeAt lo w b p (C (G (D g 0 O)) 3 3)/\lo<g/\g<Z w.1/\w.cell? (D g 0 O)=G v1/\w.cell? (D g 1 O)=G v2/\w.cell? (D g 2 O)=G v3/\IsNode lo w v1 x/\IsNode lo w v2 y/\IsNode lo w v3 z
theorem TextsAt.P(d:Kept lo w w'){ts:List uk}(h:TextsAt lo w v ts):TextsAt lo w' v ts:=by
 grind[jY,TextsAt,Kept]
theorem NodeAt.P(d:Kept lo w w'){b:Nat}{p:Pay}{sides:Ap}(h:NodeAt lo w b p sides):NodeAt lo w' b p sides:=by
 grind[jY,TextsAt.P,NodeAt,Kept]
theorem IsNode.P(d:Kept lo w w'):∀{t:Ast} {v:Ap},IsNode lo w v t->IsNode lo w' v t:=by
 have f:=λg j (i:lo<g) (h2:g<Z w.1)=>(jY d).1 g j h2 uq
 intro t
 induction t<;>grind[NodeAt.P,IsNode,Kept]
inductive Res where
 | ok (t:Ast) (st:St)
 | err (en pl:Int)
structure Fine(s:ByteArray)(st:St):Prop where
 U:st.U<=s.size
 H:st.H<=s.size
 long:st.tk.Q≠0->st.U<st.H
def Gives(rb:Nat)(s:ByteArray)(w:Ao)(op lo:Nat)(r:Res)(e:Ending)(w':Ao):Prop:=
 Kept rb w w'/\match r with
 | .ok t st=>∃v,e=Ak v/\IsNode rb w' v t/\RdAt w' rb s st/\Fine s st/\st.op=op/\lo<=st.U
 | .err en pl=>e=vg en pl
structure Ready(rb:Nat)(s:ByteArray)(w:Ao)(st:St):Prop where
 at':RdAt w rb s st
 lt:rb<w.1.size
 err:ErrOk w
 glob:3<rb
 y:Fine s st
 size:s.size<=140737488355328
def xm(K:Nat)(rb:Nat)(s:ByteArray)(op:Nat)(f:St->Res):Prop:=
 ∀(w:Ao) (st:St),Ready rb s w st->st.op=op->Calls prog K #[Ag (G (D rb 0 O))] w (Gives rb s w op st.U (f st))
theorem Ready.P{st d:St}(h:Ready rb s w st)(f:Kept rb w w')(g:RdAt w' rb s d)(i:Fine s d):Ready rb s w' d:=
 ⟨g,au h.lt f.size,h.err.P f h.glob,h.glob,i,h.size⟩
theorem qst{p:UInt8->Bool}{t:uk}(h:p c=ui):0<qD p (c::t):=by simp[qD,h]
theorem qcc(l:uk)(h:0<A l):0<xN l:=by
 cases l with
 | nil=>simp at h
 | cons c t=>
  simp only[xN]
  split
  grind[qE]
  split
  grind[qst]
  split
  grind[yL]
  unfold ko;split
  omega;omega
  split<;>omega
theorem qH(s:uj)(st:St)(h:st.H<=s.size):Fine s (qh s st):=by
 have g:=qn8 (T s.data) st.H (by grind[qy]);have f:=qfh (T s.data) st.H;refine⟨g,f,λd=>?_⟩;show qS (T s.data) st.H<vq (T s.data) st.H;unfold vq
 by_cases hl:qS (T s.data) st.H<A (T s.data)
 grind[qcc]
 exfalso;apply d;show(qQ (T s.data) st.H).Q=0;unfold qQ;rw[ak hl];rfl
theorem zN(s:uj)(st:St):st.H<=(qh s st).U:=by
 show st.H<=qS (T s.data) st.H;unfold qS;omega
def vq1(st:St)(l r:Ast):Ast:=.bin ⟨qgs st.tk.Q,st.U,0,[],[],[]⟩ l r
def jX(s:ByteArray)(f:St->Res)(st:St)(l:Ast):Res:=match f (qh s st) with
 | .ok r st'=>.ok (vq1 st l r) st'
 | .err en pl=>.err en pl
theorem pN{f:St->Res}{st:St}{l r:Ast}{d:St}(h:f (qh s st)=.ok r d):jX s f st l=.ok (vq1 st l r) d:=by simp_all [jX]
theorem gg{f:St->Res}{st:St}{l:Ast}(h:f (qh s st)=.err en pl):jX s f st l=.err en pl:=by simp_all [jX]
theorem vw8{Q:Prop}(h:Q)(_:wpAny prog .any #[] (λ_ _ _=>True) 0 #[] ⟨#[],[]⟩ w):Q:=h
theorem vfa(s:uj)(st:St):(qh s st).op=st.op:=rfl
theorem Ready.stepped{st:St}(h:Ready rb s w st)(d:Kept rb w w1)(f:RdAt w1 rb s (qh s st)):Ready rb s w1.drew (qh s st):=
 h.P d.drew (f.h ((Below.refl (Z w1.1) w1).drew) (au h.lt d.size)) (qH s st h.y.H)
theorem IsNode.ptr{t:Ast}(h:IsNode rb w v t):∃b,v=Ag (G (D b 0 O)):=by
 cases t<;>grind[IsNode]
theorem IsNode.two{l r:Ast}{lv rv:Ap}(g:IsNode rb w lv l)(f:IsNode rb w rv r)(i:rb<Z w.1)(op place:Int):
  IsNode rb ((w.alloc (Al #[lv,rv] 91)).alloc (Al #[I J op,I J place,C (G ⟨Z w.1,0,O⟩) 2 2,I J 0,Y ⟨#[]⟩,Y ⟨#[]⟩,C O 0 0] 163))
   (Ag (G ⟨Z w.1+1,0,O⟩)) (.bin ⟨op,place,0,[],[],[]⟩ l r):=by
 have d:Kept rb w ((w.alloc (Al #[lv,rv] 91)).alloc (Al #[I J op,I J place,C (G ⟨Z w.1,0,O⟩) 2 2,I J 0,Y ⟨#[]⟩,Y ⟨#[]⟩,C O 0 0] 163)):=((Kept.refl rb w).alloc _).alloc _;refine⟨Z w.1+1,Z w.1,lv,rv,rfl,⟨uq,ur,ur,ur,ur,ur,by simp[BS],by simp[BS],C O 0 0,ur,Am ⟨rfl,rfl⟩⟩,i,ut, ?_, ?_,g.P d,f.P d⟩
 all_goals grind[World.alloc,World.cell?_alloc_past,World.cell?_alloc_at]
theorem qhg(Q:K=118\/K=168\/K=249\/K=286\/K=226)(rb:Nat)(s:uj)(op:Nat)(f:St->Res)(P:xm K rb s op f)(st:St)(l:Ast)(lv:Ap)(w:Ao)(h:Ready rb s w st)(B:st.op=op)(A:IsNode rb w lv l):
  uo 167 #[Ag (G (D rb 0 O)),lv,.func (.func K) #[Ag (G (D rb 0 O))] #[]] w (Gives rb s w op st.H (jX s f st l)):=by
 have N:=h.at';have E:=h.lt;have H:=qd h;obtain⟨c0,c1,c2,c3,c4,c5,Y,fz⟩:=N;have C:=qd P;obtain⟨lb,rfl⟩:=A.ptr;have T:=qd A;have n0:¬Z w.1=rb:=uq;obtain rfl|rfl|rfl|rfl|rfl:=Q
 all_goals
  cases D4:f (qh s st) with
  | ok r st'=>
   rw[pN D4];have t:=qd D4;go_enter func167,ntmps167
   go_wp2_with(refine be (yY rb s st _ H.size H.y.H (H.at'.N _ E) ut (H.err.alloc _)) ?_;rintro w1⟨i,g⟩;have i:=qd i;have q:Z w.1<Z w1.1:=(by have:=g.size;simp at this;omega);have y:Xc w1 (Z w.1) 0 (I J st.tk.Q):=((jY g).1 _ 0 ur n0).trans ur;have x:Xc w1 (Z w.1) 1 (I J st.U):=((jY g).1 _ 1 ur n0).trans ur;have j:=qd (((Kept.refl rb w).alloc _).trans g))
   go_region_held3 (λw'=>Xc w' (Z w.1) 0 (I J st.tk.Q)/\Xc w' (Z w.1) 1 (I J st.U)) (go_keep) (first|(go_at_call 206;refine be (qda _ _) ?_;rintro w' rfl)|((first|go_at_call 118|go_at_call 168|go_at_call 249|go_at_call 286|go_at_call 226);refine(C _ (qh s st) (H.stepped j i) B).mono ?_;rintro e w2⟨d,m⟩;rw[q9 t]at m;obtain⟨X,rfl,o,u,F,R,S⟩:=m;obtain⟨U,rfl⟩:=o.ptr;have M:Xc w2 (Z w.1) 0 (I J st.tk.Q):=((jY d).1 _ 0 q n0).trans y;have L:Xc w2 (Z w.1) 1 (I J st.U):=((jY d).1 _ 1 q n0).trans x;have D8:Z w.1<Z w2.1:=au q d.size;have d:=qd d;have o:=qd o;have u:=qd u))
   all_goals(go_wp2)
   all_goals go_ret
   refine⟨?_,_,rfl, ?_, ?_,F,R,bu (zN s st) S⟩;exact(((j.trans ((Kept.refl rb w1).drew.trans d)).alloc _).alloc _);have:=IsNode.two (op:=qgs st.tk.Q) (place:=st.U) (T.P (j.trans ((Kept.refl rb w1).drew.trans d))) o uq;exact this;exact((u.N _ uq).N _ ut)
  | err en pl=>
   rw[gg D4];have t:=qd D4;go_enter func167,ntmps167
   go_wp2_with(refine be (yY rb s st _ H.size H.y.H (H.at'.N _ E) ut (H.err.alloc _)) ?_;rintro w1⟨i,g⟩;have i:=qd i;have q:Z w.1<Z w1.1:=(by have:=g.size;simp at this;omega);have y:Xc w1 (Z w.1) 0 (I J st.tk.Q):=((jY g).1 _ 0 ur n0).trans ur;have x:Xc w1 (Z w.1) 1 (I J st.U):=((jY g).1 _ 1 ur n0).trans ur;have j:=qd (((Kept.refl rb w).alloc _).trans g))
   go_region_with(first|(go_at_call 206;refine be (qda _ _) ?_;rintro w' rfl)|((first|go_at_call 118|go_at_call 168|go_at_call 249|go_at_call 286|go_at_call 226);refine(C _ (qh s st) (H.stepped j i) B).mono ?_;rintro e w2⟨d,m⟩;rw[q9 t]at m;subst m;refine vw8 (w:=w2) ⟨rfl,j.trans ((Kept.refl rb w1).drew.trans d),rfl⟩ ?_))
   all_goals trivial
def ju(s:ByteArray)(f:St->Res)(ks:List Int):Nat->Ast->St->Res
 | 0,l,st=>.ok l st
 | n+1,l,st=>if ks.contains st.tk.Q then(match jX s f st l with
   | .ok l' st'=>ju s f ks n l' st'
   | .err en pl=>.err en pl) else .ok l st
def zj(s:ByteArray)(f:St->Res)(ks:List Int)(st:St):Res:=match f st with
 | .ok l st'=>ju s f ks (s.size+1) l st'
 | .err en pl=>.err en pl
theorem pw{f:St->Res}{l:Ast}{st:St}(h:ks.contains st.tk.Q=uh):ju s f ks (n+1) l st=.ok l st:=by
 simp_all [ju]
theorem pu{f:St->Res}{l l':Ast}{st d:St}(h:ks.contains st.tk.Q=ui)(g:jX s f st l=.ok l' d):ju s f ks (n+1) l st=ju s f ks n l' d:=by
 simp_all [ju]
theorem qam{f:St->Res}{l:Ast}{st:St}(h:ks.contains st.tk.Q=ui)(d:jX s f st l=.err en pl):ju s f ks (n+1) l st=.err en pl:=by
 simp_all [ju]
theorem qg1{f:St->Res}{st d:St}{l:Ast}(h:f st=.ok l d):zj s f ks st=ju s f ks (s.size+1) l d:=by unfold zj;rw[h]
theorem qcp{f:St->Res}{st:St}(h:f st=.err en pl):zj s f ks st=.err en pl:=by unfold zj;rw[h]
def vwb(w:Ao)(rb:Nat):Nat:=match w.cell? (D rb 2 O) with
 | some (I _ n)=>n.toNat
 | _=>0
theorem qjp{st:St}(h:RdAt w rb s st):vwb w rb=st.U:=by
 grind[vwb,RdAt]
theorem KsAt.P{b:Nat}(h:KsAt w b ks)(f:Kept rb w w')(i:b<Z w.1)(d:¬b=rb):KsAt w' b ks:=
 λj k g=>((jY f).1 b j i d).trans (h j k g)
theorem qkb(hK:K=118\/K=168\/K=249\/K=286)(rb r cap:Nat)(s:uj)(op:Nat)(f:St->Res)(hf:xm K rb s op f)(ks:List Int)(YO:A ks<=8)(h0:ks.contains 0=uh)(st:St)(w:Ao)(h:Ready rb s w st)(I4:st.op=op)(ho:KsAt w r ks)(NN:r<Z w.1)(I:¬r=rb):
  uo 117 #[Ag (G (D rb 0 O)),.func (.func K) #[Ag (G (D rb 0 O))] #[],C (G (D r 0 O)) (A ks) cap] w (Gives rb s w op st.U (zj s f ks st)):=by
 have H:=qd h;have JK:=qd (qhg (show K=118\/K=168\/K=249\/K=286\/K=226 by omega) rb s op f hf);have HF:=qd hf;have HO:=qd ho;have A1:=h.lt;obtain rfl|rfl|rfl|rfl:=hK
 all_goals
  cases D4:f st with
  | err en pl=>
   rw[qcp D4];have N:=qd D4;go_enter func117,ntmps117
   go_wp2_with((first|go_at_call 118|go_at_call 168|go_at_call 249|go_at_call 286);refine(HF _ st H I4).mono ?_;rintro e w1⟨q,u⟩;rw[q9 N]at u;subst u;simp only[vg])
   exact⟨rfl,q,rfl⟩
  | ok l0 st0=>
   rw[qg1 D4];have N:=qd D4;obtain⟨R,j⟩:=ie (ju s f ks (s.size+1) l0 st0);rw[j];have HR:=qd j;go_enter func117,ntmps117
   go_wp2_with((first|go_at_call 118|go_at_call 168|go_at_call 249|go_at_call 286);refine(HF _ st H I4).mono ?_;rintro e w1⟨q,u⟩;rw[q9 N]at u;obtain⟨v1,rfl,L,Y,X,V6,U8⟩:=u;have L:=qd L;have Y:=qd Y;have q:=qd q;have X:=qd X)
   go_loopw [7] (λv wr=>∃(n:Nat) (l:Ast) (d:St),Hid (R=ju s f ks n l d)/\s.size<n+d.U/\IsNode rb wr v l/\Hid (Ready rb s wr d)/\d.op=op/\st.U<=d.U/\Kept rb w wr) (λv wr=>s.size+1 - vwb wr rb)
   exact⟨s.size+1,l0,st0,qd HR.symm,uq,q9 L,qd (H.P q Y X),V6,U8,q9 q⟩;obtain⟨n,l,d,j,hn,A8,g,F,J5,hk⟩:=hrel;have P:=(q9 g).y;have hf1':=P.U;obtain⟨lb,rfl⟩:=A8.ptr;obtain⟨m,rfl⟩:∃m,n=m+1:=⟨n - 1,uq⟩;have i:=qd (HO.P hk NN I);have M:=qd A8;have T:=qd hk;have iE:=(q9 g).lt;have S:=qd (qjp g.at');obtain⟨c0,c1,c2,c3,c4,c5,c6,fz⟩:=(q9 g).at';have CON:=λw=>qil r cap ks d.tk.Q w YO
   cases hc:ks.contains d.tk.Q with
   | false=>
    have x:Hid (R=.ok l d):=qd (by rw[q9 j,pw hc]);rw[hc]at CON;have E:=qd CON
    go_wp2_with(refine be (E _ i) ?_;rintro w' rfl)
    go_ret;rw[q9 x];exact⟨q9 T,_,rfl,q9 M,g.at',P,F,J5⟩
   | true=>
    rw[hc]at CON;have E:=qd CON;have Z9:d.tk.Q≠0:=λh=>by rw[h,h0]at hc;cases hc
    have J:=P.long Z9
    cases hj:jX s f d l with
    | err en pl=>
     have x:Hid (R=.err en pl):=qd (by rw[q9 j,qam hc hj]);have U:=qd hj
     go_wp2_with(first|(go_at_call 166;refine be (E _ i) ?_;rintro w' rfl)|(refine(JK d l _ _ g F M).mono ?_;rintro e w2⟨o,t⟩;rw[q9 U]at t;subst t;simp only[vg]))
     rw[q9 x];exact⟨rfl,T.trans o,rfl⟩
    | ok l2 N0=>
     have x:Hid (R=ju s f ks m l2 N0):=qd (by rw[q9 j,pu hc hj]);have U:=qd hj
     go_wp2_with(first|(go_at_call 166;refine be (E _ i) ?_;rintro w' rfl)|(refine(JK d l _ _ g F M).mono ?_;rintro e w2⟨o,t⟩;rw[q9 U]at t;obtain⟨v2,rfl,Q,B,y,U3,M7⟩:=t;have IX:=qd (qjp B);have B:=qd B;have Q:=qd Q;have o:=qd o;have y:=qd y))
     have A3:=(q9 y).U
     go_roundw
     exact⟨m,l2,N0,x,uq,q9 Q,qd (g.P o B y),U3,uq,T.trans o⟩;rw[q9 S,q9 IX];omega
theorem Ready.N{st:St}(h:Ready rb s w st)(o:Obj):Ready rb s (w.alloc o) st:=
 h.P ((Kept.refl rb w).alloc o) (h.at'.N o h.lt) h.y
theorem Gives.from{r:Res}(d:Kept rb w w1)(h:Gives rb s w1 op lo r e w'):Gives rb s w op lo r e w':=⟨d.trans h.1,h.2⟩
theorem Gives.cases{r:Res}(h:Gives rb s w op lo r e w'):(∃v,e=Ak v/\Gives rb s w op lo r (Ak v) w')\/(∃en pl,e=vg en pl/\Gives rb s w op lo r (vg en pl) w'):=by
 cases r<;>grind[Gives]
theorem qme(rb:Nat)(s:uj)(op:Nat)(f:St->Res)(i:xm 118 rb s op f):xm 80 rb s op (zj s f [6]):=by
 intro w st h m;have H:=qd h;have o:=qd i;have q:=h.lt;go_enter func80,ntmps80
 go_wp2_with fail
 refine(qkb uu rb (Z w.1) 1 s op f o [6] uu uu st _ (H.N _) m ?ks ur uq).mono ?_
 case ks=>
  intro j k g
  match j,g with
  | 0,g=>simp at g;subst g;simp
 rintro e w' d;obtain⟨v,rfl,d⟩|⟨en,pl,rfl,d⟩:=d.cases
 .have HG:=qd (d.from ((Kept.refl rb w).alloc _))
  go_wp2
  go_ret;exact q9 HG
 exact⟨rfl,d.from ((Kept.refl rb w).alloc _)⟩
theorem qvy(rb:Nat)(s:uj)(op:Nat)(f:St->Res)(i:xm 168 rb s op f):xm 118 rb s op (zj s f [5]):=by
 intro w st h m;have H:=qd h;have o:=qd i;have q:=h.lt;go_enter func118,ntmps118
 go_wp2_with fail
 refine(qkb uu rb (Z w.1) 1 s op f o [5] uu uu st _ (H.N _) m ?ks ur uq).mono ?_
 case ks=>
  intro j k g
  match j,g with
  | 0,g=>simp at g;subst g;simp
 rintro e w' d;obtain⟨v,rfl,d⟩|⟨en,pl,rfl,d⟩:=d.cases
 .have HG:=qd (d.from ((Kept.refl rb w).alloc _))
  go_wp2
  go_ret;exact q9 HG
 exact⟨rfl,d.from ((Kept.refl rb w).alloc _)⟩
theorem vfj(rb:Nat)(s:uj)(op:Nat)(f:St->Res)(i:xm 249 rb s op f):xm 226 rb s op (zj s f [22,23]):=by
 intro w st h m;have H:=qd h;have o:=qd i;have q:=h.lt;go_enter func226,ntmps226
 go_wp2_with fail
 refine(qkb uu rb (Z w.1) 2 s op f o [22,23] uu uu st _ (H.N _) m ?ks ur uq).mono ?_
 case ks=>
  intro j k d
  match j,d with
  | 0,d=>simp at d;subst d;simp
  | 1,d=>simp at d;subst d;simp
 rintro e w' g;obtain⟨v,rfl,g⟩|⟨en,pl,rfl,g⟩:=g.cases
 .have HG:=qd (g.from ((Kept.refl rb w).alloc _))
  go_wp2
  go_ret;exact q9 HG
 exact⟨rfl,g.from ((Kept.refl rb w).alloc _)⟩
theorem qjs(rb:Nat)(s:uj)(op:Nat)(f:St->Res)(i:xm 286 rb s op f):xm 249 rb s op (zj s f [24,25]):=by
 intro w st h m;have H:=qd h;have o:=qd i;have q:=h.lt;go_enter func249,ntmps249
 go_wp2_with fail
 refine(qkb uu rb (Z w.1) 2 s op f o [24,25] uu uu st _ (H.N _) m ?ks ur uq).mono ?_
 case ks=>
  intro j k d
  match j,d with
  | 0,d=>simp at d;subst d;simp
  | 1,d=>simp at d;subst d;simp
 rintro e w' g;obtain⟨v,rfl,g⟩|⟨en,pl,rfl,g⟩:=g.cases
 .have HG:=qd (g.from ((Kept.refl rb w).alloc _))
  go_wp2
  go_ret;exact q9 HG
 exact⟨rfl,g.from ((Kept.refl rb w).alloc _)⟩
end Go.Proofs.YtmepkbgodcffoaaGreatDoor
