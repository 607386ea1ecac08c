/- the small functions of -/
import Derived.Test.YtfkcaldjphakpaaGreatDoorProg
import Derived.WalkKit
import Derived.WalkSpells
import Derived.WalkLawsBesides
import Derived.Lib.Strings
import Derived.Deep.Light
import Derived.Lib.IndexBytes
import Derived.Test.YtfkcaldjphakpaaGreatDoorShelf
import Derived.Lib.ParseIntB
import Derived.Lib.AtoiErrMem
set_option maxHeartbeats 4000000
set_option maxRecDepth 100000
namespace Go.Proofs.YtfkcaldjphakpaaGreatDoor
open Go.RowKit Go.Proofs.Tryz
theorem mw{p:Prop}(h:p:=by omega):p:=h
theorem mx{p:Prop}(h:p:=by simp):p:=h
theorem my{p:Prop}(h:p:=by simp;omega):p:=h
theorem nh{p:Prop}(h:p:=by decide):p:=h
theorem nj{p:Prop}(h:p:=by simp<;>omega):p:=h
theorem nl{p:Prop}(h:p:=by kernel_rfl):p:=h
theorem nt{n:Nat}:n<=n:=Nat.le_refl n
theorem nw{n:Nat}{w:World}:Below n w w:=Below.refl n w
abbrev ad:=@Nat.le_refl
abbrev ae:=@beq_eq_false_iff_ne
abbrev ag:=@List.getElem?_eq_getElem
abbrev aj:=@if_neg
abbrev aq:=@List.getD_eq_getElem?_getD
abbrev ak:=@bodyPost_ret
abbrev au:=@List.getElem?_eq_some_iff
abbrev aw:=@World.cell?_of_block
abbrev bg:=@Nat.lt_of_lt_of_le
abbrev bh:=@if_pos
abbrev bi:=@List.append_assoc
abbrev bj:=@Nat.zero_le
abbrev bo:=@Below.heap_setCell
abbrev bs:=@Nat.le_trans
abbrev bt:=@World.cell?_alloc_past
abbrev bu:=@List.length_append
abbrev bw:=@List.getElem?_append_left
abbrev cd:=@World.cell?_alloc_at
abbrev ce:=@List.drop_eq_getElem_cons
abbrev cf:=@World.frozen?_of_block
abbrev cg:=@Array.getElem?_eq_some_iff
abbrev ch:=@List.mem_of_getElem?
abbrev cj:=@List.getElem?_append_right
abbrev cm:=@List.cons_append
abbrev cn:=@Bool.and_eq_true
abbrev cp:=@List.mem_singleton
abbrev cq:=@List.eq_nil_of_length_eq_zero
abbrev cr:=@List.mem_append
abbrev cu:=@Bool.false_eq_true
abbrev cw:=@decide_eq_false
abbrev da:=@List.length_singleton
abbrev db:=@List.drop_zero
abbrev dc:=@List.length_drop
abbrev dd:=@List.getElem?_map
abbrev de:=@decide_eq_true
abbrev dg:=@beq_iff_eq
abbrev dh:=@List.length_take
abbrev di:=@List.drop_of_length_le
abbrev dj:=@Nat.lt_succ_self
abbrev dk:=@Bool.or_eq_true
abbrev dn:=@List.take_add_one
abbrev dp:=@List.mem_cons_self
abbrev dq:=@List.mem_cons_of_mem
abbrev dr:=@Go.below_drewN
abbrev dt:=@List.map_append
abbrev du:=@decide_eq_true_eq
abbrev dw:=@List.flatMap_cons
abbrev dy:=@List.getElem?_of_mem
abbrev ed:=@World.ownsRow_nil
abbrev ee:=@Nat.zero_add
abbrev eg:=@List.mem_cons
abbrev eh:=@List.length_cons
abbrev ei:=@Lib.toList_data
abbrev ej:=@List.nil_append
abbrev eo:=@List.length_nil
abbrev ep:=@List.length_map
abbrev eu:=@List.getElem_mem
abbrev ew:=@List.append_nil
abbrev ez:=@List.take_of_length_le
abbrev fa:=@Bool.or_eq_false_iff
abbrev fe:=@List.map_cons
abbrev ff:=@List.mem_range
abbrev fg:=@World.cell?_drew
abbrev fh:=@List.length_range
abbrev fj:=@Bool.and_false
abbrev fk:=@List.take_length
abbrev fl:=@List.not_mem_nil
abbrev fm:=@Bool.true_and
abbrev fo:=@List.mem_append_left
abbrev fq:=@Bool.eq_iff_iff
abbrev fu:=@UInt8.toNat_ofNat'
abbrev fv:=@World.frozen?_alloc_past
abbrev fw:=@List.mem_map
abbrev gs:=@Bool.or_false
abbrev ig:=@Bool.and_true
abbrev ii:=@World.block_lt_of_cell?
abbrev ij:=@List.flatMap_append
abbrev ik:=@List.drop_succ_cons
abbrev im:=@World.frozen?_alloc_at
abbrev io:=@Bool.false_or
abbrev ip:=@beq_self_eq_true
abbrev iq:=@Below.heap_alloc
abbrev ir:=@Array.getElem?_modify
abbrev it:=@Option.map_some
abbrev iu:=@Nat.sub_self
abbrev iw:=@Nat.mul_le_mul_right
abbrev ix:=@Bool.eq_false_iff
abbrev iy:=@Bool.and_or_distrib_left
abbrev iz:=@List.getElem!_eq_getElem?_getD
abbrev ld:=@Bool.false_and
abbrev lh:=@World.size_setCell
abbrev li:=@List.mem_append_right
abbrev lj:=@List.length_replicate
abbrev ll:=@Bool.and_eq_false_iff
abbrev ln:=@Nat.mul_le_mul
abbrev lp:=@Int.tdiv_eq_ediv_of_nonneg
abbrev lq:=@Lib.extract_data
abbrev ls:=@List.mem_of_find?_eq_some
abbrev lu:=@List.getElem?_zip_eq_some
abbrev lw:=@Nat.mul_le_mul_left
abbrev lz:=@List.getElem?_take_of_lt
abbrev ma:=@Bool.not_true
abbrev mc:=@UInt8.toNat_inj
abbrev md:=@UInt8.lt_irrefl
abbrev me:=@Nat.min_eq_left
abbrev mf:=@List.mem_filter
abbrev mg:=@List.foldl_cons
abbrev mh:=@List.getElem?_drop
abbrev mi:=@List.contains_cons
abbrev mj:=@Nat.add_sub_cancel_left
abbrev ml:=@List.findIdx?_eq_some_iff_getElem
abbrev mn:=@Bool.true_or
abbrev mq:=@Bool.not_false
abbrev mr:=@Bool.not_eq_true'
abbrev ms:=@List.getElem?_eq_none
abbrev mt:=@List.contains_iff_mem
attribute[go_sem]results results61 results100 results144 results195 results193 results194 results191 results250 results74 results73 results110 results199 results56 results41 results122 results220 results81 results77 results223 results178 results176 results177 results221 results123 results125 results124 results344 results175 results295 results343 results132 results256 results258 results257 results182 results179 results222 results127 results224 results229 results213 results228 results218 results219 results227 results217 results159 results106 results64 results162 results155 results62 results163 results107 results158 results109 results161 results157 results154 results160 results63 results152
theorem nx{P:Program}{e:Func}{R:Ending->World->Prop}{a:Act}{w:World}{v:Value}(k:R (.returned v) w)(h:(results e a.tmps).run P w=.ok v w:=by simp[go_sem]<;>rfl)(d:a.defers=[]:=by rfl):bodyPost P e R .ret a w:=bodyPost_ret h d k
abbrev nz:=Calls prog
abbrev mu:=ByteArray
abbrev mv:=List UInt8
abbrev Xb(w w':World):=Below w.heap.size w w'
abbrev Xc(w:World)(b i:Nat)(v:Value):=w.cell? ⟨b,i,none⟩=some v
abbrev Xf(w:World)(b:Nat):=∀j,w.frozen? ⟨b,j,none⟩=false
attribute[simp,go_sem]Xc Xf
variable{b:Bool}{s:mu}{k z z':Int}{c:UInt8}{W w w':World}
section
theorem qd{p:Prop}(h:p):Hid p:=h
theorem q9{p:Prop}(h:Hid p):p:=h
theorem qj{a:World}(e:Xb W a):(∀b o,b<W.heap.size->a.cell? ⟨b,o,none⟩=W.cell? ⟨b,o,none⟩)/\(∀b o,b<W.heap.size->a.frozen? ⟨b,o,none⟩=W.frozen? ⟨b,o,none⟩):=
 ⟨λb o h=>e.cell (p:=⟨b,o,none⟩) h,λb o h=>e.frozen (p:=⟨b,o,none⟩) h⟩
theorem qV{o:Obj}(a:Below (w.alloc o).heap.size (w.alloc o) w'):Xb w w':=
 (nw.alloc nt _).trans (a.mono mx)
def ErrOk(w:World):Prop:=3<w.heap.size/\∃ev,w.cell? ⟨3,0,none⟩=some ev/\(ev=.nilIface\/∃te pe,ev=.iface te pe)
theorem ErrOk.below{B:Nat}(h:ErrOk w)(a:Below B w w')(f:w.heap.size<=B):ErrOk w':=by
 obtain⟨e,ev,i,g⟩:=h;refine⟨bg e a.size,ev, ?_,g⟩;rw[a.cell (p:=⟨3,0,none⟩) (bg e f)];exact i
theorem ErrOk.alloc(h:ErrOk w)(o:Obj):ErrOk (w.alloc o):=
 h.below ((Below.refl w.heap.size w).alloc nt o) nt
def spB(c:Int):Bool:=c==32||c==9||c==10
def qah(c:Int):Bool:=decide (48<=c)&&decide (c<=57)
def qa9(c:Int):Bool:=decide (65<=c)&&decide (c<=90)||decide (97<=c)&&decide (c<=122)||c==95||c==36
def vag(c:Int):Bool:=qa9 c||qah c||c==46
theorem qR{a:Bool}(h:a=true↔b=true):Ending.returned (.bool a)=.returned (.bool b):=by
 rw[fq.2 h]
theorem qbn(c:Int)(w:World):
  nz 143 #[.int .u8 c] w λe w'=>e=.returned (.bool (spB c))/\w'=w:=by
 unfold spB;go_enter func143,ntmps143
 go_wp2
 all_goals(go_ret;exact⟨qR nj,rfl⟩)
theorem jL(c:Int)(w:World):
  nz 192 #[.int .u8 c] w λe w'=>e=.returned (.bool (qah c))/\w'=w:=by
 unfold qah;go_enter func192,ntmps192
 go_wp2
 all_goals(go_ret;exact⟨qR nj,rfl⟩)
theorem vJ(c:Int)(w:World):
  nz 190 #[.int .u8 c] w λe w'=>e=.returned (.bool (qa9 c))/\w'=w:=by
 unfold qa9;go_enter func190,ntmps190
 go_wp2
 all_goals(go_ret;exact⟨qR nj,rfl⟩)
theorem kZ(c:Int)(w:World):
  nz 201 #[.int .u8 c] w λe w'=>e=.returned (.bool (vag c))/\w'=w:=by
 unfold vag;go_enter func201,ntmps201
 go_wp2_with(first|(go_at_call 190;refine(vJ _ _).mono ?_;rintro e w'⟨rfl,rfl⟩)|(go_at_call 192;refine(jL _ _).mono ?_;rintro e w'⟨rfl,rfl⟩))
 all_goals(go_ret;exact⟨qR (by simp_all),rfl⟩)
end
section
def qw(p:UInt8->Bool):List UInt8->Nat
 | []=>0
 | c::t=>if p c then qw p t+1 else 0
def yZ(c:UInt8):Bool:=vag (c.toNat:Int)
def yd(c:UInt8):Bool:=qa9 (c.toNat:Int)
def jc(c:UInt8):Bool:=qah (c.toNat:Int)
def spU(c:UInt8):Bool:=spB (c.toNat:Int)
theorem kC(p:UInt8->Bool)(l:mv):qw p l<=l.length:=by
 induction l with
 | nil=>simp[qw]
 | cons c t ih=>simp only[qw];split<;>simp<;>omega
theorem vr(p:UInt8->Bool)(l:mv)(k:Nat)(h:k<l.length)(a:p (l[k])=true):
  qw p (l.drop k)=qw p (l.drop (k+1))+1:=by
 rw[ce h];simp[qw,a]
theorem vH(p:UInt8->Bool)(l:mv)(k:Nat)(h:k<l.length)(a:p (l[k])=false):
  qw p (l.drop k)=0:=by
 rw[ce h];simp[qw,a]
theorem vN(p:UInt8->Bool)(l:mv)(k:Nat)(h:l.length<=k):qw p (l.drop k)=0:=by
 rw[di h];rfl
def qx:List UInt8->Nat
 | []=>0
 | c::t=>if yd c then qw yZ t+1 else 0
theorem qr(s:mu):s.data.toList.length=s.size:=by simp only[Array.length_toList];rfl
theorem qy(s:mu)(k:Nat)(h:k<s.size):s.data.toList[k]'(by rw[qr];exact h)=s[k]:=rfl
theorem pD(h:0<s.size):s.toList.isEmpty=false:=by
 have a:=qr s;rw[ei]
 cases he:s.data.toList with
 | nil=>rw[he]at a;simp at a;omega
 | cons c t=>rfl
theorem qxx(h:¬0<s.size):s.toList.isEmpty=true:=by
 have a:=qr s;rw[ei,cq (show s.data.toList.length=0 by omega)];rfl
theorem j7{k:IntKind}{a b:Int}(h:a=b):Ending.returned (.int k a)=.returned (.int k b):=by rw[h]
theorem qfz(s:mu)(h:0<s.size):qx s.data.toList=if yd s[0] then qw yZ (s.data.toList.drop 1)+1 else 0:=by
 have e:=ce (l:=s.data.toList) (i:=0) (by rw[qr];exact h);rw[db,qy s 0 h]at e;rw[e];rfl
theorem xf(s:mu)(n:s.size<=maxLen)(w:World):
  nz 150 #[.string s] w λe w'=>e=.returned (.int .i64 (qx s.data.toList))/\w'=w:=by
 unfold maxLen at n;have q:=qr s
 by_cases h0:0<s.size
 ·have o:s.toList.isEmpty=false:=pD h0
  have a:=qfz s h0
  cases hb:yd s[0] with
  | false=>
   rw[hb,aj mx]at a;have H:=qd a;have m:=qd hb;clear a hb;go_enter func150,ntmps150
   go_wp2_with(go_at_call 190;refine(vJ _ _).mono ?_;rintro e w'⟨rfl,rfl⟩;rw[show qa9 (s[0].toNat:Int)=false from q9 m])
   go_ret;exact⟨j7 (by rw[q9 H];rfl),rfl⟩
  | true=>
   rw[hb,bh rfl]at a;have H:=qd a;have m:=qd hb;clear a hb;go_enter func150,ntmps150
   go_wp2_with(go_at_call 190;refine(vJ _ _).mono ?_;rintro e w'⟨rfl,rfl⟩;rw[show qa9 (s[0].toNat:Int)=true from q9 m])
   go_loop [3] (λi=>∃k:Nat,1<=k/\k<=s.size/\i=.int .i64 k/\Hid (qw yZ (s.data.toList.drop 1)+1=qw yZ (s.data.toList.drop k)+k)) (λi=>s.size - (intOf i).toNat)
   case atStart=>exact⟨1,nt,mw,rfl,qd rfl⟩
   case round=>
    obtain⟨k,u,r,rfl,g⟩:=hrel
    by_cases A0:k<s.size
    ·cases hg:yZ s[k] with
     | true=>
      have f:=vr yZ s.data.toList k mw hg;have j:Hid (qw yZ (s.data.toList.drop 1)+1=qw yZ (s.data.toList.drop (k+1))+(k+1)):=qd (by rw[q9 g,f];omega);have l:=qd hg;clear f hg g
      go_wp2_with(go_at_call 201;refine(kZ _ _).mono ?_;rintro e w'⟨rfl,rfl⟩;rw[show vag (s[k].toNat:Int)=true from q9 l])
      go_round
      case rel=>exact⟨k+1,mw,mw,by go_num,j⟩
      case measure=>simp[intOf];omega
     | false=>
      have f:=vH yZ s.data.toList k mw hg;have j:Hid (qw yZ (s.data.toList.drop 1)+1=k):=qd (by rw[q9 g,f];omega);have l:=qd hg;clear f hg g
      go_wp2_with(go_at_call 201;refine(kZ _ _).mono ?_;rintro e w'⟨rfl,rfl⟩;rw[show vag (s[k].toNat:Int)=false from q9 l])
      go_ret;exact⟨j7 (by rw[q9 H,q9 j]),rfl⟩
    ·have f:=vN yZ s.data.toList k mw
     have j:Hid (qw yZ (s.data.toList.drop 1)+1=k):=qd (by rw[q9 g,f];omega);clear f g
     go_wp2_with fail
     go_ret;exact⟨j7 (by rw[q9 H,q9 j]),rfl⟩
 ·have a:qx s.data.toList=0:=by rw[cq (show s.data.toList.length=0 by omega)];rfl
  have t:s.toList.isEmpty=true:=qxx h0;have H:=qd a;clear a;go_enter func150,ntmps150
  go_wp2_with fail
  go_ret;exact⟨j7 (by rw[q9 H];rfl),rfl⟩
end
section
def BS(l:List UInt8):ByteArray:=⟨l.toArray⟩
theorem xg(l:mv):(BS l).data.toList=l:=rfl
theorem vex(s:mu):BS s.data.toList=s:=rfl
theorem qM(l:mv):(BS l).toList=l:=by rw[ei];rfl
theorem qG(l:mv):(BS l).size=l.length:=rfl
def qep(l:List UInt8):Int:=
 if l==[61] then 16 else if l==[60] then 18 else if l==[60,61] then 19 else if l==[62] then 20 else if l==[62,61] then 21
 else if l==[43] then 22 else if l==[45] then 23 else if l==[42] then 24 else if l==[47] then 25 else if l==[40] then 26
 else if l==[41] then 27 else if l==[44] then 28 else 1
theorem qab(s:mu)(w:World):
  nz 240 #[.string s] w λe w'=>e=.returned (.int .i64 (qep s.data.toList))/\w'=w:=by
 go_enter func240,ntmps240
 go_wp2_with fail
 all_goals(go_ret;refine⟨j7 ?_,rfl⟩;simp only[ei]at *;simp only[qep, *,if_true,cu,if_false])
structure Tk where
 kind:Int
 num:Int
 str:List UInt8
def tkV(t:Tk)(place:Int):Value:=.agg #[.int .i64 t.kind,.int .i64 place,.int .i64 t.num,.string (BS t.str)]
def qh(k:Int):Tk:=⟨k,0,[]⟩
def yf(l:List UInt8):Nat:=
 match l with
 | []=>1
 | [_]=>1
 | a::b::_=>if a==60&&b==62||(a==60||a==62)&&b==61 then 2 else 1
def xm(l:List UInt8):Int:=if l.take 2==[60,62] then 17 else qep (l.take (yf l))
theorem yA(c d:UInt8):((c.toNat:Int)==(d.toNat:Int))=(c==d):=by
 rw[fq];simp[←mc];omega
theorem qy4(c:UInt8):((c.toNat:Int)==39)=(c==39):=yA c 39
theorem vmk(c:UInt8):((c.toNat:Int)==60)=(c==60):=yA c 60
theorem vml(c:UInt8):((c.toNat:Int)==61)=(c==61):=yA c 61
theorem vmm(c:UInt8):((c.toNat:Int)==62)=(c==62):=yA c 62
theorem qxy{a:Int}(f:k=a)(e:z=z'):
  Ending.returned (.tuple #[.agg #[.int .i64 k,.int .i64 0,.int .i64 0,.string ⟨#[]⟩],.int .i64 z])=.returned (.tuple #[tkV (qh a) 0,.int .i64 z']):=by
 rw[f,e];rfl
theorem vbi(s:mu)(h:s.size=1):s.data.toList=[s[0]]:=by
 have a:=qr s;have e:=ce (l:=s.data.toList) (i:=0) mw;rw[db,qy s 0 mw,di mw]at e;exact e
theorem vay(s:mu)(i:0<s.size)(g:s.size<=maxLen)(w:World):
  nz 195 #[.string s] w λe w'=>e=.returned (.tuple #[tkV (qh (xm s.data.toList)) 0,.int .i64 (yf s.data.toList)])/\Xb w w':=by
 unfold maxLen at g
 by_cases h1:1<s.size
 ·obtain⟨t,a⟩:=Lib.two_bytes s h1
  have f:=qd a;clear a;go_enter func195,ntmps195
  go_wp2_with(go_at_call 240;refine(qab _ _).mono ?_;rintro e w'⟨rfl,rfl⟩)
  all_goals
   refine nx ⟨?_, ?_⟩
   case refine_2=>exact(nw).alloc nt _
  all_goals(go_light;rw[q9 f];simp only[vmk,vml,vmm]at *;refine qxy ?_ ?_<;>simp_all [xm,yf])
 ·have a:=vbi s mw
  have f:=qd a;clear a;go_enter func195,ntmps195
  go_wp2_with(go_at_call 240;refine(qab _ _).mono ?_;rintro e w'⟨rfl,rfl⟩)
  all_goals
   refine nx ⟨?_, ?_⟩
   case refine_2=>exact(nw).alloc nt _
  all_goals(go_light;rw[q9 f];refine qxy ?_ ?_<;>simp[xm,yf])
end
section
def kwK(l:List UInt8):Int:=
 if l==[65,78,68] then 5 else if l==[79,82] then 6 else if l==[78,79,84] then 7 else if l==[84,82,85,69] then 8
 else if l==[70,65,76,83,69] then 9 else if l==[66,69,84,87,69,69,78] then 10 else if l==[73,78] then 11
 else if l==[76,73,75,69] then 12 else if l==[69,83,67,65,80,69] then 13 else if l==[73,83] then 14
 else if l==[78,85,76,76] then 15 else 2
def xI(l:List UInt8):Int:=kwK (Lib.toUpperA l)
theorem vfb{l:mv}(h:∀c∈l,c.toNat<128):∀(j:Nat) (b:UInt8),l[j]?=some b->b.toNat<128:=
 λ_ _ a=>h _ (ch a)
theorem kI(s:mu)(g:s.size<=140737488355328)(f:∀c∈s.data.toList,c.toNat<128)(w:World):
  nz 151 #[.string s] w λe w'=>e=.returned (.int .i64 (xI s.data.toList))/\Xb w w':=by
 have i:=qd (vfb f);clear f;unfold xI;obtain⟨u,a⟩:∃u,Lib.toUpperA s.data.toList=u:=⟨_,rfl⟩;rw[a];have h:=qd a;clear a;go_enter func151,ntmps151
 go_wp2_with(go_at_call 202;refine(Tryz.strings_ToUpper_ascii _ _ g i).mono ?_;rintro e w'⟨rfl,j⟩;rw[q9 h])
 all_goals(go_ret;refine⟨j7 ?_,by assumption⟩;go_light;simp only[kwK, *,if_true,cu,if_false])
theorem qu1(h:yZ c=true):c.toNat<128:=by
 simp[yZ,vag,qa9,qah]at h;omega
theorem qsp(h:yd c=true):c.toNat<128:=by
 simp[yd,qa9]at h;omega
theorem qdl(p:UInt8->Bool)(l:mv):∀c∈l.take (qw p l),p c=true:=by
 induction l with
 | nil=>simp[qw]
 | cons d t ih=>
  intro c a
  by_cases hd:p d=true
  ·simp only[qw,hd,if_true,List.take_succ_cons,eg]at a
   rcases a with rfl|a
   ·exact hd
   ·exact ih c a
  ·simp[qw,hd]at a
theorem zF(l:mv):qx l<=l.length:=by
 cases l with
 | nil=>simp[qx]
 | cons c t=>have:=kC yZ t;simp only[qx];split<;>simp<;>omega
theorem qdu(l:mv):∀c∈l.take (qx l),c.toNat<128:=by
 cases l with
 | nil=>simp
 | cons d t=>
  intro c a
  by_cases hd:yd d=true
  ·simp only[qx,hd,if_true,List.take_succ_cons,eg]at a
   rcases a with rfl|a
   ·exact qsp hd
   ·exact qu1 (qdl yZ t c a)
  ·simp[qx,hd]at a
def vU(l:List UInt8):Tk:=if xI (l.take (qx l))=2 then⟨2,0,l.take (qx l)⟩ else qh (xI (l.take (qx l)))
theorem yS{w:Tk}{n:Int}{b:mu}(g:k=w.kind)(f:n=w.num)(e:b=BS w.str)(a:z=z'):
  Ending.returned (.tuple #[.agg #[.int .i64 k,.int .i64 0,.int .i64 n,.string b],.int .i64 z])=.returned (.tuple #[tkV w 0,.int .i64 z']):=by
 rw[g,f,e,a];rfl
theorem qt9(s:mu)(w:World)(a:s.size<=281474976710656):
  nz 39 #[.string s] w λe w'=>e=.returned (.string s)/\Xb w w':=by
 go_enter func39,ntmps39
 go_wp2_with(go_at_call 66;refine(Tryz.stringslite_Clone s _ a).mono ?_;rintro e g⟨rfl,f⟩)
 go_ret;exact⟨rfl,f⟩
theorem vdk(s:mu)(G:s.size<=140737488355328)(w:World):
  nz 191 #[.string s] w λe w'=>e=.returned (.tuple #[tkV (vU s.data.toList) 0,.int .i64 (qx s.data.toList)])/\Xb w w':=by
 have B:=zF s.data.toList;rw[qr]at B;have t:(s.extract 0 (qx s.data.toList)).data.toList=s.data.toList.take (qx s.data.toList):=by rw[lq];simp
 have y:s.size<=maxLen:=by unfold maxLen;omega
 have x:=qd (qdu s.data.toList);obtain⟨z,g⟩:∃z,qx s.data.toList=z:=⟨_,rfl⟩;have m:Hid (vU s.data.toList=if xI (s.data.toList.take z)=2 then⟨2,0,s.data.toList.take z⟩ else qh (xI (s.data.toList.take z))):=by rw[←g];exact qd rfl
 rw[g]at B t x ⊢;have n:=qd t;have C:=qd g;clear t g;obtain⟨k,A⟩:∃k,xI (s.data.toList.take z)=k:=⟨_,rfl⟩;have f:=qd A;clear A
 by_cases h2:k=2
 ·have h2'':(k != 2)=false:=by simp[h2]
  have l:=qd h2;clear h2;go_enter func191,ntmps191
  go_wp2_with(first|(go_at_call 150;refine(xf _ y _).mono ?_;rintro e w'⟨rfl,rfl⟩;rw[q9 C])|(go_at_call 151;refine(kI _ my (by rw[q9 n];exact q9 x) _).mono ?_;rintro e w'⟨rfl,a⟩;obtain⟨q,u⟩:=qj a;have g:=a.size;rw[q9 n,q9 f])|(go_at_call 39;refine(qt9 _ _ my).mono ?_;rintro e r⟨rfl,o⟩;have D:w.heap.size<w'.heap.size:=(by simp at g;omega);have H:w.heap.size<r.heap.size:=(by have:=o.size;omega);have c0:∀i,r.cell? ⟨w.heap.size,i,none⟩=(#[.int .i64 0,.int .i64 0,.int .i64 0,.string ⟨#[]⟩]:Array Value)[i]?:=(λi=>((qj o).1 _ i D).trans ((q _ i mx).trans mx));have F:Xf r w.heap.size:=(λj=>((qj o).2 _ j D).trans ((u _ j mx).trans mx));have E:=qd (a.trans (o.mono a.size));clear a o q u g))
  refine ak (by simp[go_sem,c0];rfl) rfl ⟨?_, ?_⟩
  all_goals go_light
  ·exact yS (by rw[q9 m,q9 f,bh (q9 l)]) (by rw[q9 m,q9 f,bh (q9 l)]) (by rw[q9 m,q9 f,bh (q9 l),←q9 n];rfl) rfl
  ·exact((((qV E).setCell mx _).setCell mx _).setCell mx _).setCell mx _
 ·have h2'':(k != 2)=true:=by simp[h2]
  have l:=qd h2;clear h2;go_enter func191,ntmps191
  go_wp2_with(first|(go_at_call 150;refine(xf _ y _).mono ?_;rintro e w'⟨rfl,rfl⟩;rw[q9 C])|(go_at_call 151;refine(kI _ my (by rw[q9 n];exact q9 x) _).mono ?_;rintro e w'⟨rfl,a⟩;obtain⟨q,u⟩:=qj a;have g:=a.size;rw[q9 n,q9 f]))
  refine ak (by simp[go_sem,q];rfl) rfl ⟨?_, ?_⟩
  all_goals go_light
  ·exact yS (by rw[q9 m,q9 f,aj (q9 l)];rfl) (by rw[q9 m,q9 f,aj (q9 l)];rfl) (by rw[q9 m,q9 f,aj (q9 l)];rfl) rfl
  ·exact((((qV a).setCell mx _).setCell mx _).setCell mx _).setCell mx _
end
section
open Go.Lib Go.Proofs.Tryz
def vB(acc:Nat):List UInt8->Nat
 | []=>acc
 | c::r=>vB (acc * 10+(c.toNat - 48)) r
theorem quh(l:mv):∀acc,acc<=vB acc l:=by
 induction l with
 | nil=>intro acc;exact nt
 | cons c r ih=>intro acc;exact bs mw (ih _)
theorem pY(M:Nat)(g:M<18446744073709551616)(f:18446744073709551615<=M)(l:mv):∀acc,acc<=M->(∀c∈l,48<=c.toNat/\c.toNat<=57) ->
  parseUintM M acc l=if vB acc l<=M then .ok (vB acc l) else .range:=by
 induction l with
 | nil=>intro acc h _;rw[bh (show vB acc []<=M from h)];rfl
 | cons c r ih=>
  intro acc h hd;have a:=hd c mx;have j:=quh r (acc * 10+(c.toNat - 48));have e:vB acc (c::r)=vB (acc * 10+(c.toNat - 48)) r:=rfl;rw[e,parseUintM,bh a]
  by_cases h1:1844674407370955162<=acc
  ·rw[bh h1,aj mw]
  ·rw[aj h1]
   by_cases h2:M<acc * 10+(c.toNat - 48)
   ·rw[bh h2,aj mw]
   ·rw[aj h2]
    exact ih _ mw (λd i=>hd d (by simp[i]))
theorem qaj(l:mv)(a:l≠[])(hd:∀c∈l,48<=c.toNat/\c.toNat<=57):
  parseIntB 64 l=if vB 0 l<=9223372036854775807 then .ok (vB 0 l:Int) else .range:=by
 cases l with
 | nil=>exact absurd rfl a
 | cons c r=>
  have i:=hd c mx;have f:¬(c.toNat=43\/c.toNat=45):=mw;have e:¬c.toNat=45:=mw;have g:(2:Nat) ^ (64 - 1)=9223372036854775808:=by decide +kernel
  unfold parseIntB parseUintB;simp only[aj f,g];rw[aj (List.cons_ne_nil c r),pY (2 ^ 64 - 1) (by decide +kernel) (by decide +kernel) _ 0 (bj _) hd]
  by_cases h:vB 0 (c::r)<=2 ^ 64 - 1
  ·rw[bh h]
   by_cases h2:vB 0 (c::r)<=9223372036854775807
   ·rw[bh h2];dsimp only
    rw[aj mw,aj mw,aj e]
   ·rw[aj h2];dsimp only
    rw[bh mw]
  ·rw[aj h,aj mw]
end
section
def xt(l:List UInt8):Tk:=if vB 0 (l.take (qw jc l))<=9223372036854775807 then⟨3,vB 0 (l.take (qw jc l)),[]⟩ else qh 1
theorem vft(l:mv):∀c∈l.take (qw jc l),48<=c.toNat/\c.toNat<=57:=by
 intro c a;have:=qdl jc l c a;simp[jc,qah]at this;omega
theorem vbo(s:mu)(a:s.size<=140737488355328)(v:Int)(h:Lib.parseIntB 64 s.data.toList=.ok v)(w:World):
  Calls prog 239 #[.string s,.int .i64 10,.int .i64 64] w λe w'=>e=.returned (.tuple #[.int .i64 v,.nilIface])/\Xb w w':=by
 refine(Tryz.strconv_ParseInt_10_at64_ok s mw v h w).mono ?_;rintro e w'⟨rfl,rfl|⟨t,rfl⟩⟩
 ·exact⟨rfl,nw⟩
 ·exact⟨rfl,Lib.bytesWorld_below _ _ _⟩
theorem qkm(s:mu)(j:s.size<=140737488355328)(h:Lib.parseIntB 64 s.data.toList=.range)(w:World)(f:ErrOk w):
  Calls prog 239 #[.string s,.int .i64 10,.int .i64 64] w λe w'=>(∃x t p,e=.returned (.tuple #[.int .i64 x,.iface t p]))/\Xb w w':=by
 obtain⟨_,ev,i,g⟩:=f;refine(Tryz.strconv_ParseInt_10_at64_range s mw h ev w i g).mono ?_;rintro e w'⟨N,rfl,_,_,a⟩;exact⟨⟨_,_,_,rfl⟩,a⟩
theorem qrg(p:UInt8->Bool)(s:mu)(h:0<s.size)(a:p s[0]=true):qw p s.data.toList=qw p (s.data.toList.drop 1)+1:=by
 have:=vr p s.data.toList 0 (by rw[qr];exact h) a;rwa [db]at this
theorem qqn(s:mu)(I:0<s.size)(O:s.size<=140737488355328)(hd:jc s[0]=true)(w:World)(B:ErrOk w):
  nz 193 #[.string s] w λe w'=>e=.returned (.tuple #[tkV (xt s.data.toList) 0,.int .i64 (qw jc s.data.toList)])/\Xb w w':=by
 have P:=qr s;have u:=qrg jc s I hd;have J:=kC jc s.data.toList;have A:=vft s.data.toList;have T:Hid (jc s[0]=true):=hd;clear hd;obtain⟨z,m⟩:∃z,qw jc s.data.toList=z:=⟨_,rfl⟩;have U:1<=z:=mw;have R:z<=s.size:=mw;have D:(s.extract 0 z).data.toList=s.data.toList.take z:=by rw[lq];simp
 have E:=qaj (s.data.toList.take z) (by intro h;have:=congrArg List.length h;rw[dh,eo]at this;omega) (by rw[←m];exact A);have j:Hid (xt s.data.toList=if vB 0 (s.data.toList.take z)<=9223372036854775807 then⟨3,vB 0 (s.data.toList.take z),[]⟩ else qh 1):=by rw[←m];exact qd rfl
 rw[m]at u ⊢;have M:=qd u;have F:=qd D;have n:=qd E;have C:=λo=>B.alloc o
 have N:=qd C;clear A J m u D E B C;obtain⟨v,g⟩:∃v,vB 0 (s.data.toList.take z)=v:=⟨_,rfl⟩;rw[g]at j n;have S:=qd g;clear g;go_enter func193,ntmps193
 go_wp2_with fail
 go_loop [4] (λi=>∃k:Nat,1<=k/\k<=s.size/\i=.int .i64 k/\Hid (z=qw jc (s.data.toList.drop k)+k)) (λi=>s.size - (intOf i).toNat)
 case atStart=>exact⟨1,nt,mw,rfl,M⟩
 case round=>
  obtain⟨k,X,Q,rfl,q⟩:=hrel
  have more:∀a:k<s.size,jc s[k]=true->Hid (z=qw jc (s.data.toList.drop (k+1))+(k+1)):=λa f=>qd (by
   have:=vr jc s.data.toList k mw f;rw[q9 q,this];omega)
  have done1:∀a:k<s.size,jc s[k]=false->z=k:=λa f=>by
   have:=vH jc s.data.toList k mw f;rw[q9 q,this];omega
  have done2:¬k<s.size->z=k:=λa=>by
   have:=vN jc s.data.toList k mw;rw[q9 q,this];omega
  clear q
  by_cases aG:∃a:k<s.size,jc s[k]=true
  ·obtain⟨a,f⟩:=aG
   have L:=more a f;have r:=qd f;clear more done1 done2 f
   go_wp2_with(go_at_call 192;refine(jL _ _).mono ?_;rintro e w'⟨rfl,rfl⟩;rw[show qah (s[k].toNat:Int)=true from q9 r])
   go_round
   case rel=>exact⟨k+1,mw,mw,by go_num,L⟩
   case measure=>simp[intOf];omega
  ·have G:z=k:=by
    by_cases a:k<s.size
    ·exact done1 a (by cases f:jc s[k] with|false=>rfl|true=>exact absurd ⟨a,f⟩ aG)
    ·exact done2 a
   have r:Hid (∀a:k<s.size,jc s[k]=false):=qd λa=>by cases f:jc s[k] with|false=>rfl|true=>exact absurd ⟨a,f⟩ aG
   clear more done1 done2 aG;subst G
   by_cases g:v<=9223372036854775807
   ·rw[bh g]at j n
    have K:=qd g;clear g
    by_cases a:z<s.size
    all_goals
     go_wp2_with(first|(go_at_call 192;refine(jL _ _).mono ?_;rintro e w'⟨rfl,rfl⟩;rw[show qah (s[z].toNat:Int)=false from q9 r a])|(go_at_call 239;refine(vbo _ my v (by rw[q9 F];exact q9 n) _).mono ?_;rintro e w'⟨rfl,l⟩;obtain⟨y,H⟩:=qj l;have m:=l.size))
     refine ak (by simp[go_sem,y];rfl) rfl ⟨?_, ?_⟩
     all_goals go_light
     ·exact yS (by rw[q9 j]) (by rw[q9 j]) (by rw[q9 j];rfl) rfl
     ·exact((((qV l).setCell mx _).setCell mx _).setCell mx _).setCell mx _
   ·rw[aj g]at j n
    clear g
    by_cases a:z<s.size
    all_goals
     go_wp2_with(first|(go_at_call 192;refine(jL _ _).mono ?_;rintro e w'⟨rfl,rfl⟩;rw[show qah (s[z].toNat:Int)=false from q9 r a])|(go_at_call 239;refine(qkm _ my (by rw[q9 F];exact q9 n) _ (N _)).mono ?_;rintro e w'⟨⟨x,t,p,rfl⟩,l⟩;obtain⟨y,H⟩:=qj l;have m:=l.size))
     refine ak (by simp[go_sem,y];rfl) rfl ⟨?_, ?_⟩
     all_goals go_light
     ·exact yS (by rw[q9 j];rfl) (by rw[q9 j];rfl) (by rw[q9 j];rfl) rfl
     ·exact((((qV l).setCell mx _).setCell mx _).setCell mx _).setCell mx _
end
section
structure V where
 kind:Int
 num:Int
 str:List UInt8
 deriving DecidableEq
def vV(v:V):Value:=.agg #[.int .i64 v.kind,.int .i64 v.num,.string (BS v.str)]
def nV:V:=⟨0,0,[]⟩
def bV(b:Bool):V:=⟨1,if b then 1 else 0,[]⟩
def iV(n:Int):V:=⟨2,n,[]⟩
def tV(s:List UInt8):V:=⟨3,0,s⟩
theorem zb(b:Bool)(w:World):
  nz 64 #[.bool b] w λe w'=>e=.returned (vV (bV b))/\Xb w w':=by
 cases b
 all_goals
  go_enter func64,ntmps64
  go_wp2_with fail
  refine nx ⟨rfl,nw.alloc nt _⟩
theorem yT(n:Int)(w:World):
  nz 62 #[.int .i64 n] w λe w'=>e=.returned (vV (iV n))/\Xb w w':=by
 go_enter func62,ntmps62
 go_wp2_with fail
 refine nx ⟨rfl,nw.alloc nt _⟩
theorem qya(s:mu)(w:World):
  nz 63 #[.string s] w λe w'=>e=.returned (vV (tV s.data.toList))/\Xb w w':=by
 go_enter func63,ntmps63
 go_wp2_with fail
 refine nx ⟨rfl,nw.alloc nt _⟩
theorem jI(w:World):
  nz 152 #[] w λe w'=>e=.returned (vV nV)/\Xb w w':=by
 go_enter func152,ntmps152
 go_wp2_with fail
 refine nx ⟨rfl,nw.alloc nt _⟩
def jr(x y:V):Bool:=x.kind==2&&y.kind==2
theorem qI(w:World)(o a:Obj):Xb w ((w.alloc o).alloc a):=(nw.alloc nt o).alloc mx a
theorem jS(w:World)(o a o'':Obj):Xb w (((w.alloc o).alloc a).alloc o''):=(qI w o a).alloc my o''
theorem xO(x y:V)(w:World):
  nz 153 #[vV x,vV y] w λe w'=>e=.returned (.bool (jr x y))/\Xb w w':=by
 unfold jr vV;go_enter func153,ntmps153
 go_wp2_with fail
 all_goals
  go_ret;exact⟨qR (by simp_all),qI _ _ _⟩
theorem qf(a:Xb w W)(e:Xb W w'):Xb w w':=a.trans (e.mono a.size)
def xP(x:V):V:=if x.kind==1 then bV (x.num==0) else nV
theorem qp7(x:V)(w:World):
  nz 157 #[vV x] w λe w'=>e=.returned (vV (xP x))/\Xb w w':=by
 unfold xP
 cases hk:(x.kind==1) with
 | true=>
  have i:(x.kind != 1)=false:=by simp only[bne,hk];rfl
  simp only[vV];go_enter func157,ntmps157
  go_wp2_with(go_at_call 64;refine(zb _ _).mono ?_;rintro e w'⟨rfl,a⟩;obtain⟨f,g⟩:=qj a;simp only[vV])
  refine ak (by simp[go_sem,f]<;>rfl) rfl ⟨rfl, ?_⟩;exact((((qf (qI _ _ _) a).setCell mx _).setCell mx _).setCell mx _)
 | false=>
  have i:(x.kind != 1)=true:=by simp only[bne,hk];rfl
  simp only[vV];go_enter func157,ntmps157
  go_wp2_with(go_at_call 152;refine(jI _).mono ?_;rintro e w'⟨rfl,a⟩;obtain⟨f,g⟩:=qj a;simp only[vV])
  refine ak (by simp[go_sem,f]<;>rfl) rfl ⟨rfl, ?_⟩;exact((((qf (qI _ _ _) a).setCell mx _).setCell mx _).setCell mx _)
theorem qmi(x:V)(w:World):
  nz 163 #[vV x] w λe w'=>e=.returned (vV (bV (x.kind==0)))/\Xb w w':=by
 simp only[vV];go_enter func163,ntmps163
 go_wp2_with(go_at_call 64;refine(zb _ _).mono ?_;rintro e w'⟨rfl,a⟩;obtain⟨f,g⟩:=qj a;simp only[vV])
 refine ak (by simp[go_sem,f]<;>rfl) rfl ⟨rfl, ?_⟩;exact((((qf (qI _ _ _) a).setCell mx _).setCell mx _).setCell mx _)
def eqV(x y:V):V:=if x.kind==0||!(x.kind==y.kind) then nV else bV (decide (x=y))
def yo(x y:V):V:=if jr x y then bV (decide (x.num<y.num)) else nV
def leV(x y:V):V:=if jr x y then bV (decide (x.num<=y.num)) else nV
theorem qp9{F:Nat}(x y:V)(m:F=158/\decide (x.num<y.num)=b\/F=107/\decide (x.num<=y.num)=b)(w:World):
  Calls prog F #[vV x,vV y] w λe w'=>e=.returned (vV (if jr x y then bV b else nV))/\Xb w w':=by
 cases hk:jr x y
 all_goals
  have o:=qd hk;clear hk;simp only[if_true,if_false,cu]
  conv=>arg 3;simp only[vV]
  rcases m with⟨rfl,f⟩|⟨rfl,f⟩
  all_goals
   have q:=qd f;clear f
   first|go_enter func158,ntmps158|go_enter func107,ntmps107
   go_wp2_with(first|(go_at_call 153;refine(xO x y _).mono ?_;rintro e l⟨rfl,g⟩;rw[q9 o];obtain⟨r,u⟩:=qj g;have t:w.heap.size+2<l.heap.size:=(by have:=g.size;simp at this;omega))|(go_at_call 64;rw[q9 q];refine(zb _ _).mono ?_;rintro e j⟨rfl,a⟩;obtain⟨i,n⟩:=qj a;simp only[vV])|(go_at_call 152;refine(jI _).mono ?_;rintro e j⟨rfl,a⟩;obtain⟨i,n⟩:=qj a;simp only[vV]))
   refine ak (by simp[go_sem,i,r,t]<;>rfl) rfl ⟨rfl, ?_⟩;exact((((qf (qf (jS _ _ _ _) g) a).setCell my _).setCell my _).setCell my _)
theorem qim(x y:V)(w:World):nz 158 #[vV x,vV y] w λe w'=>e=.returned (vV (yo x y))/\Xb w w':=qp9 x y (.inl ⟨rfl,rfl⟩) w
theorem gj(x y:V)(w:World):nz 107 #[vV x,vV y] w λe w'=>e=.returned (vV (leV x y))/\Xb w w':=qp9 x y (.inr ⟨rfl,rfl⟩) w
theorem qgp(x y:V)(w:World):(binOp .eql 26 (vV x) (vV y)).run prog w=.ok (.bool (decide (x=y))) w:=by
 obtain⟨k,n,s⟩:=x;obtain⟨f,e,a⟩:=y;simp only[vV,V.mk.injEq]
 by_cases h1:k=f
 ·by_cases h2:n=e
  ·by_cases h3:s=a
   ·subst h1 h2 h3
    simp[go_sem]
   ·simp[go_sem,h1,h2,h3,qM]
  ·simp[go_sem,h1,h2]
 ·simp[go_sem,h1]
theorem qdt(x y:V)(w:World):
  Calls prog 155 #[vV x,vV y] w λe w'=>e=.returned (vV (eqV x y))/\Xb w w':=by
 have g:=λw=>qgp x y w
 simp only[vV]at g;unfold eqV;generalize decide (x=y)=d at *;have n:∀a b:Int,(a != b)=!(a==b):=λ_ _=>rfl
 cases h0:(x.kind==0)<;>cases h1:(x.kind==y.kind)
 all_goals
  simp only[mn,io,ma,mq,cu,if_true,if_false]
  conv=>arg 3;simp only[vV]
  go_enter func155,ntmps155
  go_wp2_with((first|(go_at_call 64;refine(zb _ _).mono ?_)|(go_at_call 152;refine(jI _).mono ?_));rintro e w'⟨rfl,f⟩;obtain⟨m,l⟩:=qj f;have j:w.heap.size+2<w'.heap.size:=(by have:=f.size;simp at this;omega);have i:Xb w w':=(by first|exact qf (jS _ _ _ _) f|exact qf (by assumption) f);clear f;simp only[vV])
  refine ak (by simp[go_sem, *]<;>rfl) rfl ⟨rfl, ?_⟩;exact(((i.setCell my _).setCell my _).setCell my _)
end
end Go.Proofs.YtfkcaldjphakpaaGreatDoor
