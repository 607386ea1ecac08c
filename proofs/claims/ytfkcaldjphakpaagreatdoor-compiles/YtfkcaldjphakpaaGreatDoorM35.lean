/- The reader of programs. -/
import Derived.Test.YtfkcaldjphakpaaGreatDoorM20
import Derived.Deep.OwnRows
import Derived.Lib.Overlaps
import Derived.Lib.AppendZerosOnto
import Derived.Maps.OwnSet
import Derived.DeepKeys4
namespace Go.Proofs.YtfkcaldjphakpaaGreatDoor
open Go.RowKit Go.Proofs.Tryz
section
theorem vb7:(prog.info? 5).map (λi=>(i.zero,i.size,i.bytes))=some (some (.int .u8 0),1,1):=by kernel_rfl
end
section
structure Tm where
 op:Nat
 left:Nat
 right:Nat
 num:Int
 str:List UInt8
 esc:List UInt8
def Tm.bare(op:Nat):Tm:=⟨op,0,0,0,[],[]⟩
def qy1(t:Tm):List Value:=[.int .i64 t.op,.int .i64 t.left,.int .i64 t.right,.int .i64 t.num,.string (BS t.str),.string (BS t.esc)]
def tmV(t:Tm):Value:=.agg #[.int .i64 t.op,.int .i64 t.left,.int .i64 t.right,.int .i64 t.num,.string (BS t.str),.string (BS t.esc)]
def vb9(op:Nat):Bool:=op==6||op==7||op==8||op==10||op==11||op==16||op==17||op==18||op==19
structure TmAt(w:World)(b:Nat)(t:Tm):Prop where
 lt:b<w.heap.size
 c0:w.cell? ⟨b,0,none⟩=some (.int .i64 t.op)
 c1:w.cell? ⟨b,1,none⟩=some (.int .i64 t.left)
 c2:w.cell? ⟨b,2,none⟩=some (.int .i64 t.right)
 c3:w.cell? ⟨b,3,none⟩=some (.int .i64 t.num)
 c4:w.cell? ⟨b,4,none⟩=some (.string (BS t.str))
 c5:w.cell? ⟨b,5,none⟩=some (.string (BS t.esc))
 fz:∀j,w.frozen? ⟨b,j,none⟩=false
theorem TmAt.same{w w':World}{b:Nat}{t:Tm}(h:TmAt w b t)(hz:b<w'.heap.size)(hb:w'.heap[b]?=w.heap[b]?):TmAt w' b t:=by
 have hc:∀j,w'.cell? ⟨b,j,none⟩=w.cell? ⟨b,j,none⟩:=λj=>World.cell?_of_block (w:=w) (w':=w') (a:=⟨b,j,none⟩) hb
 have hf:∀j,w'.frozen? ⟨b,j,none⟩=w.frozen? ⟨b,j,none⟩:=λj=>World.frozen?_of_block (w:=w) (w':=w') (a:=⟨b,j,none⟩) hb
 exact⟨hz,(hc 0).trans h.c0,(hc 1).trans h.c1,(hc 2).trans h.c2,(hc 3).trans h.c3,(hc 4).trans h.c4,(hc 5).trans h.c5,λj=>(hf j).trans (h.fz j)⟩
theorem TmAt.kept{w w':World}{b rb:Nat}{t:Tm}(h:TmAt w b t)(hk:Kept rb w w')(hn:¬b=rb):TmAt w' b t:=
 h.same (Nat.lt_of_lt_of_le h.lt hk.size) (hk.block b h.lt hn)
theorem TmAt.alloc{w:World}{b:Nat}{t:Tm}(h:TmAt w b t)(o:Obj):TmAt (w.alloc o) b t:=
 h.same (by have:=h.lt;simp;omega) (((Below.refl w.heap.size w).alloc (Nat.le_refl _) o).block b h.lt)
theorem TmAt.other{w:World}{b:Nat}{t:Tm}(h:TmAt w b t){p:Addr}(hp:¬p.block=b)(u:Value):TmAt (w.setCell p u) b t:=
 h.same (by have:=h.lt;simp;omega) (Below.heap_setCell w p u b (by omega))
theorem TmAt.new(w:World)(n:Nat)(ty:TypeId):TmAt (w.alloc (.cells #[.int .i64 n,.int .i64 0,.int .i64 0,.int .i64 0,.string ⟨#[]⟩,.string ⟨#[]⟩] ty)) w.heap.size (.bare n):=by
 refine⟨by simp, ?_, ?_, ?_, ?_, ?_, ?_,λj=>?_⟩<;>simp[go_sem,Tm.bare]<;>rfl
theorem TmAt.full{w:World}{b:Nat}{t0:Tm}(h:TmAt w b t0)(t:Tm){v0 v1 v2 v3 v4 v5:Value}(h0:v0=.int .i64 t.op)(h1:v1=.int .i64 t.left)(h2:v2=.int .i64 t.right)(h3:v3=.int .i64 t.num)(h4:v4=.string (BS t.str))(h5:v5=.string (BS t.esc)):
  TmAt ((((((w.setCell ⟨b,0,none⟩ v0).setCell ⟨b,1,none⟩ v1).setCell ⟨b,2,none⟩ v2).setCell ⟨b,3,none⟩ v3).setCell ⟨b,4,none⟩ v4).setCell ⟨b,5,none⟩ v5) b t:=by
 subst h0 h1 h2 h3 h4 h5;obtain⟨hl,c0,c1,c2,c3,c4,c5,fz⟩:=h;exact⟨by simp;omega,by simp[go_sem,c0],by simp[go_sem,c1],by simp[go_sem,c2],by simp[go_sem,c3],by simp[go_sem,c4],by simp[go_sem,c5],λj=>by simp[go_sem,fz]⟩
end
section
def qu7(ts:List Tm):List Value:=ts.flatMap qy1
def vb8(l:List Nat):List Value:=l.map λn:Nat=>.int .i64 (n:Int)
theorem info_term:(prog.info? 125).map (λi=>(i.zero,i.size,i.bytes))=some (some (.agg #[.int .i64 0,.int .i64 0,.int .i64 0,.int .i64 0,.string ⟨#[]⟩,.string ⟨#[]⟩]),6,64):=by kernel_rfl
theorem info_intg:(prog.info? 3).map (λi=>(i.zero,i.size,i.bytes))=some (some (.int .i64 0),1,8):=by kernel_rfl
def TsAt(w:World)(base:Nat)(v:Value)(ts:List Tm):Prop:=w.ownsRow base 125 6 v ts.length (qu7 ts)
def IsAt(w:World)(base:Nat)(v:Value)(l:List Nat):Prop:=w.ownsRow base 3 1 v l.length (vb8 l)
theorem TsAt.nil(w:World)(base:Nat):TsAt w base (.slice none 0 0) []:=⟨rfl,.inl ⟨rfl,rfl⟩⟩
theorem IsAt.nil(w:World)(base:Nat):IsAt w base (.slice none 0 0) []:=⟨rfl,.inl ⟨rfl,rfl⟩⟩
theorem qk4{base e size n:Nat}{w w':World}{v:Value}{xs:List Value}(h:w.ownsRow base e size v n xs)(hk:∀g,v.ownBlock=some g->w'.heap[g]?=w.heap[g]?):w'.ownsRow base e size v n xs:=by
 refine⟨h.1, ?_⟩;rcases h.2 with hn|⟨g,cap,cur,rfl,K7,J1,rest⟩
 ·exact .inl hn
 ·exact .inr ⟨g,cap,cur,rfl,K7,(hk g rfl).trans J1,rest⟩
theorem jg2{ts:List Tm}{i:Nat}{t:Tm}(h:ts[i]?=some t){j:Nat}{u:Value}(hj:(qy1 t)[j]?=some u):(qu7 ts)[i * 6+j]?=some u:=by
 have SN:j<6:=by have:=(List.getElem?_eq_some_iff.1 hj).1;simpa [qy1]using this
 induction ts generalizing i with
 | nil=>simp at h
 | cons t' ts ih=>
  rw[qu7,List.flatMap_cons,←qu7]
  cases i with
  | zero=>
   simp at h;subst h;rw[List.getElem?_append_left (by show _<6;omega),Nat.zero_mul,Nat.zero_add];exact hj
  | succ i=>
   rw[List.getElem?_append_right (by show 6<=_;omega),show(i+1) * 6+j - (qy1 t').length=i * 6+j by show _ - 6=_;omega];exact ih (by simpa using h)
end
section
theorem Kept.drew'{rb:Nat}{w w1:World}(h:Kept rb w.drew w1):Kept rb w w1:=⟨h.os,h.tape,h.output,h.size,h.block⟩
def vj9(ats:Array TypeId)(ty:TypeId)(args:Array Value):Sem Value:=Builtin.append_ ats ty args
theorem qp7(ats:Array TypeId)(ty:TypeId)(args:Array Value):Builtin.append_ ats ty args=vj9 ats ty args:=rfl
structure ProgAt(w:World)(pb o:Nat)(ts:List Tm)(rs:List Nat):Prop where
 lt:pb<w.heap.size
 c0:∃tv base,w.cell? ⟨pb,o,none⟩=some tv/\TsAt w base tv ts
 c1:∃rv base,w.cell? ⟨pb,o+1,none⟩=some rv/\IsAt w base rv rs
theorem ProgAt.below{w w':World}{pb o:Nat}{ts:List Tm}{rs:List Nat}(h:ProgAt w pb o ts rs)(hb:Below w.heap.size w w'):ProgAt w' pb o ts rs:=by
 obtain⟨hl,⟨tv,b0,h0,GQ⟩,rv,b1,h1,AO⟩:=h;exact⟨Nat.lt_of_lt_of_le hl hb.size,⟨tv,b0,(hb.cell hl).trans h0,qc3 GQ hb (Nat.le_refl _)⟩,rv,b1,(hb.cell hl).trans h1,qc3 AO hb (Nat.le_refl _)⟩
end
section
variable {P:Program}
theorem vn3{w:World}{base:Nat}{e:TypeId}{size g n cap:Nat}{xs:List Value}(h:w.ownsRow base e size (.slice (some ⟨g,0,none⟩) n cap) n xs):base<=g/\n<=cap/\cap<=maxLen/\∃cur,w.heap[g]?=some (.cells cur e (0,0))/\cur.size=cap * size/\cur.toList.take (n * size)=xs:=by
 rcases h.2 with⟨hv,_⟩|⟨g',cap',AS,hv,hb,hh,t7,mA,O5,hx⟩
 ·simp at hv
 ·simp at hv
  obtain⟨rfl,rfl⟩:=hv;exact⟨hb,t7,mA,AS,hh,O5,hx⟩
end
section
open Go.Maps (Keyed)
theorem laidOut:laidOutB prog=true:=by kernel_rfl
theorem termRow:(125:TypeId)<prog.types.size:=of_decide_eq_true (by kernel_rfl)
theorem termKeyAt:prog.keyTypeAt 3 125=true:=by kernel_rfl
theorem vq0:Keyed prog 125:=Keyed.of_law (deep_law_laid laidOut (m:=3) (Nat.le_of_ble_eq_true rfl) termRow termKeyAt (by rw[underlying125]))
theorem termKey:prog.keyType 125=true:=by kernel_rfl
theorem jf8:prog.cellsOf 125=6:=by kernel_rfl
theorem cellsOp:prog.cellsOf 72=1:=by kernel_rfl
theorem jm3:prog.cellsOf 3=1:=by kernel_rfl
theorem ju2:prog.cellsOf 2=1:=by kernel_rfl
theorem ji7:prog.cellsOf 9=1:=by kernel_rfl
structure HoldT(t:Tm):Prop where
 op:Rng t.op
 left:Rng t.left
 right:Rng t.right
 num:Rng t.num
 str:t.str.length<=1000
 esc:t.esc.length<=1000
def litsT(t:Tm):List Lit:=[.int .i64 t.op,.int .i64 t.left,.int .i64 t.right,.int .i64 t.num,.string t.str,.string t.esc]
def klT(t:Tm):Lit:=.string (keyBytes (litsT t))
theorem wfRng{n:Int}(h:Rng n):(Lit.int .i64 n).wf=true:=WalkArith.wf_i64 h
theorem qt9{d:Nat}{ty:TypeId}(hu:prog.underlying ty=some (.int .i64)){n:Int}(h:Rng n):prog.keyLits (d+1) ty [.int .i64 n]=some [.int .i64 n]:=by
 unfold Program.keyLits;rw[hu];simp[wfRng h]
theorem vm3{d:Nat}{ty:TypeId}(hu:prog.underlying ty=some .string){l:List UInt8}(h:l.length<=1000):prog.keyLits (d+1) ty [.string (BS l)]=some [.string l]:=by
 unfold Program.keyLits;rw[hu];have:(BS l).size<=maxLen:=by rw[qc1];unfold maxLen;omega
 simp[this,qp4]
theorem qm6{t:Tm}(h:HoldT t):keyOf prog 125 (tmV t)=some (klT t):=by
 obtain⟨d,hd⟩:∃d,prog.types.size+1=d+1+1:=⟨prog.types.size - 1,by have:0<prog.types.size:=Nat.lt_of_le_of_lt (Nat.zero_le _) termRow;omega⟩;have h0:=qt9 (d:=d) underlying72 h.op;have h1:=qt9 (d:=d) underlying3 h.left;have h2:=qt9 (d:=d) underlying3 h.right;have h3:=qt9 (d:=d) underlying2 h.num;have h4:=vm3 (d:=d) underlying9 h.str;have h5:=vm3 (d:=d) underlying9 h.esc
 have hl:prog.keyLits (prog.types.size+1) 125 (tmV t).cells.toList=some (litsT t):=by
  rw[hd];unfold Program.keyLits;rw[underlying125];have hc:(tmV t).cells.toList=[.int .i64 t.op,.int .i64 t.left,.int .i64 t.right,.int .i64 t.num,.string (BS t.str),.string (BS t.esc)]:=rfl;simp[hc,jf8,cellsOp,jm3,ju2,ji7,h0,h1,h2,h3,h4,h5,litsT,List.mapM_cons,List.mapM_nil]
 have hf:(tmV t).formed prog 125=true:=by simp[tmV,Value.formed,underlying125,jf8]
 unfold keyOf;rw[underlying125];simp only[termKey,hf,Bool.and_self,if_true,hl];rfl
theorem tmV_inj{t u:Tm}(h:tmV t=tmV u):t=u:=by
 obtain⟨a,b,c,d,e,f⟩:=t;obtain⟨a',b',c',d',e',f'⟩:=u;simp[tmV]at h;obtain⟨h0,h1,h2,h3,h4,h5⟩:=h;have e4:e=e':=by have:=congrArg (λx=>x.data.toList) h4;simpa [qp4]using this
 have e5:f=f':=by have:=congrArg (λx=>x.data.toList) h5;simpa [qp4]using this
 subst e4 e5;simp;omega
theorem klT_ne{t u:Tm}(ht:HoldT t)(hu:HoldT u)(h:t≠u):klT t≠klT u:=λe=>h (tmV_inj (vq0.inj (qm6 ht) (e ▸ qm6 hu)))
def sameT(t u:Tm):Bool:=t.op==u.op&&t.left==u.left&&t.right==u.right&&t.num==u.num&&t.str==u.str&&t.esc==u.esc
theorem vd3(t u:Tm):sameT t u=true↔t=u:=by
 obtain⟨a,b,c,d,e,f⟩:=t;obtain⟨a',b',c',d',e',f'⟩:=u;simp[sameT,and_assoc]
def qj6(ts:List Tm)(t:Tm):Option Nat:=ts.findIdx? λu=>sameT u t
theorem qv6{ts:List Tm}{t:Tm}(h:qj6 ts t=none):qj6 (ts++[t]) t=some ts.length:=by
 unfold qj6 at h ⊢;rw[List.findIdx?_append,h];simp[(vd3 t t).2 rfl]
theorem qt3{ts:List Tm}{t u:Tm}(h:t≠u):qj6 (ts++[u]) t=qj6 ts t:=by
 unfold qj6
 have:sameT u t=false:=by
  cases hs:sameT u t with
  | false=>rfl
  | true=>exact absurd ((vd3 u t).1 hs).symm h
 rw[List.findIdx?_append];simp[this]
structure MapIs(D:DataW Unit)(ts:List Tm):Prop where
 map:Maps.IsMap D
 at':∀t,HoldT t->∀i,qj6 ts t=some i->Maps.has D (klT t)=true/\D.atKey (klT t) (.lit (.int .i64 0))=.lit (.int .i64 i)
 no:∀t,HoldT t->qj6 ts t=none->Maps.has D (klT t)=false
theorem MapIs.empty:MapIs (.map []) []:=⟨Maps.isMap_empty,λt _ i h=>by simp[qj6]at h,λt _ _=>rfl⟩
theorem MapIs.add{D:DataW Unit}{ts:List Tm}{t:Tm}(h:MapIs D ts)(ht:HoldT t)(hn:qj6 ts t=none):MapIs (D.put (klT t) (.lit (.int .i64 ts.length))) (ts++[t]):=by
 have hk:WideAt.IsKeyLit (klT t):=vq0.key (qm6 ht);refine⟨h.map.put _ _,λu hu i hi=>?_,λu hu hw=>?_⟩
 ·by_cases he:u=t
  ·subst he
   rw[qv6 hn]at hi;simp at hi;subst hi;exact⟨Maps.has_put_same h.map hk _,Maps.atKey_put_same h.map hk _ _⟩
  ·rw[qt3 he]at hi
   have:=h.at' u hu i hi;rw[Maps.has_put_other (klT_ne hu ht he),Maps.atKey_put_other (klT_ne hu ht he)];exact this
 ·by_cases he:u=t
  ·subst he
   rw[qv6 hn]at hw;simp at hw
  ·rw[qt3 he]at hw
   rw[Maps.has_put_other (klT_ne hu ht he)];exact h.no u hu hw
end
end Go.Proofs.YtfkcaldjphakpaaGreatDoor
