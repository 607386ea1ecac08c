/- The contract of Compiles, as its row asks for it. -/
import Derived.Test.YtfkcaldjphakpaaGreatDoorXCqV
import Derived.Test.YtfkcaldjphakpaaGreatDoorM41
import Derived.ChangeMaps5
namespace Go.Proofs.YtfkcaldjphakpaaGreatDoor.fnCompiles
open Go.ChangeShapes Go.WideShapes Go.ChangeAt Go.RowKit
theorem jx3{H:Type}{enc:TypeId×Value->H}{P:Program}{f:Func}{s:ChangeSpec}{apart fresh handsOn again:Bool}{W W':World}{args:Array Value}{v:Value}{ds gs:List (DataW H)}{before pa pv:List MemPlace}
  (hW:DataW.Whole enc P f.params.toList s.vars apart W args.toList ds gs before)
  (A8:∀(b:Nat) (sp:Nat->Bool) (hd:Bool),DataW.TrodAll enc P W' b sp hd f.resultTypes.toList (v.resultList f.resultTypes.size) (s.fn H (ds++gs)).results [])
  (iA:∀sp:Nat->Bool,(∀p∈before,sp p.block=true)->DataW.TrodAll enc P W' 0 sp true f.params.toList args.toList (s.fn H (ds++gs)).args pa)
  (hvars:∀sp:Nat->Bool,(∀p∈before,sp p.block=true)->DataW.TrodVars enc P W' sp s.vars (s.fn H (ds++gs)).vars pv)
  (rI:before=pa++pv) (hb:Below W.heap.size W W')
  (J4:∀(j:Nat) (t:TypeId) (r:Value),f.resultTypes[j]?=some t->(v.resultList f.resultTypes.size)[j]?=some r->Value.okWide P W' .any 0 t r) :
  s.post enc P f apart fresh handsOn again W args v W':=by
 have i6:∀p∈before,p.block<W.heap.size:=λp hp=>hW.lt p hp
 refine⟨ds,gs,before,[],pa,pv,hW,A8 _ _ _,iA _ (λp hp=>by simpa using i6 p hp),hvars _ (λp hp=>by simpa using i6 p hp),World.keptBut_mono (λp hp=>⟨hp,Or.inr (by rw[rI,List.mem_append]at hp;simpa using hp)⟩) (hb.frame (·∈before)),λ_=>?_⟩;obtain⟨_,_,_,_,_,hz,hn⟩:=hW;refine⟨J4,_,_,([]++pa)++pv,⟨[]++pa,pv,trodAll_append (iA _ (λ_ _=>rfl)) (A8 _ _ _),hvars _ (λ_ _=>rfl),rfl, ?_,λha=>by have:=hn ha;rw[rI]at this;simpa using this⟩,λp hp _=>by rw[rI];simpa using hp⟩;intro b off hp;have hm:(MemPlace.cell b off)∈before:=by rw[rI];simpa using hp
 rw[hb.frozen (p:=⟨b,off,none⟩) (i6 _ hm)];exact hz b off hm
theorem jz7{W W':World}(hb:Below W.heap.size W W'){ps:List MemPlace}(h:∀p∈ps,p.block<W.heap.size):∀p∈ps,W.sameAt W' p:=by
 intro p hp;have hl:=h p hp
 cases p with
 | cell b off=>exact hb.cell (p:=⟨b,off,none⟩) hl
 | map b=>exact hb.block b hl
theorem err_ok{W:World}(h:laidMetH Tryz.prog Rows.compilesRow.laid W):ErrOk W:=by
 rw[MakeChecks.laidMetH_plain _ _ _ (by kernel_rfl)]at h;exact err_of (by simp[Rows.compilesRow]) h
theorem laid_out:laidOutB Tryz.prog=true:=by kernel_rfl
theorem readable:Tryz.prog.readableRec 22=true:=by kernel_rfl
theorem in_types:22<Tryz.prog.types.size:=of_decide_eq_true (by kernel_rfl)
set_option maxRecDepth 100000 in
theorem lib_ok{W:World}(h:laidMetH Tryz.prog Rows.compilesRow.laid W)(hS:W.ShapedOpen Tryz.prog):LibOk W:=by
 have he:=err_ok h;rw[MakeChecks.laidMetH_plain _ _ _ (by kernel_rfl)]at h;exact⟨he,max_ok hS,pow_ok (by simp[Rows.compilesRow]) h⟩
set_option maxRecDepth 100000 in
theorem contract(H:Type)(enc:TypeId×Value->H)(W:World)(base:Nat)(args:Array Value)(ds gs:List (DataW H))(before:List MemPlace)
  (eB:∀(j:Nat) t v,Tryz.f10.params[j]?=some t->args[j]?=some v->Value.okWide Tryz.prog W .any base t v)
  (hW:DataW.Whole enc Tryz.prog Tryz.f10.params.toList Rows.compilesSpec.vars false W args.toList ds gs before)
  (hz:(DataW.weightsEach Tryz.prog (Tryz.f10.params.toList++Rows.compilesSpec.plain.varTypes Tryz.prog) (ds++gs)).all (·<=reachBytes)=true) (hL:laidMetH Tryz.prog Rows.compilesRow.laid W) (hS:W.ShapedOpen Tryz.prog) :
  Calls Tryz.prog 10 args W λe W'=>∃v,e=.returned v/\Rows.compilesSpec.post enc Tryz.prog Tryz.f10 false true false false W args v W':=by
 have AA:=hW;obtain⟨p,q,qD,hV,rfl,MM,I3⟩:=hW;have hA:DataW.TrodAll enc Tryz.prog W 0 (λ_=>true) true Tryz.f10.params.toList args.toList ds p:=qD;rw[Tryz.params10]at hA eB hz;obtain⟨v0,QJ,d0,TQ,p0,q0,iA,rfl,rfl,h0,r0⟩:=trodAll_cons hA;obtain⟨rfl,rfl,rfl⟩:=trodAll_nil r0;obtain rfl:args=#[v0]:=by cases args;simp_all
 obtain⟨rfl,rfl⟩:=trodVars_none hV
 have zw:∀n∈d0.weights Tryz.prog 22,n<=reachBytes:=λn hn=>by
  have:=List.all_eq_true.1 hz n (DataW.weights_mem_each (j:=0) (t:=22) rfl rfl n hn);simpa using this
 obtain⟨l,hl⟩:=open_ops (eB 0 22 v0 rfl rfl) h0 zw;clear qD;simp only[List.append_nil]at AA;have walk:=jb0 W v0 l hl (lib_ok hL hS);refine walk.mono λe W' ⟨he,hg'⟩=>?_
 subst he;have A1:∀p∈p0,p.block<W.heap.size:=λp hp=>AA.lt p hp
 exact⟨_,rfl,jx3 (pa:=p0) (pv:=[]) AA (λ_ _ _=>trodAll_cons_mk (shut_bool Tryz.underlying4 _) trodAll_mk0) (λsp fL=>by
   have:=trodAll_cons_mk (Go.WideElems.Trod_stays laid_out readable in_types h0 (jz7 hg' A1) fL) trodAll_mk0;simp only[List.append_nil]at this
   exact this) (λ_ _=>rfl) (by simp)
  hg' (ok_one (by kernel_rfl) rfl (okWide_bool_mk Tryz.underlying4 _))⟩
end Go.Proofs.YtfkcaldjphakpaaGreatDoor.fnCompiles
