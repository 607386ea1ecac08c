/- The contract of Acts, as its row asks for it. -/
import Derived.Test.YtdmmmgodfceilaaGreatDoorXAxV
import Derived.Test.YtdmmmgodfceilaaGreatDoorM24
import Derived.ChangeMaps5
namespace Go.Proofs.YtdmmmgodfceilaaGreatDoor.fnActs
open Go.ChangeShapes Go.WideShapes Go.ChangeAt Go.RowKit
theorem qte{H:Type}{enc:TypeId×Value->H}{P:Program}{f:Func}{s:ChangeSpec}{apart fresh handsOn again:Bool}{W W':World}{args:Array Value}{v:Value}{ds gs:List (DataW H)}{before pa pv:List MemPlace}
  (hW:DataW.Whole enc P f.params.toList s.vars apart W args.toList ds gs before)
  (A9:∀(b:Nat) (sp:Nat->Bool) (hd:Bool),DataW.TrodAll enc P W' b sp hd f.resultTypes.toList (v.resultList f.resultTypes.size) (s.fn H (ds++gs)).results [])
  (oU:∀sp:Nat->Bool,(∀p∈before,sp p.block=true)->DataW.TrodAll enc P W' 0 sp true f.params.toList args.toList (s.fn H (ds++gs)).args pa)
  (hvars:∀sp:Nat->Bool,(∀p∈before,sp p.block=true)->DataW.TrodVars enc P W' sp s.vars (s.fn H (ds++gs)).vars pv)
  (hps:before=pa++pv) (hb:Below W.heap.size W W')
  (E9:∀(j:Nat) (t:TypeId) (r:Value),f.resultTypes[j]?=some t->(v.resultList f.resultTypes.size)[j]?=some r->Value.okWide P W' .any 0 t r) :
  s.post enc P f apart fresh handsOn again W args v W':=by
 have aO:∀p∈before,p.block<W.heap.size:=λp hp=>hW.lt p hp
 refine⟨ds,gs,before,[],pa,pv,hW,A9 _ _ _,oU _ (λp hp=>by simpa using aO p hp),hvars _ (λp hp=>by simpa using aO p hp),World.keptBut_mono (λp hp=>⟨hp,Or.inr (by rw[hps,List.mem_append]at hp;simpa using hp)⟩) (hb.frame (·∈before)),λ_=>?_⟩;obtain⟨_,_,_,_,_,hz,hn⟩:=hW;refine⟨E9,_,_,([]++pa)++pv,⟨[]++pa,pv,trodAll_append (oU _ (λ_ _=>rfl)) (A9 _ _ _),hvars _ (λ_ _=>rfl),rfl, ?_,λha=>by have:=hn ha;rw[hps]at this;simpa using this⟩,λp hp _=>by rw[hps];simpa using hp⟩;intro b off hp;have hm:(MemPlace.cell b off)∈before:=by rw[hps];simpa using hp
 rw[hb.frozen (p:=⟨b,off,none⟩) (aO _ hm)];exact hz b off hm
theorem qu6{W W':World}(hb:Below W.heap.size W W'){ps:List MemPlace}(h:∀p∈ps,p.block<W.heap.size):∀p∈ps,W.sameAt W' p:=by
 intro p hp;have hl:=h p hp
 cases p with
 | cell b off=>exact hb.cell (p:=⟨b,off,none⟩) hl
 | map b=>exact hb.block b hl
theorem vp0{W:World}(h:laidMetH Tryz.prog Rows.actsRow.laid W):ErrOk W:=by
 rw[MakeChecks.laidMetH_plain _ _ _ (by kernel_rfl)]at h;exact vnz (by simp[Rows.actsRow]) h
theorem ve2:laidOutB Tryz.prog=true:=by kernel_rfl
theorem vfl:Tryz.prog.readableRec 22=true:=by kernel_rfl
theorem vds:22<Tryz.prog.types.size:=of_decide_eq_true (by kernel_rfl)
set_option maxRecDepth 100000 in
theorem vpd{W:World}(h:laidMetH Tryz.prog Rows.actsRow.laid W)(hS:W.ShapedOpen Tryz.prog):LibOk W:=by
 have he:=vp0 h;rw[MakeChecks.laidMetH_plain _ _ _ (by kernel_rfl)]at h;exact⟨he,vpj hS,vpw (by simp[Rows.actsRow]) h⟩
set_option maxRecDepth 100000 in
theorem contract(H:Type)(enc:TypeId×Value->H)(W:World)(base:Nat)(args:Array Value)(ds gs:List (DataW H))(before:List MemPlace)
  (lE:∀(j:Nat) t v,Tryz.f3.params[j]?=some t->args[j]?=some v->Value.okWide Tryz.prog W .any base t v)
  (hW:DataW.Whole enc Tryz.prog Tryz.f3.params.toList Rows.actsSpec.vars false W args.toList ds gs before)
  (hz:(DataW.weightsEach Tryz.prog (Tryz.f3.params.toList++Rows.actsSpec.plain.varTypes Tryz.prog) (ds++gs)).all (·<=reachBytes)=true) (hL:laidMetH Tryz.prog Rows.actsRow.laid W) (hS:W.ShapedOpen Tryz.prog) :
  Calls Tryz.prog 3 args W λe W'=>∃v,e=.returned v/\Rows.actsSpec.post enc Tryz.prog Tryz.f3 false true false false W args v W':=by
 have VR:=hW;obtain⟨p,q,GT,hV,rfl,hfz,I5⟩:=hW;have hA:DataW.TrodAll enc Tryz.prog W 0 (λ_=>true) true Tryz.f3.params.toList args.toList ds p:=GT;rw[Tryz.params3]at hA lE hz;obtain⟨v0,vs0,d0,ds0,p0,q0,oU,rfl,rfl,h0,r0⟩:=trodAll_cons hA;obtain⟨rfl,rfl,rfl⟩:=trodAll_nil r0;obtain rfl:args=#[v0]:=by cases args;simp_all
 obtain⟨rfl,rfl⟩:=trodVars_none hV
 have zw:∀n∈d0.weights Tryz.prog 22,n<=reachBytes:=λn hn=>by
  have:=List.all_eq_true.1 hz n (DataW.weights_mem_each (j:=0) (t:=22) rfl rfl n hn);simpa using this
 obtain⟨l,hl⟩:=vet (lE 0 22 v0 rfl rfl) h0 zw;clear GT;simp only[List.append_nil]at VR;have walk:=vby W v0 l hl (vpd hL hS);refine walk.mono λe W' ⟨he,hg'⟩=>?_
 subst he;have A1:∀p∈p0,p.block<W.heap.size:=λp hp=>VR.lt p hp
 exact⟨_,rfl,qte (pa:=p0) (pv:=[]) VR (λ_ _ _=>trodAll_cons_mk (shut_bool Tryz.underlying4 _) trodAll_mk0) (λsp uW=>by
   have:=trodAll_cons_mk (Go.WideElems.Trod_stays ve2 vfl vds h0 (qu6 hg' A1) uW) trodAll_mk0;simp only[List.append_nil]at this
   exact this) (λ_ _=>rfl) (by simp)
  hg' (ok_one (by kernel_rfl) rfl (okWide_bool_mk Tryz.underlying4 _))⟩
end Go.Proofs.YtdmmmgodfceilaaGreatDoor.fnActs
