/- The contract of All, as its row asks for it. -/
import Derived.Test.YtmepkbgodcffoaaGreatDoorXAlV
import Derived.Test.YtmepkbgodcffoaaGreatDoorM29
import Derived.ChangeMaps5
namespace Go.Proofs.YtmepkbgodcffoaaGreatDoor.fnAll
open Go.ChangeShapes Go.WideShapes Go.ChangeAt Go.RowKit
theorem qxg{H:Type}{enc:TypeId×Value->H}{P:Program}{f:Func}{s:ChangeSpec}{apart fresh handsOn again:Bool}{W W':World}{args:Array Value}{v:Value}{ds gs:List (DataW H)}{before pa pv:List MemPlace}
  (hW:DataW.Whole enc P f.params.toList s.vars apart W args.toList ds gs before)
  (D4:∀(b:Nat) (sp:Nat->Bool) (hd:Bool),DataW.TrodAll enc P W' b sp hd f.resultTypes.toList (v.resultList f.resultTypes.size) (s.fn H (ds++gs)).results [])
  (sX:∀sp:Nat->Bool,(∀p∈before,sp p.block=true)->DataW.TrodAll enc P W' 0 sp true f.params.toList args.toList (s.fn H (ds++gs)).args pa)
  (hvars:∀sp:Nat->Bool,(∀p∈before,sp p.block=true)->DataW.TrodVars enc P W' sp s.vars (s.fn H (ds++gs)).vars pv)
  (hps:before=pa++pv) (hb:Below W.heap.size W W')
  (E9:∀(j:Nat) (t:TypeId) (r:Value),f.resultTypes[j]?=some t->(v.resultList f.resultTypes.size)[j]?=some r->Value.okWide P W' .any 0 t r) :
  s.post enc P f apart fresh handsOn again W args v W':=by
 have cD:∀p∈before,p.block<W.heap.size:=λp hp=>hW.lt p hp
 refine⟨ds,gs,before,[],pa,pv,hW,D4 _ _ _,sX _ (λp hp=>by simpa using cD p hp),hvars _ (λp hp=>by simpa using cD p hp),World.keptBut_mono (λp hp=>⟨hp,Or.inr (by rw[hps,List.mem_append]at hp;simpa using hp)⟩) (hb.frame (·∈before)),λ_=>?_⟩;obtain⟨_,_,_,_,_,hz,hn⟩:=hW;refine⟨E9,_,_,([]++pa)++pv,⟨[]++pa,pv,trodAll_append (sX _ (λ_ _=>rfl)) (D4 _ _ _),hvars _ (λ_ _=>rfl),rfl, ?_,λha=>by have:=hn ha;rw[hps]at this;simpa using this⟩,λp hp _=>by rw[hps];simpa using hp⟩;intro b off hp;have hm:(MemPlace.cell b off)∈before:=by rw[hps];simpa using hp
 rw[hb.frozen (p:=⟨b,off,none⟩) (cD _ hm)];exact hz b off hm
theorem qyb{W W':World}(hb:Below W.heap.size W W'){ps:List MemPlace}(h:∀p∈ps,p.block<W.heap.size):∀p∈ps,W.sameAt W' p:=by
 intro p hp;have hl:=h p hp
 cases p with
 | cell b off=>exact hb.cell (p:=⟨b,off,none⟩) hl
 | map b=>exact hb.block b hl
theorem vui{W:World}(h:laidMetH Tryz.prog Rows.allRow.laid W):ErrOk W:=by
 rw[MakeChecks.laidMetH_plain _ _ _ (by kernel_rfl)]at h;exact vuh (by simp[Rows.allRow]) h
theorem vj2:laidOutB Tryz.prog=true:=by kernel_rfl
theorem vkq:Tryz.prog.readableRec 22=true:=by kernel_rfl
theorem viq:22<Tryz.prog.types.size:=of_decide_eq_true (by kernel_rfl)
set_option maxRecDepth 100000 in
theorem vuv{W:World}(h:laidMetH Tryz.prog Rows.allRow.laid W)(hS:W.ShapedOpen Tryz.prog):LibOk W:=by
 have he:=vui h;rw[MakeChecks.laidMetH_plain _ _ _ (by kernel_rfl)]at h;exact⟨he,vv1 hS,vve (by simp[Rows.allRow]) h⟩
set_option maxRecDepth 100000 in
theorem contract(H:Type)(enc:TypeId×Value->H)(W:World)(base:Nat)(args:Array Value)(ds gs:List (DataW H))(before:List MemPlace)
  (nP:∀(j:Nat) t v,Tryz.f3.params[j]?=some t->args[j]?=some v->Value.okWide Tryz.prog W .any base t v)
  (hW:DataW.Whole enc Tryz.prog Tryz.f3.params.toList Rows.allSpec.vars false W args.toList ds gs before)
  (hz:(DataW.weightsEach Tryz.prog (Tryz.f3.params.toList++Rows.allSpec.plain.varTypes Tryz.prog) (ds++gs)).all (·<=reachBytes)=true) (hL:laidMetH Tryz.prog Rows.allRow.laid W) (hS:W.ShapedOpen Tryz.prog) :
  Calls Tryz.prog 3 args W λe W'=>∃v,e=.returned v/\Rows.allSpec.post enc Tryz.prog Tryz.f3 false true false false W args v W':=by
 have XP:=hW;obtain⟨p,q,PO,hV,rfl,hfz,J9⟩:=hW;have hA:DataW.TrodAll enc Tryz.prog W 0 (λ_=>true) true Tryz.f3.params.toList args.toList ds p:=PO;rw[Tryz.params3]at hA nP hz;obtain⟨v0,vs0,d0,ds0,p0,q0,sX,rfl,rfl,h0,r0⟩:=trodAll_cons hA;obtain⟨rfl,rfl,rfl⟩:=trodAll_nil r0;obtain rfl:args=#[v0]:=by cases args;simp_all
 obtain⟨rfl,rfl⟩:=trodVars_none hV
 have zw:∀n∈d0.weights Tryz.prog 22,n<=reachBytes:=λn hn=>by
  have:=List.all_eq_true.1 hz n (DataW.weights_mem_each (j:=0) (t:=22) rfl rfl n hn);simpa using this
 obtain⟨l,hl⟩:=vjx (nP 0 22 v0 rfl rfl) h0 zw;clear PO;simp only[List.append_nil]at XP;have walk:=vpu W v0 l hl (vuv hL hS);refine walk.mono λe W' ⟨he,hg'⟩=>?_
 subst he;have A1:∀p∈p0,p.block<W.heap.size:=λp hp=>XP.lt p hp
 exact⟨_,rfl,qxg (pa:=p0) (pv:=[]) XP (λ_ _ _=>trodAll_cons_mk (shut_bool Tryz.underlying4 _) trodAll_mk0) (λsp rT=>by
   have:=trodAll_cons_mk (Go.WideElems.Trod_stays vj2 vkq viq h0 (qyb hg' A1) rT) trodAll_mk0;simp only[List.append_nil]at this
   exact this) (λ_ _=>rfl) (by simp)
  hg' (ok_one (by kernel_rfl) rfl (okWide_bool_mk Tryz.underlying4 _))⟩
end Go.Proofs.YtmepkbgodcffoaaGreatDoor.fnAll
