/- The contract of Canons, as its row asks for it. -/
import Derived.Test.YtfkcaldjphakpaaGreatDoorXCsV
import Derived.Test.YtfkcaldjphakpaaGreatDoorM44
import Derived.Test.YtfkcaldjphakpaaGreatDoorM43
import Derived.ChangeMaps5
import Derived.MakeChecks
namespace Go.Proofs.YtfkcaldjphakpaaGreatDoor.fnCanons
open Go.ChangeShapes Go.WideShapes Go.ChangeAt Go.RowKit
theorem jj1 {H:Type} {enc:TypeId×Value→H} {P:Program} {f:Func} {s:ChangeSpec} {apart fresh handsOn again:Bool} {W W':World} {args:Array Value} {v:Value} {ds gs:List (DataW H)} {before pa pv:List MemPlace}
  (hW:DataW.Whole enc P f.params.toList s.vars apart W args.toList ds gs before)
  (hres:∀(b:Nat) (sp:Nat→Bool) (hd:Bool),DataW.TrodAll enc P W' b sp hd f.resultTypes.toList (v.resultList f.resultTypes.size) (s.fn H (ds++gs)).results [])
  (hargs:∀sp:Nat→Bool,(∀p∈before,sp p.block=true)→DataW.TrodAll enc P W' 0 sp true f.params.toList args.toList (s.fn H (ds++gs)).args pa)
  (hvars:∀sp:Nat→Bool,(∀p∈before,sp p.block=true)→DataW.TrodVars enc P W' sp s.vars (s.fn H (ds++gs)).vars pv)
  (hps:before=pa++pv) (hb:Below W.heap.size W W')
  (hok:∀(j:Nat) (t:TypeId) (r:Value),f.resultTypes[j]?=some t→(v.resultList f.resultTypes.size)[j]?=some r→Value.okWide P W' .any 0 t r) :
  s.post enc P f apart fresh handsOn again W args v W':=by
 have hold:∀p∈before,p.block<W.heap.size:=fun p hp=>hW.lt p hp
 refine ⟨ds,gs,before,[],pa,pv,hW,hres _ _ _,hargs _ (fun p hp=>by simpa using hold p hp),hvars _ (fun p hp=>by simpa using hold p hp),World.keptBut_mono (fun p hp=>⟨hp,Or.inr (by rw [hps,List.mem_append] at hp;simpa using hp)⟩) (hb.frame (·∈before)),fun _=>?_⟩
 obtain ⟨_,_,_,_,_,hz,hn⟩:=hW
 refine ⟨hok,_,_,([]++pa)++pv,⟨[]++pa,pv,trodAll_append (hargs _ (fun _ _=>rfl)) (hres _ _ _),hvars _ (fun _ _=>rfl),rfl, ?_,fun ha=>by have:=hn ha;rw [hps] at this;simpa using this⟩,fun p hp _=>by rw [hps];simpa using hp⟩
 intro b off hp
 have hm:(MemPlace.cell b off)∈before:=by rw [hps];simpa using hp
 rw [hb.frozen (p:=⟨b,off,none⟩) (hold _ hm)]
 exact hz b off hm
theorem jm8 {W W':World} (hb:Below W.heap.size W W') {ps:List MemPlace} (h:∀p∈ps,p.block<W.heap.size):∀p∈ps,W.sameAt W' p:=by
 intro p hp
 have hl:=h p hp
 cases p with
 | cell b off=>exact hb.cell (p:=⟨b,off,none⟩) hl
 | map b=>exact hb.block b hl
theorem err_ok {W:World} (h:laidMetH Tryz.prog Rows.canonsRow.laid W):ErrOk W:=by
 rw [MakeChecks.laidMetH_plain _ _ _ (by kernel_rfl)] at h
 exact err_of (by simp [Rows.canonsRow]) h
theorem laid_out:laidOutB Tryz.prog=true:=by kernel_rfl
theorem readable:Tryz.prog.readableRec 22=true:=by kernel_rfl
theorem in_types:22<Tryz.prog.types.size:=of_decide_eq_true (by kernel_rfl)
set_option maxRecDepth 100000 in
theorem lib_ok {W:World} (h:laidMetH Tryz.prog Rows.canonsRow.laid W) (hS:W.ShapedOpen Tryz.prog):LibOk W:=by
 have he:=err_ok h
 rw [MakeChecks.laidMetH_plain _ _ _ (by kernel_rfl)] at h
 exact ⟨he,max_ok hS,pow_ok (by simp [Rows.canonsRow]) h⟩
set_option maxRecDepth 100000 in
theorem contract (H:Type) (enc:TypeId×Value→H) (W:World) (base:Nat) (args:Array Value) (ds gs:List (DataW H)) (before:List MemPlace)
  (hval:∀(j:Nat) t v,Tryz.f8.params[j]?=some t→args[j]?=some v→Value.okWide Tryz.prog W .any base t v)
  (hW:DataW.Whole enc Tryz.prog Tryz.f8.params.toList Rows.canonsSpec.vars false W args.toList ds gs before)
  (hz:(DataW.weightsEach Tryz.prog (Tryz.f8.params.toList++Rows.canonsSpec.plain.varTypes Tryz.prog) (ds++gs)).all (·≤reachBytes)=true) (hL:laidMetH Tryz.prog Rows.canonsRow.laid W) (hS:W.ShapedOpen Tryz.prog) :
  Calls Tryz.prog 8 args W fun e W'=>∃v,e=.returned v∧Rows.canonsSpec.post enc Tryz.prog Tryz.f8 false true false false W args v W':=by
 have hW':=hW
 obtain ⟨p,q,hA0,hV,rfl,hfz,hnd⟩:=hW
 have hA:DataW.TrodAll enc Tryz.prog W 0 (fun _=>true) true Tryz.f8.params.toList args.toList ds p:=hA0
 rw [Tryz.params8] at hA hval hz
 obtain ⟨v0,vs0,d0,ds0,p0,q0,hargs,rfl,rfl,h0,r0⟩:=trodAll_cons hA
 obtain ⟨rfl,rfl,rfl⟩:=trodAll_nil r0
 obtain rfl:args=#[v0]:=by cases args;simp_all
 obtain ⟨rfl,rfl⟩:=trodVars_none hV
 have zw:∀n∈d0.weights Tryz.prog 22,n≤reachBytes:=fun n hn=>by
  have:=List.all_eq_true.1 hz n (DataW.weights_mem_each (j:=0) (t:=22) rfl rfl n hn)
  simpa using this
 obtain ⟨l,hl⟩:=open_ops (hval 0 22 v0 rfl rfl) h0 zw
 clear hA0
 simp only [List.append_nil] at hW'
 have walk:=jg7 W v0 l hl (lib_ok hL hS)
 refine walk.mono fun e W' ⟨he,hg'⟩=>?_
 subst he
 have hlt:∀p∈p0,p.block<W.heap.size:=fun p hp=>hW'.lt p hp
 exact ⟨_,rfl,jj1 (pa:=p0) (pv:=[]) hW' (fun _ _ _=>trodAll_cons_mk (shut_bool Tryz.underlying4 _) trodAll_mk0) (fun sp hsp=>by
   have:=trodAll_cons_mk (Go.WideElems.Trod_stays laid_out readable in_types h0 (jm8 hg' hlt) hsp) trodAll_mk0
   simp only [List.append_nil] at this
   exact this) (fun _ _=>rfl) (by simp)
  hg' (ok_one (by kernel_rfl) rfl (okWide_bool_mk Tryz.underlying4 _))⟩
end Go.Proofs.YtfkcaldjphakpaaGreatDoor.fnCanons
