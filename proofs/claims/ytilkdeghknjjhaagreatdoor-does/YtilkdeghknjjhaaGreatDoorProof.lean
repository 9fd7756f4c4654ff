/- Does (P6, P7, P8): with two stores of any options on two disks of any size, and any script of plain steps, each call of Open, Get, Put, Delete, Counter, Keys, Sync and Close is answered as the document says, and each list that comes out goes on reading as its owner left it. Condition: all that comes in is at most 1048576 in bulk (the second form of the row). -/
import Derived.Test.YtilkdeghknjjhaaGreatDoorPart55
import Derived.JoinedCond
set_option maxRecDepth 20000
set_option maxHeartbeats 3200000
set_option linter.unusedVariables false
namespace Go.Proofs.YtilkdeghknjjhaaGreatDoor.PlayRow
open Go.ChangeShapes Go.WideShapes Go.ChangeAt Go.RowKit
set_option maxRecDepth 1000000 in
theorem does_laid (os : Os) (args : Array Value) : laidMet Tryz.prog Rows.doesUptoRow.laid ((laidWorld os).forCall (fun _ _=>0) ⟨#[],args,[]⟩).memory :=
 (LaidIn.of_run [0,1,2,3,4,N0,N0 + 1] 8 (by kernel_rfl) (by kernel_rfl) (by kernel_rfl) (by kernel_rfl)).met
theorem does_witness (os : Os) {H : Type} (enc : TypeId × Value->H) :
  (Rows.OpenSpec.upto Rows.doesSpec).preRow enc Tryz.prog Tryz.f3 Rows.doesUptoRow.domain false Rows.doesUptoRow.laid ((laidWorld os).forCall (fun _ _=>0) ⟨#[],WA,[]⟩).memory WA:=by
 have hw : (DataW.whole enc Tryz.prog ((laidWorld os).forCall (fun _ _=>0) ⟨#[],WA,[]⟩).memory Tryz.f3.params.toList Rows.doesSpec.vars false WA.toList 8).map (fun x=>(x.1,x.2.1)) =
   some ([.lit (.int .i64 0),.agg [.lit (.int .i64 0),.lit (.int .i64 0),.lit (.int .i64 0)],.agg [.lit (.int .i64 0),.lit (.int .i64 0),.lit (.int .i64 0)],.nil],[]):=by kernel_rfl
 obtain ⟨⟨x1,x2,x3⟩,hx,hx1⟩:=Option.map_eq_some_iff.1 hw
 simp only [Prod.mk.injEq] at hx1
 obtain ⟨rfl,rfl⟩:=hx1
 exact OpenSpec.preRow_of_cond 8 hx (by kernel_rfl) (fun k hk=>by
  obtain rfl : Rows.uptoSmall = k:=Option.some.inj hk
  simp [Rows.uptoSmall,Rows.uptoBulkAll,Rows.uptoBulk]) (by kernel_rfl) (does_laid os _)
set_option maxRecDepth 100000 in
theorem does_lifted (os : Os) (started : os.Started) (H : Type) (enc : TypeId × Value->H) (F : Stop.Interp) :
  ReturnsInHanded {} Tryz.checked os 3 .any ((Rows.OpenSpec.upto Rows.doesSpec).preRow enc Tryz.prog Tryz.f3 Rows.doesUptoRow.domain false Rows.doesUptoRow.laid) (((Rows.OpenSpec.upto Rows.doesSpec).at F).post enc Tryz.prog Tryz.f3 false true false false):=by
 refine returnsInHanded_of_row (C:=Tryz.checked) (s:=Rows.OpenSpec.upto Rows.doesSpec) own started (by kernel_rfl) Tryz.func3
  (witness_row_atRef (enc:=enc) (C:=Tryz.checked) false (laidWorld os) WA rfl (by kernel_rfl) (by kernel_rfl) (by kernel_rfl) (does_witness os enc)) ?_
 intro W base args ds gs before hval0 hW _ hcond _ hL _ _
 have hval : ∀ (j : Nat) t v,Tryz.f3.params[j]? = some t->args[j]? = some v->Value.okWide Tryz.prog W .any base t v:=hval0
 have hW':=hW
 obtain ⟨p,q,hA0,hV,rfl,hfz,hnd⟩:=hW
 have hA : DataW.TrodAll enc Tryz.prog W 0 (fun _=>true) true Tryz.f3.params.toList args.toList ds p:=hA0
 rw [Tryz.params3] at hA hval
 obtain ⟨v0,vs0,d0,ds0,p0,q0,hargs,rfl,rfl,h0,r0⟩:=trodAll_cons hA
 obtain ⟨v1,vs1,d1,ds1,p1,q1,rfl,rfl,rfl,h1,r1⟩:=trodAll_cons r0
 obtain ⟨v2,vs2,d2,ds2,p2,q2,rfl,rfl,rfl,h2,r2⟩:=trodAll_cons r1
 obtain ⟨v3,vs3,d3,ds3,p3,q3,rfl,rfl,rfl,h3,r3⟩:=trodAll_cons r2
 obtain ⟨rfl,rfl,rfl⟩:=trodAll_nil r3
 obtain rfl : args = #[v0,v1,v2,v3]:=by cases args;simp_all
 obtain ⟨rfl,rfl⟩:=trodVars_none hV
 obtain ⟨a0,rfl,rfl,rfl,w0⟩:=open_int Tryz.underlying3 (hval 0 3 v0 rfl rfl) h0
 have k1:=h1
 have k2:=h2
 have k3:=h3
 have lt1 : ∀ x ∈ p1,x.block < W.heap.size:=by obtain ⟨m,hm⟩:=k1;exact DataW.trod_lt m _ _ _ hm
 have lt2 : ∀ x ∈ p2,x.block < W.heap.size:=by obtain ⟨m,hm⟩:=k2;exact DataW.trod_lt m _ _ _ hm
 have lt3 : ∀ x ∈ p3,x.block < W.heap.size:=by obtain ⟨m,hm⟩:=k3;exact DataW.trod_lt m _ _ _ hm
 obtain ⟨n,e,r,rfl,g1,g2,g3⟩:=open_opt h1
 obtain ⟨n',e',r',rfl,g4,g5,g6⟩:=open_opt h2
 obtain ⟨a3,len3,cap3,rfl⟩:=okWide_slice Tryz.underlying24 (hval 3 24 v3 rfl rfl)
 have hsm : Rows.uptoBulk d3<=1048576:=by
  have:=of_decide_eq_true (hcond Rows.uptoSmall rfl)
  exact Nat.le_trans (bulk_mem (by simp)) this
 have g7 : ∃ os,Scr W W.heap.size (.slice a3 len3 cap3) os/\os.length<=110000:=by
  obtain ⟨fuel,hf⟩:=h3
  exact open_ops (x:=(d3,p3)) (by simpa [Value.cells] using hf) hsm
 obtain ⟨os',hs,hl⟩:=g7
 obtain ⟨b0,b1⟩:=bounds_i64 w0
 have hvs:=vars_of hL
 clear hA0 hval0
 refine (does_any a0 n e r n' e' r' b0 b1 g1 g2 g3 g4 g5 g6 W hvs _ os' hs hl).mono fun en W' ⟨he,bel⟩=>?_
 subst he
 exact ⟨_,rfl,_,_,_,[],_,[],hW',trodAll_mk1 (shut_bool Tryz.underlying4 _),(trodAll_cons_mk (shut_int Tryz.underlying3 w0) (trodAll_cons_mk (Below.trod laidOut (by kernel_rfl) (of_decide_eq_true (by kernel_rfl)) k1 bel lt1) (trodAll_cons_mk (Below.trod laidOut (by kernel_rfl) (of_decide_eq_true (by kernel_rfl)) k2 bel lt2)
  (trodAll_cons_mk (Below.trod laidOut (by kernel_rfl) (of_decide_eq_true (by kernel_rfl)) k3 bel lt3) trodAll_mk0)))),rfl,bel.frame _,fun h=>by cases h⟩
def doesRow0 : OpenClaim:={ Rows.doesUptoRow with leaving:=false }
theorem does_closed : joinedFacts Tryz.pinned.checked.prog 3 Tryz.f3 (Rows.OpenSpec.upto Rows.doesSpec).bare doesRow0 = true:=by kernel_rfl
theorem does_name : Tryz.pinned.checked.prog.funcNamed doesRow0.func = some 3:=by kernel_rfl
theorem does_inst : Tryz.f3.isInstance Tryz.pinned.checked.prog doesRow0.origin doesRow0.targs:=of_decide_eq_true (by kernel_rfl)
theorem does_wrap : Tryz.f3.isWrapper Tryz.pinned.checked.prog doesRow0.wrapper doesRow0.mainSum:=by
 unfold Func.isWrapper;first | (rw [if_pos (by decide +kernel)];kernel_rfl) | (rw [if_neg (by decide +kernel)];exact ⟨rfl,rfl⟩)
theorem does_wf : Rows.doesUptoRow.wf (Rows.OpenSpec.upto Rows.doesSpec) = true:=by kernel_rfl
theorem does_form (os : Os) (started : os.Started) (H : Type) (enc : TypeId × Value->H) (F : Stop.Interp) :
  ReturnsInHanded doesRow0.assume Tryz.pinned.checked os 3 .any (doesRow0.pre enc Tryz.pinned.checked.prog Tryz.f3 (Rows.OpenSpec.upto Rows.doesSpec)) (((Rows.OpenSpec.upto Rows.doesSpec).at F).post enc Tryz.pinned.checked.prog Tryz.f3 doesRow0.apart doesRow0.fresh doesRow0.handsOn doesRow0.again):=by
 rw [OpenClaim.pre_eq_preRow];exact does_lifted os started H enc F
set_option maxRecDepth 100000 in
theorem does_row0 : doesRow0.holds Tryz.pinned (Rows.OpenSpec.upto Rows.doesSpec) :=
 OpenClaim.holds_of_cond 3 Tryz.f3 rfl rfl rfl rfl rfl rfl rfl ⟨rfl,rfl,rfl,rfl,rfl⟩ rfl rfl rfl rfl rfl does_name Tryz.func3 does_closed does_inst does_wrap (fun os started H enc _ F=>does_form os started H enc F)
set_option maxRecDepth 100000 in
theorem does_said : Rows.DoesUptoSaid :=
 leaving_row rfl rfl rfl rfl rfl does_wf does_row0
theorem does_plain (f : FuncId) (fn : Func) (hf : Tryz.pinned.checked.prog.funcNamed "burrow/burrowlaw.Does" = some f) (hfn : Tryz.pinned.checked.prog.funcs[f]? = some fn) :
  true = Tryz.pinned.checked.prog.looks []/\∀ (j : Nat) t,fn.params[j]? = some t->Tryz.pinned.checked.prog.wantsStandIn t = false:=by
 obtain rfl : f = 3 := Option.some.inj ((show Tryz.prog.funcNamed "burrow/burrowlaw.Does" = some 3 by kernel_rfl).symm.trans hf) |>.symm
 obtain rfl : fn = Tryz.f3:=(Option.some.inj (Tryz.func3.symm.trans hfn)).symm
 refine ⟨by kernel_rfl,fun j t ht=>?_⟩
 rw [Tryz.params3] at ht
 have h : t = 3\/t = 23\/t = 24:=by have:=Array.mem_of_getElem? ht;simp at this;omega
 rcases h with rfl | rfl | rfl
 ·exact (show Tryz.prog.wantsStandIn 3 = false by kernel_rfl)
 ·exact (show Tryz.prog.wantsStandIn 23 = false by kernel_rfl)
 ·exact (show Tryz.prog.wantsStandIn 24 = false by kernel_rfl)
theorem does_proved : Rows.DoesUptoCardSaid :=
 card_goes .later _ _ _ _ does_said (by kernel_rfl) doesUpto_row_tie rfl ⟨rfl,rfl⟩ (by kernel_rfl) rfl does_plain (by kernel_rfl)
#print axioms does_proved
end Go.Proofs.YtilkdeghknjjhaaGreatDoor.PlayRow
