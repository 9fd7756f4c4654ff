/- A part of the proof. -/
import Derived.Test.YtilkdeghknjjhaaGreatDoorPart24
set_option maxRecDepth 20000
set_option maxHeartbeats 3200000
set_option linter.unusedVariables false
namespace Go.Proofs.YtilkdeghknjjhaaGreatDoor
open Go.RowKit M
theorem infoOpt : (Tryz.prog.info? 23).map (·.size) = some 3:=by kernel_rfl
theorem result_opt (tmps : Array Value) (w : World) (g : Nat) (v1 v2 v3 : Value) (h2 : tmps.getD 2 undef = .pointer (some ⟨g,0,none⟩)) (hg : w.heap[g]? = some (.cells #[v1,v2,v3] 23 (0,0))) :
  (results Tryz.f59 tmps).run Tryz.prog w = .ok (.agg #[v1,v2,v3]) w:=by
 have hl:=run_loadVar_row (P:=Tryz.prog) w g 23 23 #[v1,v2,v3] (0,0) _ hg Tryz.underlying23 rfl infoOpt
 have h2' : tmps[2]?.getD undef = .pointer (some ⟨g,0,none⟩):=by simpa using h2
 simp [results,Tryz.results59,h2',asAddr,hl]
theorem pickF_rng (c n : Int) (h : 1<=n) : 0<=pickF c n/\pickF c n < n:=by
 unfold pickF;exact ⟨Int.emod_nonneg _ (by omega),Int.emod_lt_of_pos _ (by omega)⟩
def R64 (c : Int) : Prop:=-9223372036854775808<=c/\c<=9223372036854775807
theorem bent_any (n e r : Int) (w : World) (h1 : R64 n) (h2 : R64 e) (h3 : R64 r) :
  Calls Tryz.prog 59 #[.agg #[.int .i64 n,.int .i64 e,.int .i64 r]] w fun en w'=>en = .returned (.agg #[.int .i64 (pickF n 16),.int .i64 (pickF e 101),.int .i64 (400 + pickF r 99601)])/\Below w.heap.size w w':=by
 have HP1 : Hid (∀ w',Calls Tryz.prog 102 #[.int .i64 n,.int .i64 16] w' fun e w''=>e = .returned (.int .i64 (pickF n 16))/\w'' = w'):=fun w'=>pick_any _ _ w' h1.1 h1.2 (by omega) (by omega)
 have HP2 : Hid (∀ w',Calls Tryz.prog 102 #[.int .i64 e,.int .i64 101] w' fun en w''=>en = .returned (.int .i64 (pickF e 101))/\w'' = w'):=fun w'=>pick_any _ _ w' h2.1 h2.2 (by omega) (by omega)
 have HP3 : Hid (∀ w',Calls Tryz.prog 102 #[.int .i64 r,.int .i64 99601] w' fun e w''=>e = .returned (.int .i64 (pickF r 99601))/\w'' = w'):=fun w'=>pick_any _ _ w' h3.1 h3.2 (by omega) (by omega)
 have hr1:=pickF_rng r 99601 (by omega)
 obtain ⟨x1,hx1⟩ : ∃ x,pickF n 16 = x:=⟨_,rfl⟩
 obtain ⟨x2,hx2⟩ : ∃ x,pickF e 101 = x:=⟨_,rfl⟩
 obtain ⟨x3,hx3⟩ : ∃ x,pickF r 99601 = x:=⟨_,rfl⟩
 rw [hx1] at HP1
 rw [hx2] at HP2
 rw [hx3] at HP3 hr1
 rw [hx1,hx2,hx3]
 obtain ⟨r0,r1⟩:=hr1
 clear hx1 hx2 hx3 h1 h2 h3
 go_enter Tryz.func59,Tryz.ntmps59
 go_upto_region 1 with (fail)
 obtain ⟨W,hW,hb,t0,t1,t2,hg⟩ : ∃ W,((w.alloc (.cells #[.int .i64 n,.int .i64 e,.int .i64 r] 23)).alloc (.cells #[.int .i64 0,.int .i64 0,.int .i64 0] 23)) = W/\Below w.heap.size w W /\
   W.cell? ⟨w.heap.size,0,none⟩ = some (.int .i64 n)/\W.cell? ⟨w.heap.size,1,none⟩ = some (.int .i64 e)/\W.cell? ⟨w.heap.size,2,none⟩ = some (.int .i64 r)/\W.heap[w.heap.size + 1]? = some (.cells #[.int .i64 0,.int .i64 0,.int .i64 0] 23 (0,0)) :=
  ⟨_,rfl,((Below.refl _ _).alloc (Nat.le_refl _) _).alloc (by simp) _,by simp [go_sem],by simp [go_sem],by simp [go_sem],heap_alloc2_new w _ _⟩
 rw [hW]
 have c0 : W.cell? ⟨w.heap.size + 1,0,none⟩ = some (.int .i64 0):=by rw [cell_of_row _ _ _ _ _ _ hg];rfl
 have c1 : W.cell? ⟨w.heap.size + 1,1,none⟩ = some (.int .i64 0):=by rw [cell_of_row _ _ _ _ _ _ hg];rfl
 have c2 : W.cell? ⟨w.heap.size + 1,2,none⟩ = some (.int .i64 0):=by rw [cell_of_row _ _ _ _ _ _ hg];rfl
 have z0 : ∀ o,W.frozen? ⟨w.heap.size + 1,o,none⟩ = false:=fun o=>frozen_of_row _ _ _ _ _ hg
 have HG : Hid (W.heap[w.heap.size + 1]? = some (.cells #[.int .i64 0,.int .i64 0,.int .i64 0] 23 (0,0))):=hg
 clear hW hg
 go_region_with (first
  | (go_at_call_of 102 (Value.int IntKind.i64 n);refine (HP1.out _).mono ?_;rintro en w' ⟨rfl,rfl⟩)
  | (go_at_call_of 102 (Value.int IntKind.i64 e);refine (HP2.out _).mono ?_;rintro en w' ⟨rfl,rfl⟩)
  | (go_at_call_of 102 (Value.int IntKind.i64 r);refine (HP3.out _).mono ?_;rintro en w' ⟨rfl,rfl⟩))
 all_goals
  go_wp2_with fail
  refine bodyPost_ret (result_opt _ _ (w.heap.size + 1) (.int .i64 x1) (.int .i64 x2) (.int .i64 (400 + x3)) rfl ?_) rfl ⟨rfl,?_⟩
  ·refine (heap_setCell_self (heap_setCell_self (heap_setCell_self HG.out 0 _) 1 _) 2 _).trans ?_
   first | rfl | (rw [wrap_in (400 + x3) (by omega) (by omega)];rfl)
  ·repeat (first | exact hb | refine Below.setCell ?_ (by simp) _ | refine Below.drew ?_)
end Go.Proofs.YtilkdeghknjjhaaGreatDoor
