/- A part of the proof. -/
import Derived.Test.YtilkdeghknjjhaaGreatDoorPart51
set_option maxRecDepth 20000
set_option maxHeartbeats 3200000
set_option linter.unusedVariables false
namespace Go.Proofs.YtilkdeghknjjhaaGreatDoor
open Go.RowKit M Go.Maps
variable {w : World} {q b0 b1 b x : Nat} {P : Ending->World->Prop}
theorem infoOp : (Tryz.prog.info? 77).map (·.size) = some 9:=by kernel_rfl
def Sides (w : World) (q b0 b1 : Nat) : Prop:=∀ X,Below w.heap.size w X->X.cell? ⟨q,0,none⟩ = some (.pointer (some ⟨b0,0,none⟩))/\X.cell? ⟨q,1,none⟩ = some (.pointer (some ⟨b1,0,none⟩))
theorem WoR.sides {W : Nat->Prop} {c : Nat} (h : WoR W w q b0 b1 c) : Sides w q b0 b1:=fun X hX=>by
 obtain ⟨L,M,v,u,h1,_⟩:=h.below hX
 exact ⟨by rw [cell_of_row _ _ _ _ _ _ h1.hp];rfl,by rw [cell_of_row _ _ _ _ _ _ h1.hp];rfl⟩
theorem step_happens (K : Int) (hK : K = 8\/K = 9\/K = 10\/K = 11) (oo : Bool) (ok ov oc : ByteArray) (ol : Bool) (oA oB : Int) (on : Value) (hb : (if oo = true then b1 else b0) = b) (hq : Sides w q b0 b1)
  (HC : Hid (∀ X,Below w.heap.size w X->Calls Tryz.prog 62 #[.pointer (some ⟨q,0,none⟩),.pointer (some ⟨b,0,none⟩),.agg #[.int .i64 K,.bool oo,.string ok,.string ov,.string oc,.bool ol,.int .i64 oA,.int .i64 oB,on]] X P)) (HP : Hid (∀ e w',P e w'->e = .returned (.bool true))) :
  Calls Tryz.prog 35 #[.pointer (some ⟨q,0,none⟩),.agg #[.int .i64 K,.bool oo,.string ok,.string ov,.string oc,.bool ol,.int .i64 oA,.int .i64 oB,on]] w P:=by
 obtain ⟨X,hX,HB,Hrow⟩ : ∃ X,w.alloc (.cells #[.int .i64 K,.bool oo,.string ok,.string ov,.string oc,.bool ol,.int .i64 oA,.int .i64 oB,on] 77) = X/\Hid (Below w.heap.size w X)/\Hid (OpAt X w.heap.size ⟨K,oo,ok,ov,oc,ol,oA,oB,on⟩) :=
  ⟨_,rfl,(Below.refl _ _).alloc (Nat.le_refl _) _,heap_alloc_new w _⟩
 obtain ⟨q0,q1⟩:=hq X HB.out
 obtain ⟨x0,_⟩:=Hrow.out.cells
 have x1 : X.cell? ⟨w.heap.size,1,none⟩ = some (.bool oo):=by rw [cell_of_row _ _ _ _ _ _ Hrow.out];rfl
 have HC2:=HC.out X HB.out
 have Hb : Hid ((if oo = true then b1 else b0) = b):=hb
 clear hq HC hb
 rcases hK with rfl | rfl | rfl | rfl
 all_goals
  go_enter Tryz.func35,Tryz.ntmps35
  go_upto_if 14 with (fail)
  go_cut [5] from 15 to 19 (fun v5 wx=>v5 = .pointer (some ⟨b,0,none⟩)/\wx = X)
  case first =>
   cases oo
   ·have hb : b0 = b:=Hb.out
    subst hb
    go_wp2
    go_meet
    exact ⟨rfl,rfl⟩
   ·have hb : b1 = b:=Hb.out
    subst hb
    go_wp2
    go_meet
    exact ⟨rfl,rfl⟩
  case rest =>
   obtain ⟨rfl,hwc⟩:=hcut
   subst hwc
   go_wp2_with (first
    | (refine wpList_load_row rfl 77 _ rfl w.heap.size rfl 77 _ (0,0) _ Hrow.out Tryz.underlying77 rfl infoOp ?_)
    | fail)
   refine HC2.mono ?_
   intro e w2 hP
   have he:=HP.out e w2 hP
   subst he
   have HF : Hid (P (.returned (.bool true)) w2):=hP
   clear hP HC2
   go_wp2
   exact HF.out
theorem step_none (K : Int) (n8 : ¬ K = 8) (n9 : ¬ K = 9) (n10 : ¬ K = 10) (n11 : ¬ K = 11) (n13 : ¬ K = 13) (oo : Bool) (ok ov oc : ByteArray) (ol : Bool) (oA oB : Int) (on : Value) (hb : (if oo = true then b1 else b0) = b) (hq : Sides w q b0 b1) (HX4 : Hid (∀ X,Below w.heap.size w X->X.cell? ⟨b,4,none⟩ = some (.pointer none))) (HP : Hid (∀ X,Below w.heap.size w X->P (.returned (.bool true)) X)) :
  Calls Tryz.prog 35 #[.pointer (some ⟨q,0,none⟩),.agg #[.int .i64 K,.bool oo,.string ok,.string ov,.string oc,.bool ol,.int .i64 oA,.int .i64 oB,on]] w P:=by
 obtain ⟨X,hX,HB,Hrow⟩ : ∃ X,w.alloc (.cells #[.int .i64 K,.bool oo,.string ok,.string ov,.string oc,.bool ol,.int .i64 oA,.int .i64 oB,on] 77) = X/\Hid (Below w.heap.size w X)/\Hid (OpAt X w.heap.size ⟨K,oo,ok,ov,oc,ol,oA,oB,on⟩) :=
  ⟨_,rfl,(Below.refl _ _).alloc (Nat.le_refl _) _,heap_alloc_new w _⟩
 obtain ⟨q0,q1⟩:=hq X HB.out
 obtain ⟨x0,x2,_⟩:=Hrow.out.cells
 have x1 : X.cell? ⟨w.heap.size,1,none⟩ = some (.bool oo):=by rw [cell_of_row _ _ _ _ _ _ Hrow.out];rfl
 have hx:=HX4.out X HB.out
 have Hb : Hid ((if oo = true then b1 else b0) = b):=hb
 have HF : Hid (P (.returned (.bool true)) X):=HP.out X HB.out
 clear hq hb HX4 HP
 ·go_enter Tryz.func35,Tryz.ntmps35
  go_upto_if 14 with (fail)
  go_cut [5] from 15 to 19 (fun v5 wx=>v5 = .pointer (some ⟨b,0,none⟩)/\wx = X)
  case first =>
   cases oo
   ·have hb : b0 = b:=Hb.out
    subst hb
    go_wp2
    go_meet
    exact ⟨rfl,rfl⟩
   ·have hb : b1 = b:=Hb.out
    subst hb
    go_wp2
    go_meet
    exact ⟨rfl,rfl⟩
  case rest =>
   obtain ⟨rfl,hwc⟩:=hcut
   subst hwc
   go_wp2
   exact HF.out
theorem step_other (K : Int) (n1 : ¬ K = 1) (n2 : ¬ K = 2) (n3 : ¬ K = 3) (n4 : ¬ K = 4) (n5 : ¬ K = 5) (n6 : ¬ K = 6) (n7 : ¬ K = 7) (n8 : ¬ K = 8) (n9 : ¬ K = 9) (n10 : ¬ K = 10) (n11 : ¬ K = 11) (n12 : ¬ K = 12) (n13 : ¬ K = 13) (oo : Bool) (ok ov oc : ByteArray) (ol : Bool) (oA oB : Int) (on : Value) (hb : (if oo = true then b1 else b0) = b) (hq : Sides w q b0 b1) (HX4 : Hid (∀ X,Below w.heap.size w X->X.cell? ⟨b,4,none⟩ = some (.pointer (some ⟨x,0,none⟩)))) (HP : Hid (∀ X,Below w.heap.size w X->P (.returned (.bool true)) X)) :
  Calls Tryz.prog 35 #[.pointer (some ⟨q,0,none⟩),.agg #[.int .i64 K,.bool oo,.string ok,.string ov,.string oc,.bool ol,.int .i64 oA,.int .i64 oB,on]] w P:=by
 obtain ⟨X,hX,HB,Hrow⟩ : ∃ X,w.alloc (.cells #[.int .i64 K,.bool oo,.string ok,.string ov,.string oc,.bool ol,.int .i64 oA,.int .i64 oB,on] 77) = X/\Hid (Below w.heap.size w X)/\Hid (OpAt X w.heap.size ⟨K,oo,ok,ov,oc,ol,oA,oB,on⟩) :=
  ⟨_,rfl,(Below.refl _ _).alloc (Nat.le_refl _) _,heap_alloc_new w _⟩
 obtain ⟨q0,q1⟩:=hq X HB.out
 obtain ⟨x0,x2,_⟩:=Hrow.out.cells
 have x1 : X.cell? ⟨w.heap.size,1,none⟩ = some (.bool oo):=by rw [cell_of_row _ _ _ _ _ _ Hrow.out];rfl
 have hx:=HX4.out X HB.out
 have Hb : Hid ((if oo = true then b1 else b0) = b):=hb
 have HF : Hid (P (.returned (.bool true)) X):=HP.out X HB.out
 clear hq hb HX4 HP
 ·go_enter Tryz.func35,Tryz.ntmps35
  go_upto_if 14 with (fail)
  go_cut [5] from 15 to 19 (fun v5 wx=>v5 = .pointer (some ⟨b,0,none⟩)/\wx = X)
  case first =>
   cases oo
   ·have hb : b0 = b:=Hb.out
    subst hb
    go_wp2
    go_meet
    exact ⟨rfl,rfl⟩
   ·have hb : b1 = b:=Hb.out
    subst hb
    go_wp2
    go_meet
    exact ⟨rfl,rfl⟩
  case rest =>
   obtain ⟨rfl,hwc⟩:=hcut
   subst hwc
   go_wp2
   exact HF.out
theorem step_get (K : Int) (hK : K = 2) (oo : Bool) (ok ov oc : ByteArray) (ol : Bool) (oA oB : Int) (on : Value) (hb : (if oo = true then b1 else b0) = b) (hq : Sides w q b0 b1) (HX4 : Hid (∀ X,Below w.heap.size w X->X.cell? ⟨b,4,none⟩ = some (.pointer (some ⟨x,0,none⟩))))
  (HC : Hid (∀ X,Below w.heap.size w X->Calls Tryz.prog 63 #[.pointer (some ⟨q,0,none⟩),.pointer (some ⟨b,0,none⟩),.string ok] X P)) (HP : Hid (∀ e w',P e w'->e = .returned (.bool true))) :
  Calls Tryz.prog 35 #[.pointer (some ⟨q,0,none⟩),.agg #[.int .i64 K,.bool oo,.string ok,.string ov,.string oc,.bool ol,.int .i64 oA,.int .i64 oB,on]] w P:=by
 obtain ⟨X,hX,HB,Hrow⟩ : ∃ X,w.alloc (.cells #[.int .i64 K,.bool oo,.string ok,.string ov,.string oc,.bool ol,.int .i64 oA,.int .i64 oB,on] 77) = X/\Hid (Below w.heap.size w X)/\Hid (OpAt X w.heap.size ⟨K,oo,ok,ov,oc,ol,oA,oB,on⟩) :=
  ⟨_,rfl,(Below.refl _ _).alloc (Nat.le_refl _) _,heap_alloc_new w _⟩
 obtain ⟨q0,q1⟩:=hq X HB.out
 obtain ⟨x0,x2,_⟩:=Hrow.out.cells
 have x1 : X.cell? ⟨w.heap.size,1,none⟩ = some (.bool oo):=by rw [cell_of_row _ _ _ _ _ _ Hrow.out];rfl
 have hx:=HX4.out X HB.out
 have Hb : Hid ((if oo = true then b1 else b0) = b):=hb
 have HC2:=HC.out X HB.out
 clear hq hb HX4 HC
 subst hK
 ·go_enter Tryz.func35,Tryz.ntmps35
  go_upto_if 14 with (fail)
  go_cut [5] from 15 to 19 (fun v5 wx=>v5 = .pointer (some ⟨b,0,none⟩)/\wx = X)
  case first =>
   cases oo
   ·have hb : b0 = b:=Hb.out
    subst hb
    go_wp2
    go_meet
    exact ⟨rfl,rfl⟩
   ·have hb : b1 = b:=Hb.out
    subst hb
    go_wp2
    go_meet
    exact ⟨rfl,rfl⟩
  case rest =>
   obtain ⟨rfl,hwc⟩:=hcut
   subst hwc
   go_wp2_with fail
   refine HC2.mono ?_
   intro e w2 hP
   have he:=HP.out e w2 hP
   subst he
   have HF : Hid (P (.returned (.bool true)) w2):=hP
   clear hP HC2
   go_wp2
   exact HF.out
theorem step_changes (K : Int) (hK : K = 1\/K = 3) (oo : Bool) (ok ov oc : ByteArray) (ol : Bool) (oA oB : Int) (on : Value) (hb : (if oo = true then b1 else b0) = b) (hq : Sides w q b0 b1) (HX4 : Hid (∀ X,Below w.heap.size w X->X.cell? ⟨b,4,none⟩ = some (.pointer (some ⟨x,0,none⟩))))
  (HC : Hid (∀ X,Below w.heap.size w X->Calls Tryz.prog 64 #[.pointer (some ⟨b,0,none⟩),.agg #[.int .i64 K,.bool oo,.string ok,.string ov,.string oc,.bool ol,.int .i64 oA,.int .i64 oB,on]] X P)) (HP : Hid (∀ e w',P e w'->e = .returned (.bool true))) :
  Calls Tryz.prog 35 #[.pointer (some ⟨q,0,none⟩),.agg #[.int .i64 K,.bool oo,.string ok,.string ov,.string oc,.bool ol,.int .i64 oA,.int .i64 oB,on]] w P:=by
 obtain ⟨X,hX,HB,Hrow⟩ : ∃ X,w.alloc (.cells #[.int .i64 K,.bool oo,.string ok,.string ov,.string oc,.bool ol,.int .i64 oA,.int .i64 oB,on] 77) = X/\Hid (Below w.heap.size w X)/\Hid (OpAt X w.heap.size ⟨K,oo,ok,ov,oc,ol,oA,oB,on⟩) :=
  ⟨_,rfl,(Below.refl _ _).alloc (Nat.le_refl _) _,heap_alloc_new w _⟩
 obtain ⟨q0,q1⟩:=hq X HB.out
 obtain ⟨x0,x2,_⟩:=Hrow.out.cells
 have x1 : X.cell? ⟨w.heap.size,1,none⟩ = some (.bool oo):=by rw [cell_of_row _ _ _ _ _ _ Hrow.out];rfl
 have hx:=HX4.out X HB.out
 have Hb : Hid ((if oo = true then b1 else b0) = b):=hb
 have HC2:=HC.out X HB.out
 clear hq hb HX4 HC
 rcases hK with rfl | rfl
 all_goals
  go_enter Tryz.func35,Tryz.ntmps35
  go_upto_if 14 with (fail)
  go_cut [5] from 15 to 19 (fun v5 wx=>v5 = .pointer (some ⟨b,0,none⟩)/\wx = X)
  case first =>
   cases oo
   ·have hb : b0 = b:=Hb.out
    subst hb
    go_wp2
    go_meet
    exact ⟨rfl,rfl⟩
   ·have hb : b1 = b:=Hb.out
    subst hb
    go_wp2
    go_meet
    exact ⟨rfl,rfl⟩
  case rest =>
   obtain ⟨rfl,hwc⟩:=hcut
   subst hwc
   go_wp2_with (first
    | (refine wpList_load_row rfl 77 _ rfl w.heap.size rfl 77 _ (0,0) _ Hrow.out Tryz.underlying77 rfl infoOp ?_)
    | fail)
   refine HC2.mono ?_
   intro e w2 hP
   have he:=HP.out e w2 hP
   subst he
   have HF : Hid (P (.returned (.bool true)) w2):=hP
   clear hP HC2
   go_wp2
   exact HF.out
theorem step_syncs (K : Int) (hK : K = 4) (oo : Bool) (ok ov oc : ByteArray) (ol : Bool) (oA oB : Int) (on : Value) (hb : (if oo = true then b1 else b0) = b) (hq : Sides w q b0 b1) (HX4 : Hid (∀ X,Below w.heap.size w X->X.cell? ⟨b,4,none⟩ = some (.pointer (some ⟨x,0,none⟩))))
  (HC : Hid (∀ X,Below w.heap.size w X->Calls Tryz.prog 65 #[.pointer (some ⟨b,0,none⟩),.agg #[.int .i64 K,.bool oo,.string ok,.string ov,.string oc,.bool ol,.int .i64 oA,.int .i64 oB,on]] X P)) (HP : Hid (∀ e w',P e w'->e = .returned (.bool true))) :
  Calls Tryz.prog 35 #[.pointer (some ⟨q,0,none⟩),.agg #[.int .i64 K,.bool oo,.string ok,.string ov,.string oc,.bool ol,.int .i64 oA,.int .i64 oB,on]] w P:=by
 obtain ⟨X,hX,HB,Hrow⟩ : ∃ X,w.alloc (.cells #[.int .i64 K,.bool oo,.string ok,.string ov,.string oc,.bool ol,.int .i64 oA,.int .i64 oB,on] 77) = X/\Hid (Below w.heap.size w X)/\Hid (OpAt X w.heap.size ⟨K,oo,ok,ov,oc,ol,oA,oB,on⟩) :=
  ⟨_,rfl,(Below.refl _ _).alloc (Nat.le_refl _) _,heap_alloc_new w _⟩
 obtain ⟨q0,q1⟩:=hq X HB.out
 obtain ⟨x0,x2,_⟩:=Hrow.out.cells
 have x1 : X.cell? ⟨w.heap.size,1,none⟩ = some (.bool oo):=by rw [cell_of_row _ _ _ _ _ _ Hrow.out];rfl
 have hx:=HX4.out X HB.out
 have Hb : Hid ((if oo = true then b1 else b0) = b):=hb
 have HC2:=HC.out X HB.out
 clear hq hb HX4 HC
 subst hK
 ·go_enter Tryz.func35,Tryz.ntmps35
  go_upto_if 14 with (fail)
  go_cut [5] from 15 to 19 (fun v5 wx=>v5 = .pointer (some ⟨b,0,none⟩)/\wx = X)
  case first =>
   cases oo
   ·have hb : b0 = b:=Hb.out
    subst hb
    go_wp2
    go_meet
    exact ⟨rfl,rfl⟩
   ·have hb : b1 = b:=Hb.out
    subst hb
    go_wp2
    go_meet
    exact ⟨rfl,rfl⟩
  case rest =>
   obtain ⟨rfl,hwc⟩:=hcut
   subst hwc
   go_wp2_with (first
    | (refine wpList_load_row rfl 77 _ rfl w.heap.size rfl 77 _ (0,0) _ Hrow.out Tryz.underlying77 rfl infoOp ?_)
    | fail)
   refine HC2.mono ?_
   intro e w2 hP
   have he:=HP.out e w2 hP
   subst he
   have HF : Hid (P (.returned (.bool true)) w2):=hP
   clear hP HC2
   go_wp2
   exact HF.out
theorem step_tells (K : Int) (hK : K = 5\/K = 6) (oo : Bool) (ok ov oc : ByteArray) (ol : Bool) (oA oB : Int) (on : Value) (hb : (if oo = true then b1 else b0) = b) (hq : Sides w q b0 b1) (HX4 : Hid (∀ X,Below w.heap.size w X->X.cell? ⟨b,4,none⟩ = some (.pointer (some ⟨x,0,none⟩))))
  (HC : Hid (∀ X,Below w.heap.size w X->Calls Tryz.prog 66 #[.pointer (some ⟨q,0,none⟩),.pointer (some ⟨b,0,none⟩),.agg #[.int .i64 K,.bool oo,.string ok,.string ov,.string oc,.bool ol,.int .i64 oA,.int .i64 oB,on]] X P)) (HP : Hid (∀ e w',P e w'->e = .returned (.bool true))) :
  Calls Tryz.prog 35 #[.pointer (some ⟨q,0,none⟩),.agg #[.int .i64 K,.bool oo,.string ok,.string ov,.string oc,.bool ol,.int .i64 oA,.int .i64 oB,on]] w P:=by
 obtain ⟨X,hX,HB,Hrow⟩ : ∃ X,w.alloc (.cells #[.int .i64 K,.bool oo,.string ok,.string ov,.string oc,.bool ol,.int .i64 oA,.int .i64 oB,on] 77) = X/\Hid (Below w.heap.size w X)/\Hid (OpAt X w.heap.size ⟨K,oo,ok,ov,oc,ol,oA,oB,on⟩) :=
  ⟨_,rfl,(Below.refl _ _).alloc (Nat.le_refl _) _,heap_alloc_new w _⟩
 obtain ⟨q0,q1⟩:=hq X HB.out
 obtain ⟨x0,x2,_⟩:=Hrow.out.cells
 have x1 : X.cell? ⟨w.heap.size,1,none⟩ = some (.bool oo):=by rw [cell_of_row _ _ _ _ _ _ Hrow.out];rfl
 have hx:=HX4.out X HB.out
 have Hb : Hid ((if oo = true then b1 else b0) = b):=hb
 have HC2:=HC.out X HB.out
 clear hq hb HX4 HC
 rcases hK with rfl | rfl
 all_goals
  go_enter Tryz.func35,Tryz.ntmps35
  go_upto_if 14 with (fail)
  go_cut [5] from 15 to 19 (fun v5 wx=>v5 = .pointer (some ⟨b,0,none⟩)/\wx = X)
  case first =>
   cases oo
   ·have hb : b0 = b:=Hb.out
    subst hb
    go_wp2
    go_meet
    exact ⟨rfl,rfl⟩
   ·have hb : b1 = b:=Hb.out
    subst hb
    go_wp2
    go_meet
    exact ⟨rfl,rfl⟩
  case rest =>
   obtain ⟨rfl,hwc⟩:=hcut
   subst hwc
   go_wp2_with (first
    | (refine wpList_load_row rfl 77 _ rfl w.heap.size rfl 77 _ (0,0) _ Hrow.out Tryz.underlying77 rfl infoOp ?_)
    | fail)
   refine HC2.mono ?_
   intro e w2 hP
   have he:=HP.out e w2 hP
   subst he
   have HF : Hid (P (.returned (.bool true)) w2):=hP
   clear hP HC2
   go_wp2
   exact HF.out
end Go.Proofs.YtilkdeghknjjhaaGreatDoor
